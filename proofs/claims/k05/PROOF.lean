import PyProof.Rows.All
import Wide.All
import OpenK.AllK
import Wide.FinOn
import HandS.ForMost
import HandS.ForExc
import HandS.Codes
import HandS.Wide
import HandS.Gcd
import HandS.Flow
import HandS.IsInst
import HandS.ExcInit
import HandS.ExcField
import HandS.ExcIs
import HandS.Defaults
import HandS.MakeKw
import HandS.MakeKwOnly
import HandS.TryOnly
import HandS.EndBits
import KE.KExcIs
import KE.KOpsOwn
import HandS.ClsMeth
import HandS.Conv
import KE.KCallOwn
import HandS.Rev
import HandS.Deep
import HandS.Style
import PySem.Challenge.RW_seriessquares_k05_poly_made
set_option Elab.async false
set_option linter.all false
set_option maxRecDepth 100000
set_option maxHeartbeats 4000000
namespace Sq
open PySem L2
def top (i : Nat) : Stmt := PySem.Challenge.pw_seriessquares_k05_poly_made.main.body.getD i (.Pass ⟨0, 0, 0, 0⟩)
abbrev s_state : Stmt := top 43
abbrev s_draw : Stmt := top 44
abbrev s_gcd : Stmt := top 45
abbrev s_lisint : Stmt := top 46
/-- the heap stands but at p -/
def But (p : Addr) (H H' : Hp) : Prop := ∀ b o, H b = some o → b ≠ p → H' b = some o
theorem But.refl (p : Addr) (H : Hp) : But p H H := fun _ _ h _ => h
theorem But.trans {p : Addr} {H H1 H2 : Hp} (a : But p H H1) (b : But p H1 H2) : But p H H2 := fun c o h n => b c o (a c o h n) n
theorem But.upd {p : Addr} {H H1 : Hp} {o : HO} (a : But p H H1) : But p H (upd H1 p o) := fun c u h n => (upd_ne n).trans (a c u h n)
theorem But.new {p q : Addr} {H H1 : Hp} {o : HO} (a : But p H H1) (n : H1 q = none) : But p H (L2.upd H1 q o) := fun c u h nc => (upd_ne (ne_of_none (a c u h nc) n)).trans (a c u h nc)
theorem Same.but {p : Addr} {H H1 : Hp} (a : Same H H1) : But p H H1 := fun c u h _ => a c u h
/-- the five things of the state, and the script's ints -/
def St5 (H : Hp) (p a : Addr) (ns : List Int) (i l m c : Int) : Prop := H p = some (.lst [.ref a, .int i, .int l, .int m, .int c]) ∧ H a = some (.lst (ns.map V.int)) ∧ a ≠ p ∧ 0 ≤ i ∧ 0 ≤ m ∧ m < 2147483648
def StAt (H : Hp) (p : Addr) : Prop := ∃ a ns i l m c, St5 H p a ns i l m c
def spDraw : Sp := fun vs H Q _ => ∃ (p : Addr) (n : Int), vs = [.ref p, .int n] ∧ 0 < n ∧ n < 1073741824 ∧ StAt H p ∧ ∀ v H', 0 ≤ v → v < n → StAt H' p → But p H H' → Q (.int v) H'
/-- the state, its numbers at a -/
def StA (H : Hp) (p a : Addr) : Prop := ∃ ns i l m c, St5 H p a ns i l m c
theorem StA.at_ {H : Hp} {p a : Addr} (S : StA H p a) : StAt H p := ⟨a, S⟩
def spDrawA : Sp := fun vs H Q _ => ∃ (p : Addr) (n : Int) (a : Addr), vs = [.ref p, .int n] ∧ 0 < n ∧ n < 1073741824 ∧ StA H p a ∧ ∀ v H', 0 ≤ v → v < n → StA H' p a → But p H H' → Q (.int v) H'
theorem St5.set {H : Hp} {p a : Addr} {ns : List Int} {i l m c : Int} (S : St5 H p a ns i l m c) {i' l' m' c' : Int} (h0 : 0 ≤ i') (h1 : 0 ≤ m') (h2 : m' < 2147483648) :
    St5 (upd H p (.lst [.ref a, .int i', .int l', .int m', .int c'])) p a ns i' l' m' c' := ⟨upd_same, (upd_ne S.2.2.1).trans S.2.1, S.2.2.1, h0, h1, h2⟩
structure DTx (mg : Str → Option Value) : Prop where
  b_len : mg "len" = none
  b_abs : mg "abs" = none
  b_int : mg "int" = none
  b_range : mg "range" = none
section
variable {P : Program} {w : World} {K : PySem.W.Frag} {mg : Str → Option Value} {base : Heap}
theorem sc_draw : FnScope ["_law_state_here", "_law_many", "_law_item", "_law_found", "_law_twice"] ["_law_state_here", "_law_many"] (defScope s_draw) := ⟨rfl, rfl, rfl, by decide +kernel, rfl, by decide +kernel, by decide +kernel⟩
theorem ok_drawA {f : Addr} {fd : FuncData} (F : Fun K "_law_draw" "_law_draw" s_draw f fd) (T : DTx mg) : FnOk P w K mg base CX0 1 f fd ["_law_state_here", "_law_many"] spDrawA := by
  refine F.ok sc_draw (fun vs H Q E h => ?_) (fun cdv A outer s H vs Q E hr h => ?_)
  · obtain ⟨p, n, a, rfl, _⟩ := h
    rfl
  · obtain ⟨p, n, a, rfl, hn0, hn1, ⟨ns, i, l, m, c, S⟩, k⟩ := h
    refine ⟨_, (C8.pss_cut (ps_asg (pe_op op_add (pe_ix ix_list (pv 0) pe_int (fun _ _ => rfl)) pe_int) (pg_sub (pv 0) pe_int set_list))
      (C8.pss_cut (ps_if (PW.pt (pw_and (pt_cmpR op_le (pe_ix ix_list (pv 0) pe_int (fun _ _ => rfl)) pe_int (nomark _)) (pw_and1 (pt_cmpR op_lt (pe_ix ix_list (pv 0) pe_int (fun _ _ => rfl)) (pe_callB call_len_seq (by rfl) T.b_len (by decide +kernel) (pa_cons (pe_ix ix_list (pv 0) pe_int (fun _ _ => rfl)) pa_nil)) (nomark _)))))
        (pss_cons (ps_set (i := 2) sc_draw.nd rfl (Or.inl rfl) (pe_ix ix_list (pe_ix ix_list (pv 0) pe_int (fun _ _ => rfl)) (pe_ix ix_list (pv 0) pe_int (fun _ _ => rfl)) (fun _ _ => rfl)))
      (pss_cons (ps_asg (pe_op op_add (pe_ix ix_list (pv 0) pe_int (fun _ _ => rfl)) pe_int) (pg_sub (pv 0) pe_int set_list))
      (pss_one (ps_if (pt_cmpR op_ge (pe_callB call_abs (by rfl) T.b_abs (by decide +kernel) (pa_cons (pv 2) pa_nil)) (pe_op op_pow pe_int pe_int) (nomark _))
        (pss_one (ps_asg (pe_callB call_abs (by rfl) T.b_abs (by decide +kernel) (pa_cons (pv 2) pa_nil)) (pg_sub (pv 0) pe_int set_list)))
        (pss_cons (ps_asg pe_int (pg_sub (pv 0) pe_int set_list))
      (pss_one (ps_asg (pe_op op_mod (pe_callTy call_int1 (by rfl) T.b_int (by decide +kernel) (pa_cons (pe_op op_add (pe_op op_add (pe_op op_mul (pe_ix ix_list (pv 0) pe_int (fun _ _ => rfl)) pe_int) (pv 2)) (pe_op op_mul pe_int (pe_ix ix_list (pv 0) pe_int (fun _ _ => rfl)))) pa_nil)) pe_int) (pg_sub (pv 0) pe_int set_list))))))))
        pss_nil)
      (pss_cons (ps_if (pt_cmpR op_gt (pe_ix ix_list (pv 0) pe_int (fun _ _ => rfl)) pe_int (nomark _))
        (pss_cons (ps_set (i := 3) sc_draw.nd rfl (Or.inl rfl) (pe_op op_mod (pe_callTy call_int1 (by rfl) T.b_int (by decide +kernel) (pa_cons (pe_ix ix_list (pv 0) pe_int (fun _ _ => rfl)) pa_nil)) (pv 1)))
      (pss_cons (ps_asg (pe_op op_fdiv (pe_ix ix_list (pv 0) pe_int (fun _ _ => rfl)) (pv 1)) (pg_sub (pv 0) pe_int set_list))
      (pss_one (ps_ret (pv 3)))))
        pss_nil)
      (pss_cons (ps_asg (pe_op op_mod (pe_callTy call_int1 (by rfl) T.b_int (by decide +kernel) (pa_cons (pe_op op_add (pe_op op_add (pe_op op_mul (pe_ix ix_list (pv 0) pe_int (fun _ _ => rfl)) pe_int) (pe_op op_mul pe_int (pe_ix ix_list (pv 0) pe_int (fun _ _ => rfl)))) pe_int) pa_nil)) pe_int) (pg_sub (pv 0) pe_int set_list))
      (pss_cons (ps_set (i := 4) sc_draw.nd rfl (Or.inl rfl) (pe_op op_mod (pe_callTy call_int1 (by rfl) T.b_int (by decide +kernel) (pa_cons (pe_op op_mul (pe_ix ix_list (pv 0) pe_int (fun _ _ => rfl)) (pe_op op_add (pe_op op_fdiv (pe_ix ix_list (pv 0) pe_int (fun _ _ => rfl)) pe_int) pe_int)) pa_nil)) pe_int))
      (pss_one (ps_ret (pe_op op_mod (pe_op op_fdiv (pv 4) pe_int) (pv 1))))))))), ?_⟩
    obtain ⟨hp, ha, hap, h0, h1, h2⟩ := id S
    -- the count
    refine ⟨fun σ H' => σ = [some (.ref p), some (.int n), none, none, none] ∧ St5 H' p a ns i l m (c + 1) ∧ But p H H', ⟨_, rfl, _, _, _, _, rfl, rfl, SqL.of hp, rfl, _, _, rfl, rfl, _, rfl, _, _, _, _, rfl, rfl, hp, rfl, rfl, S.set h0 h1 h2, (But.refl _ _).upd⟩, ?_⟩
    rintro σ H1 ⟨rfl, S1, B1⟩
    obtain ⟨hp1, ha1, _⟩ := id S1
    -- the next number of the script
    refine ⟨fun σ H' => ∃ v2, σ = [some (.ref p), some (.int n), v2, none, none] ∧ (∃ i l m, St5 H' p a ns i l m (c + 1)) ∧ But p H H', ?_, ?_⟩
    · refine ⟨_, rfl, _, _, _, _, rfl, rfl, SqL.of hp1, rfl, _, _, rfl, rfl, _, rfl, ?_⟩
      refine ite2 (fun c1 => ?_) (fun c1 => iteF ⟨none, rfl, ⟨i, l, m, S1⟩, B1⟩)
      refine ⟨_, rfl, _, _, _, _, rfl, rfl, SqL.of hp1, rfl, _, rfl, _, _, _, _, rfl, rfl, SqL.of hp1, rfl, _, _, rfl, .inl (SqL.of ha1), _, _, rfl, rfl, _, rfl, ?_⟩
      refine ite2 (fun c2 => ?_) (fun c2 => ⟨none, rfl, ⟨i, l, m, S1⟩, B1⟩)
      have c2' : i.toNat < ns.length := by
        have := of_decide_eq_true c2
        rw [List.length_map] at this
        omega
      have hz : (ns.map V.int)[i.toNat]? = some (V.int ns[i.toNat]) := by
        rw [List.getElem?_map, List.getElem?_eq_getElem c2']
        rfl
      refine ⟨_, rfl, _, _, _, _, rfl, rfl, SqL.of hp1, rfl, _, rfl, _, _, _, _, rfl, rfl, SqL.of hp1, rfl, _, _, _, _, rfl, rfl, SqL.of ha1, at_of (j := i.toNat) (by omega) hz, ?_⟩
      generalize ns[i.toNat] = z
      refine ⟨_, rfl, _, _, _, _, rfl, rfl, SqL.of hp1, rfl, _, _, rfl, rfl, _, rfl, _, _, _, _, rfl, rfl, hp1, rfl, ?_⟩
      have S2 := S1.set (i' := i + 1) (l' := l) (m' := m) (c' := c + 1) (by omega) h1 h2
      refine ⟨_, rfl, _, rfl, _, _, rfl, rfl, ⟨by decide, by decide, by decide⟩, _, _, rfl, rfl, _, rfl, ?_⟩
      refine ite2 (fun c3 => ?_) (fun c3 => ?_)
      · refine ⟨_, rfl, _, rfl, _, rfl, _, _, _, _, rfl, rfl, S2.1, rfl, ?_⟩
        exact ⟨_, rfl, ⟨_, _, _, S2.set (by omega) h1 h2⟩, B1.upd.upd⟩
      · refine ⟨_, rfl, _, _, _, _, rfl, rfl, S2.1, rfl, ?_⟩
        have S3 := S2.set (i' := i + 1) (l' := 0) (m' := m) (c' := c + 1) (by omega) h1 h2
        refine ⟨_, rfl, _, _, _, _, rfl, rfl, SqL.of S3.1, rfl, _, _, rfl, rfl, .inr (by decide), _, rfl, _, _, rfl, rfl, _, rfl, _, _, _, _, rfl, rfl, SqL.of S3.1, rfl, _, _, rfl, rfl, .inl (by decide), _, _, rfl, rfl, .inl ⟨_, rfl, ?_⟩⟩
        refine ⟨_, _, rfl, rfl, (by show (0 : Int) < 2147483629; decide), _, rfl, _, _, _, _, rfl, rfl, S3.1, rfl, ?_⟩
        exact ⟨_, rfl, ⟨_, _, _, S3.set (by omega) (Int.emod_nonneg _ (by decide)) (Int.lt_trans (Int.emod_lt_of_pos _ (by decide)) (by decide))⟩, B1.upd.upd.upd⟩
    · rintro σ H2 ⟨v2, rfl, ⟨i, l, m, S2⟩, B2⟩
      obtain ⟨hp2, ha2, hap2, h02, h12, h22⟩ := id S2
      refine ⟨_, rfl, _, _, _, _, rfl, rfl, SqL.of hp2, rfl, _, _, rfl, rfl, _, rfl, ?_⟩
      refine ite2 (fun c1 => ?_) (fun c1 => ?_)
      · refine ⟨_, rfl, _, _, _, _, rfl, rfl, SqL.of hp2, rfl, .inl ⟨_, rfl, _, rfl, _, _, rfl, rfl, hn0, ?_⟩⟩
        refine ⟨_, rfl, _, _, _, _, rfl, rfl, SqL.of hp2, rfl, _, rfl, _, _, rfl, rfl, ⟨hn0, hn1⟩, _, rfl, _, _, _, _, rfl, rfl, hp2, rfl, ?_⟩
        exact ⟨_, rfl, k _ _ (Int.emod_nonneg _ (by omega)) (Int.emod_lt_of_pos _ hn0) ⟨ns, _, _, _, _, S2.set h02 h12 h22⟩ B2.upd⟩
      · refine ⟨_, rfl, _, _, _, _, rfl, rfl, SqL.of hp2, rfl, _, _, rfl, rfl, .inr (by decide), _, rfl, _, _, _, _, rfl, rfl, SqL.of hp2, rfl, _, _, rfl, rfl, .inl (by decide), _, _, rfl, rfl, _, _, rfl, rfl, .inl ⟨_, rfl, ?_⟩⟩
        refine ⟨_, _, rfl, rfl, (by show (0 : Int) < 2147483647; decide), _, rfl, _, _, _, _, rfl, rfl, hp2, rfl, ?_⟩
        have m0 : 0 ≤ (m * 48271 + 7919 * (c + 1) + 1) % 2147483647 := Int.emod_nonneg _ (by decide)
        have m1 : (m * 48271 + 7919 * (c + 1) + 1) % 2147483647 < 2147483647 := Int.emod_lt_of_pos _ (by decide)
        have S3 := S2.set (i' := i) (l' := l) (m' := (m * 48271 + 7919 * (c + 1) + 1) % 2147483647) (c' := c + 1) h02 m0 (by omega)
        refine ⟨_, rfl, _, _, _, _, rfl, rfl, SqL.of S3.1, rfl, _, rfl, _, _, _, _, rfl, rfl, SqL.of S3.1, rfl, _, _, rfl, rfl, ⟨by decide, by decide⟩, _, _, rfl, rfl, _, _, rfl, rfl, .inl ⟨Int.lt_of_lt_of_le (by decide) m0, Int.lt_trans m1 (by decide)⟩, .inl ⟨_, rfl, ?_⟩⟩
        refine ⟨_, _, rfl, rfl, (by show (0 : Int) < 2147483399; decide), ?_⟩
        refine ⟨_, rfl, _, _, rfl, rfl, ⟨by decide, by decide⟩, _, rfl, _, _, rfl, rfl, hn0, ?_⟩
        exact k _ _ (Int.emod_nonneg _ (by omega)) (Int.emod_lt_of_pos _ hn0) ⟨ns, _, _, _, _, S3⟩ B2.upd
theorem ok_draw {f : Addr} {fd : FuncData} (F : Fun K "_law_draw" "_law_draw" s_draw f fd) (T : DTx mg) : FnOk P w K mg base CX0 1 f fd ["_law_state_here", "_law_many"] spDraw :=
  (ok_drawA F T).imp fun vs H Q E ⟨p, n, e, h0, h1, ⟨a, S⟩, k⟩ => ⟨p, n, a, e, h0, h1, S, fun v H' v0 v1 S' B => k v H' v0 v1 ⟨a, S'⟩ B⟩
end
end Sq
namespace Sq
open PySem L2
/-- the state is made: the items' list is a new one -/
def spState (K : PySem.W.Frag) : Sp := fun vs H Q _ => ∃ (s : Addr) (ns : List Int), vs = [.ref s] ∧ SqL K H s (ns.map V.int) ∧ ns.length ≤ 63 ∧ ∀ p H', H p = none → StAt H' p → Same H H' → Q (.ref p) H'
theorem same_new {H H1 : Hp} {q : Addr} {o : HO} (a : Same H H1) (n : H1 q = none) : Same H (L2.upd H1 q o) := fun c u h => (upd_ne (ne_of_none (a c u h) n)).trans (a c u h)
theorem same_at {H H1 : Hp} {q : Addr} {o : HO} (a : Same H H1) (n : H q = none) : Same H (L2.upd H1 q o) := fun c u h => (upd_ne (ne_of_none h n)).trans (a c u h)
theorem take_map (ns : List Int) (k : Nat) : cutV (ns.map V.int) none (some ((k : Nat) : Int)) = (ns.take k).map V.int := by
  unfold cutV
  rw [HT.sIx_none, HT.sIx_nat, List.drop_zero, List.length_map, List.map_take]
  rw [Nat.sub_zero]
  by_cases h : k ≤ ns.length
  · rw [Nat.min_eq_left h]
  · rw [Nat.min_eq_right (by omega), List.take_of_length_le (by simp), List.take_of_length_le (by simp; omega)]
theorem map_get {ns : List Int} {i : Nat} {y : V} (hi : (ns.map V.int)[i]? = some y) : ∃ z, ns[i]? = some z ∧ y = V.int z := by
  rw [List.getElem?_map] at hi
  cases e : ns[i]? with
  | none =>
    rw [e] at hi
    cases hi
  | some z =>
    rw [e] at hi
    exact ⟨z, rfl, (Option.some.inj hi).symm⟩
theorem take_more {α : Type} {l : List α} {i : Nat} {x : α} (h : l[i]? = some x) : l.take (i + 1) = l.take i ++ [x] := by
  rw [List.take_add_one, h]
  rfl
theorem seq_at {K : PySem.W.Frag} {H : Hp} {a b : Addr} {xs : List V} {o : HO} (h : SqL K H a xs) (n : b ≠ a) : SqL K (upd H b o) a xs := by
  rcases h with (h | ⟨o, h⟩) | h
  · exact .inl (.inl ((upd_ne n.symm).trans h))
  · exact .inl (.inr ⟨o, (upd_ne n.symm).trans h⟩)
  · exact .inr h
section
variable {P : Program} {w : World} {K : PySem.W.Frag} {mg : Str → Option Value} {base : Heap}
theorem sc_state : FnScope ["_law_script", "_law_items", "_law_item"] ["_law_script"] (defScope s_state) := ⟨rfl, rfl, rfl, by decide +kernel, rfl, by decide +kernel, by decide +kernel⟩
theorem ok_state {f : Addr} {fd : FuncData} (F : Fun K "_law_state" "_law_state" s_state f fd) (T : DTx mg) : FnOk P w K mg base CX0 1 f fd ["_law_script"] (spState K) := by
  refine F.ok sc_state (fun vs H Q E h => ?_) (fun cdv A outer s H vs Q E hr h => ?_)
  · obtain ⟨p, n, rfl, _⟩ := h
    rfl
  · obtain ⟨a, ns, rfl, hS, hl, k⟩ := h
    refine ⟨_, pss_cons (ps_setLc (i := 1) (own := [("_law_item", 2)]) (g := gName 2) (tt := tYes) rfl sc_state.nd rfl rfl (sw_true rfl rfl rfl (by decide +kernel))
        (pi_list (pe_slice sl_list (pv 0) po_none (po_some pe_int))) (blkOk_by (N := ["_law_script", "_law_items", "_law_item"]) (sc := defScope s_state) (by decide +kernel)) (fun _ _ _ _ _ => pg_name (i := 2) sc_state.nd rfl (Or.inl rfl)) (fun _ _ _ _ _ => pts_nil)
        (fun _ _ _ _ _ => pe_callTy call_int1 (by rfl) T.b_int (by decide +kernel) (pa_cons (pv 2) pa_nil)))
      (pss_one (ps_ret (pe_lst (pa_cons (pv 1) (pa_cons pe_int (pa_cons pe_int (pa_cons (pe_op op_add pe_int (pe_callB call_len_seq (by rfl) T.b_len (by decide +kernel) (pa_cons (pv 1) pa_nil))) (pa_cons pe_int pa_nil)))))))), ?_⟩
    refine ⟨_, rfl, _, rfl, _, _, rfl, hS, fun q hq => ?_⟩
    have et : cutV (ns.map V.int) none (some 63) = (ns.take 63).map V.int := take_map ns 63
    have hq1 : SqL K (upd H q (.lst (cutV (ns.map V.int) none (some 63)))) q ((ns.take 63).map V.int) := by
      rw [et]
      exact SqL.of upd_same
    refine ⟨_, rfl, ⟨_, hq1⟩, fun D hD => ?_⟩
    have hDq : D ≠ q := fun e => by
      rw [e, upd_same] at hD
      cases hD
    have hDH : H D = none := by
      rw [upd_ne hDq] at hD
      exact hD
    refine lc_list (K := K) (a := q) (xs := (ns.take 63).map V.int) (fun i H' => H' D = some (.lst ((ns.take i).map V.int)) ∧ Same H H' ∧ SqL K H' q ((ns.take 63).map V.int)) ?_ (fun i H' _ h => h.2.2) ?_ ?_
    · refine ⟨by simpa using upd_same, same_new (same_new (Same.refl H) hq) hD, ?_⟩
      exact Same.seq (same_new (Same.refl _) hD) hq1
    · rintro i y H2 hi ⟨hD2, s2, hq2⟩
      obtain ⟨z, hz, rfl⟩ := map_get hi
      refine ⟨rfl, _, rfl, .inl ⟨_, rfl, ?_⟩⟩
      have hi1 : i < (ns.take 63).length := (List.getElem?_eq_some_iff.mp hz).1
      have hi63 : i < 63 := by
        rw [List.length_take] at hi1
        omega
      have hz' : ns[i]? = some z := by
        rw [List.getElem?_take] at hz
        rw [if_pos hi63] at hz
        exact hz
      refine ⟨_, hD2, small1000 (by rw [List.length_map, List.length_take]; omega), ?_, same_at s2 hDH, ?_⟩
      · rw [take_more hz', List.map_append]
        exact upd_same
      · exact seq_at hq2 hDq
    · rintro H2 ⟨hD2, s2, hq2⟩
      refine ⟨_, rfl, _, rfl, _, _, rfl, .inl (SqL.of hD2), _, _, rfl, rfl, (by show 5 ≤ sizeLine; decide), fun p hp => ?_⟩
      have hpD : D ≠ p := ne_of_none hD2 hp
      refine k p _ (s2.free hp) ⟨D, (ns.take 63).take (ns.take 63).length, 0, 0, _, 0, upd_same, (upd_ne hpD).trans ?_, hpD, by omega, by omega, ?_⟩ (same_new s2 hp)
      · rw [hD2, List.take_take, List.length_map]
        congr 4
        simp
      · rw [List.length_map, List.length_take]
        omega
end
end Sq
namespace Sq
open PySem L2
theorem fmod_lt (x : Int) {y : Int} (h : y ≠ 0) : (x.fmod y).natAbs < y.natAbs := by
  have e := Int.fmod_eq_emod (a := x) (b := y)
  have h1 := Int.emod_nonneg x h
  have h2 := Int.emod_lt x h
  by_cases c : 0 ≤ y ∨ y ∣ x
  · rw [if_pos c] at e
    omega
  · rw [if_neg c] at e
    have h3 : ¬ y ∣ x := fun d => c (.inr d)
    have h4 : x % y ≠ 0 := fun z => h3 (Int.dvd_of_emod_eq_zero z)
    omega
theorem gcd_fmod (x y : Int) : Int.gcd y (x.fmod y) = Int.gcd x y := by
  rw [Int.fmod_def, Int.gcd_sub_mul_left_right, Int.gcd_comm]
def spGcd : Sp := fun vs H Q _ => ∃ a b : Int, vs = [.int a, .int b] ∧ Q (.int ((Int.gcd a b : Nat) : Int)) H
/-- is it an int, no bool: for a value whose type is known -/
def isI : V → Bool
  | .int _ => true
  | _ => false
def IsTy (K : PySem.W.Frag) (H : Hp) (x : V) : Prop := ∃ t b1 b2, TyX K H x t ∧ PySem.W.kitOne K t (.type "int") = some b1 ∧ PySem.W.kitOne K t (.type "bool") = some b2 ∧ (b1 && !b2) = isI x
theorem IsTy.int {K : PySem.W.Frag} {H : Hp} (i : Int) : IsTy K H (.int i) := ⟨.type "int", true, false, .base (.int i), kit_ty (by decide +kernel), kit_ty (by decide +kernel), rfl⟩
theorem IsTy.bl {K : PySem.W.Frag} {H : Hp} (i : Bool) : IsTy K H (.bl i) := ⟨.type "bool", true, true, .base (.bl i), kit_ty (by decide +kernel), kit_ty (by decide +kernel), rfl⟩
theorem IsTy.non {K : PySem.W.Frag} {H : Hp} : IsTy K H .non := ⟨.type "NoneType", false, false, .base .non, kit_ty (by decide +kernel), kit_ty (by decide +kernel), rfl⟩
theorem IsTy.str {K : PySem.W.Frag} {H : Hp} (z : Str) : IsTy K H (.str z) := ⟨.type "str", false, false, .base (.str z), kit_ty (by decide +kernel), kit_ty (by decide +kernel), rfl⟩
theorem IsTy.lst {K : PySem.W.Frag} {H : Hp} {a : Addr} {xs : List V} (e : H a = some (.lst xs)) : IsTy K H (.ref a) := ⟨.type "list", false, false, .base (.lst e), kit_ty (by decide +kernel), kit_ty (by decide +kernel), rfl⟩
theorem IsTy.tup {K : PySem.W.Frag} {H : Hp} {a : Addr} {xs : List V} (e : H a = some (.tup xs)) : IsTy K H (.ref a) := ⟨.type "tuple", false, false, .base (.tup e), kit_ty (by decide +kernel), kit_ty (by decide +kernel), rfl⟩
theorem IsTy.dK {K : PySem.W.Frag} {H : Hp} {a : Addr} {xs : List (Key × V)} (e : H a = some (.dK xs)) : IsTy K H (.ref a) := ⟨.type "dict", false, false, .base (.dK e), kit_ty (by decide +kernel), kit_ty (by decide +kernel), rfl⟩
def spIsInt (K : PySem.W.Frag) : Sp := fun vs H Q _ => ∃ x, vs = [x] ∧ IsTy K H x ∧ Q (.bl (isI x)) H
def spGreat : Sp := fun vs H Q _ => ∃ p, vs = [.ref p] ∧ StAt H p ∧ ∀ v H', v.natAbs < 2 ^ 120 → StAt H' p → But p H H' → Q (.int v) H'
structure ITx (mg : Str → Option Value) : Prop where
  b_isinstance : mg "isinstance" = none
  b_int : mg "int" = none
  b_bool : mg "bool" = none
section
variable {P : Program} {w : World} {K : PySem.W.Frag} {mg : Str → Option Value} {base : Heap}
theorem sc_gcd : FnScope ["_law_one", "_law_other"] ["_law_one", "_law_other"] (defScope s_gcd) := ⟨rfl, rfl, rfl, by decide +kernel, rfl, by decide +kernel, by decide +kernel⟩
theorem ok_gcd {f : Addr} {fd : FuncData} (F : Fun K "_law_gcd" "_law_gcd" s_gcd f fd) (T : DTx mg) : FnOk P w K mg base CX0 1 f fd ["_law_one", "_law_other"] spGcd := by
  refine F.ok sc_gcd (fun vs H Q E h => ?_) (fun cdv A outer s H vs Q E hr h => ?_)
  · obtain ⟨a, b, rfl, _⟩ := h
    rfl
  · obtain ⟨a, b, rfl, k⟩ := h
    refine ⟨_, (pss_cons (ps_while PassesOwn.never (pt_cmpR op_ne (pv 1) pe_int (nomark _)) (pss_one (ps_par (i := 0) (j := 1) (by rfl) sc_gcd.nd rfl rfl (by decide) rfl rfl (pa_cons (pv 1) (pa_cons (pe_op op_modN (pe_callTy call_int1 (by rfl) T.b_int (by decide +kernel) (pa_cons (pv 0) pa_nil)) (pv 1)) pa_nil)) (by rfl))))
      (pss_one (ps_ret (pe_callB call_abs (by rfl) T.b_abs (by decide +kernel) (pa_cons (pv 0) pa_nil))))), ?_⟩
    refine while_by (fun σ H' => ∃ x y : Int, σ = [some (.int x), some (.int y)] ∧ Int.gcd x y = Int.gcd a b ∧ H' = H) (fun σ _ => match σ with | [_, some (.int y)] => y.natAbs | _ => 0) ⟨a, b, rfl, rfl, rfl⟩ ?_ ?_
    · rintro σ H' ⟨x, y, rfl, hg, rfl⟩
      refine ⟨_, rfl, rfl, _, rfl, ?_⟩
      refine ite2 (fun c => ?_) (fun c => ?_)
      · have hy : y ≠ 0 := fun e => by
          rw [e] at c
          exact absurd c (by decide)
        refine ⟨_, rfl, _, rfl, .inl ⟨_, rfl, _, rfl, _, _, rfl, rfl, hy, ?_⟩⟩
        exact ⟨_, _, rfl, ⟨_, _, rfl, (gcd_fmod x y).trans hg, rfl⟩, fmod_lt x hy⟩
      · have hy : y = 0 := by
          by_cases e : y = 0
          · exact e
          · exact absurd (by simp [e]) c
        subst hy
        refine ⟨_, rfl, _, rfl, ?_⟩
        rw [← hg] at k
        rw [Int.gcd_zero] at k
        have e : (if x < 0 then -x else x) = ((x.natAbs : Nat) : Int) := by
          split <;> omega
        rw [e]
        exact k
    · rintro σ H' Q1 Q2 hi ⟨v, e, u, z, e2, c⟩
      exact ⟨v, e, u, z, e2, hi _ _ c⟩
theorem sc_lisint : FnScope ["_law_told"] ["_law_told"] (defScope s_lisint) := ⟨rfl, rfl, rfl, by decide +kernel, rfl, by decide +kernel, by decide +kernel⟩
theorem ok_lisint {f : Addr} {fd : FuncData} (F : Fun K "_law_is_integer" "_law_is_integer" s_lisint f fd) (T : ITx mg) : FnOk P w K mg base CX0 1 f fd ["_law_told"] (spIsInt K) := by
  refine F.ok sc_lisint (fun vs H Q E h => ?_) (fun cdv A outer s H vs Q E hr h => ?_)
  · obtain ⟨x, rfl, _⟩ := h
    rfl
  · obtain ⟨x, rfl, ⟨t, b1, b2, ht, h1, h2, h3⟩, k⟩ := h
    refine ⟨_, pss_one (ps_ret (pe_and (pe_callB call_isi (by rfl) T.b_isinstance (by decide +kernel) (pa_cons (pv 0) (pa_cons (pe_bltn (v := .ty "int") (by rfl) T.b_int (by decide +kernel) rfl) pa_nil)))
      (pe_one (pe_not (pe_callB call_isi (by rfl) T.b_isinstance (by decide +kernel) (pa_cons (pv 0) (pa_cons (pe_bltn (v := .ty "bool") (by rfl) T.b_bool (by decide +kernel) rfl) pa_nil))))))), ?_⟩
    refine ⟨_, rfl, _, _, _, _, b1, rfl, .ty _, ht, h1, _, rfl, ?_⟩
    cases b1 with
    | false =>
      refine iteF ?_
      rw [← h3] at k
      exact k
    | true =>
      refine iteT ?_
      refine ⟨_, rfl, _, _, _, _, b2, rfl, .ty _, ht, h2, _, rfl, ?_⟩
      rw [← h3] at k
      exact k
end
end Sq

namespace Sq
open PySem L2 PyProof.Rows
abbrev s_noRatioInit : Stmt := inClass (top 4) 0
abbrev s_isint : Stmt := top 11
abbrev s_ratioInit : Stmt := inClass (top 18) 0
/-- // by any number but 0 whose size is below 2 ^ 9000 -/
def CDivZ (_ j : Int) : Prop := j ≠ 0 ∧ j.natAbs < 2 ^ 8000
theorem op_fdivZ {X : Cx} : OpR X (binaryOp .FloorDiv) (rI CDivZ fun i j => .int (i.fdiv j)) := opI fun i j _ _ _ _ _ hc q =>
  floordiv_int hc.1 q (.inl (PyProof.noPylong_of_log2 (Nat.lt_of_lt_of_le (PySem.Flt.log2_lt_of (by decide) hc.2) (by decide))))
/-! ### the fraction in lowest terms -/
structure Low (a b t u : Int) : Prop where
  pos : 1 ≤ u
  cop : Int.gcd t u = 1
  val : t * b = a * u
  lt : t.natAbs ≤ a.natAbs
  lu : u.natAbs ≤ b.natAbs
theorem low_of {a b c : Int} (hb : b ≠ 0) (hc : c = (Int.gcd a b : Int) ∧ 0 < b ∨ c = -(Int.gcd a b : Int) ∧ b < 0) : Low a b (a.fdiv c) (b.fdiv c) := by
  have hg : 0 < Int.gcd a b := Int.gcd_pos_of_ne_zero_right a hb
  have da : c ∣ a := by
    rcases hc with ⟨rfl, _⟩ | ⟨rfl, _⟩
    · exact Int.gcd_dvd_left ..
    · exact Int.neg_dvd.mpr (Int.gcd_dvd_left ..)
  have db : c ∣ b := by
    rcases hc with ⟨rfl, _⟩ | ⟨rfl, _⟩
    · exact Int.gcd_dvd_right ..
    · exact Int.neg_dvd.mpr (Int.gcd_dvd_right ..)
  have c0 : c ≠ 0 := by omega
  obtain ⟨t, ht⟩ := da
  obtain ⟨u, hu⟩ := db
  have et : a.fdiv c = t := by rw [ht]; exact Int.mul_fdiv_cancel_left _ c0
  have eu : b.fdiv c = u := by rw [hu]; exact Int.mul_fdiv_cancel_left _ c0
  rw [et, eu]
  have cn : c.natAbs = Int.gcd a b := by omega
  have c1 : 1 ≤ c.natAbs := by omega
  have gcu : Int.gcd a b = c.natAbs * Int.gcd t u := by
    rw [ht, hu, Int.gcd_mul_left]
  refine ⟨?_, ?_, ?_, ?_, ?_⟩
  · have : 0 < u := by
      rcases hc with ⟨h1, h2⟩ | ⟨h1, h2⟩
      · refine Int.pos_of_mul_pos_right (a := c) ?_ (by omega)
        rw [← hu]
        exact h2
      · refine Int.pos_of_mul_pos_right (a := -c) ?_ (by omega)
        rw [Int.neg_mul, ← hu]
        omega
    omega
  · rw [cn] at gcu
    exact (Nat.eq_of_mul_eq_mul_left hg (by rw [Nat.mul_one]; exact gcu)).symm
  · rw [ht, hu, Int.mul_assoc, Int.mul_left_comm]
  · rw [ht, Int.natAbs_mul]
    exact Nat.le_mul_of_pos_left _ c1
  · rw [hu, Int.natAbs_mul]
    exact Nat.le_mul_of_pos_left _ c1
/-! ### the objects -/
def rfl_ (t u : Int) : List (Str × V) := putF "bottom" (.int u) (putF "top" (.int t) [])
theorem tb : ¬ (("top" : Str) = "bottom") := by decide +kernel
theorem rf_top (t u : Int) : (rfl_ t u).lookup ("top" : Str) = some (.int t) := by
  unfold rfl_
  rw [lookup_putF, if_neg tb, lookup_putF, if_pos rfl]
theorem rf_bottom (t u : Int) : (rfl_ t u).lookup ("bottom" : Str) = some (.int u) := by
  unfold rfl_
  rw [lookup_putF, if_pos rfl]
theorem rf_no (t u : Int) {m : Str} (h1 : ¬ m = "bottom") (h2 : ¬ m = "top") : (rfl_ t u).lookup m = none := by
  unfold rfl_
  rw [lookup_putF, if_neg h1, lookup_putF, if_neg h2]
  rfl
def RatAt (C : Addr) (H : Hp) (x : Addr) (t u : Int) : Prop := ∃ dx, H x = some (.ins C dx (rfl_ t u))
/-- what a NoRatio carries -/
def wordAt (z : Str) : HO := .xd [(("word" : Str), .str z)]
/-- the word that is due, if any -/
def dueW (u v : V) : Option Str := if isI u then (if isI v then (if v = .int 0 then some "zero" else none) else some "bottom") else some "top"
def spRatioInit (K : PySem.W.Frag) (C CN : Addr) : Sp := fun vs H Q E => ∃ (x dx : Addr) (u v : V), vs = [.ref x, u, v] ∧ H x = some (.ins C dx []) ∧ IsTy K H u ∧ IsTy K H v ∧ (∀ b, v = .int b → b.natAbs < 2 ^ 8000) ∧
  (∀ z, dueW u v = some z → ∀ d, H d = none → E (.ref CN) (some d) (upd H d (wordAt z))) ∧
  (∀ a b, u = .int a → v = .int b → b ≠ 0 → ∀ t w H', Low a b t w → RatAt C H' x t w → But x H H' → Q .non H')
def spWordInit (CN : Addr) : Sp := fun vs H Q _ => ∃ (a : Addr) (y : V), vs = [.ref a, y] ∧ H a = some (exo a CN none) ∧ ∀ dx, H dx = none → dx ≠ a → Q .non (upd (upd H dx (exd dx [(("word" : Str), y)])) a (exo a CN (some dx)))
/-- the class of an error with the field word -/
structure NTx (K : PySem.W.Frag) (mg : Str → Option Value) (CN fN : Addr) : Prop where
  oex : OexC K CN
  nw : PySem.W.findIn K (.ref CN) "word" = some none
  iC : PySem.W.findIn K (.ref CN) "__init__" = some (some (.ref fN))
  tI : PySem.W.typeIn K (.ref fN) = some (.type "function")
structure CTx (K : PySem.W.Frag) (C : Addr) : Prop where
  cl : Cls K C
  nT : NoAttr K C "top"
  nB : NoAttr K C "bottom"
section
variable {P : Program} {w : World} {K : PySem.W.Frag} {mg : Str → Option Value} {base : Heap}
theorem sc_noRatioInit : FnScope ["self", "word"] ["self", "word"] (defScope s_noRatioInit) := ⟨rfl, rfl, rfl, by decide +kernel, rfl, by decide +kernel, by decide +kernel⟩
theorem ok_noRatioInit {f CN fN : Addr} {fd : FuncData} (F : Fun K "__init__" "NoRatio.__init__" s_noRatioInit f fd) (T : NTx K mg CN fN) : FnOk P w K mg base CX0 1 f fd ["self", "word"] (spWordInit CN) := by
  refine F.ok sc_noRatioInit (fun vs H Q E h => ?_) (fun cdv A outer s H vs Q E hr h => ?_)
  · obtain ⟨x, y, rfl, _⟩ := h
    rfl
  · obtain ⟨a, y, rfl, ha, k⟩ := h
    refine ⟨_, pss_one (ps_ost (pv 0) (pv 1)), ?_⟩
    exact ⟨_, rfl, _, rfl, a, CN, rfl, T.oex, T.nw, .inl ⟨ha, fun dx h1 h2 => k dx h1 h2⟩⟩
theorem sc_isint : FnScope ["value"] ["value"] (defScope s_isint) := ⟨rfl, rfl, rfl, by decide +kernel, rfl, by decide +kernel, by decide +kernel⟩
theorem ok_isint {f : Addr} {fd : FuncData} (F : Fun K "is_an_integer" "is_an_integer" s_isint f fd) (T : ITx mg) : FnOk P w K mg base CX0 1 f fd ["value"] (spIsInt K) := by
  refine F.ok sc_isint (fun vs H Q E h => ?_) (fun cdv A outer s H vs Q E hr h => ?_)
  · obtain ⟨x, rfl, _⟩ := h
    rfl
  · obtain ⟨x, rfl, ⟨t, b1, b2, ht, h1, h2, h3⟩, k⟩ := h
    refine ⟨_, pss_one (ps_ret (pe_and (pe_callB call_isi (by rfl) T.b_isinstance (by decide +kernel) (pa_cons (pv 0) (pa_cons (pe_bltn (v := .ty "int") (by rfl) T.b_int (by decide +kernel) rfl) pa_nil)))
      (pe_one (pe_not (pe_callB call_isi (by rfl) T.b_isinstance (by decide +kernel) (pa_cons (pv 0) (pa_cons (pe_bltn (v := .ty "bool") (by rfl) T.b_bool (by decide +kernel) rfl) pa_nil))))))), ?_⟩
    refine ⟨_, rfl, _, _, _, _, b1, rfl, .ty _, ht, h1, _, rfl, ?_⟩
    cases b1 with
    | false =>
      refine iteF ?_
      rw [← h3] at k
      exact k
    | true =>
      refine iteT ?_
      refine ⟨_, rfl, _, _, _, _, b2, rfl, .ty _, ht, h2, _, rfl, ?_⟩
      rw [← h3] at k
      exact k
end
end Sq
namespace Sq
open PySem L2 PyProof.Rows
theorem xd_eq {H : Hp} {a d CN : Addr} {y : V} (ha : H a = none) (n : d ≠ a) : upd (L2.del (upd (upd (upd H a (exo a CN none)) d (exd d [(("word" : Str), y)])) a (exo a CN (some d))) a) d (.xd [(("word" : Str), y)]) = upd H d (.xd [(("word" : Str), y)]) := by
  funext b
  by_cases h1 : b = d
  · subst h1
    rw [upd_same, upd_same]
  · rw [upd_ne h1, upd_ne h1]
    by_cases h2 : b = a
    · subst h2
      rw [del_same, ha]
    · rw [del_ne h2, upd_ne h2, upd_ne h1, upd_ne h2]
theorem mkO_read {CN : Addr} {z : Str} {H : Hp} {E : XK} (h : ∀ d, H d = none → E (.ref CN) (some d) (upd H d (wordAt z))) : ∀ a, H a = none → spWordInit CN (.ref a :: ([.str z] ++ [])) (upd H a (exo a CN none))
    (fun v H2 => v = .non ∧ ∃ (d : Addr) (fs : List (Str × V)), H2 a = some (exo a CN (some d)) ∧ H2 d = some (exd d fs) ∧ H d = none ∧ E (.ref CN) (some d) (upd (L2.del H2 a) d (.xd fs))) (fun _ _ _ => False) := fun a ha => by
  refine ⟨a, _, rfl, upd_same, fun dx h1 h2 => ⟨rfl, dx, [(("word" : Str), V.str z)], upd_same, ?_, ?_, ?_⟩⟩
  · exact (upd_ne h2).trans upd_same
  · rw [upd_ne h2] at h1
    exact h1
  · rw [upd_ne h2] at h1
    rw [xd_eq ha h2]
    exact h dx h1
theorem isI_int : ∀ {u : V}, isI u = true → ∃ a, u = .int a
  | .int i, _ => ⟨i, rfl⟩
  | .non, h => by cases h
  | .bl _, h => by cases h
  | .str _, h => by cases h
  | .byt _, h => by cases h
  | .flt _, h => by cases h
  | .ref _, h => by cases h
  | .ty _, h => by cases h
structure GTx (mg : Str → Option Value) (CN : Addr) : Prop where
  g_gcd : mg "gcd" = some (.builtin "math.gcd")
  m_NoRatio : mg "NoRatio" = some (.ref CN)
section
variable {P : Program} {w : World} {K : PySem.W.Frag} {mg : Str → Option Value} {base : Heap}
theorem sc_ratioInit : FnScope ["self", "top", "bottom", "common"] ["self", "top", "bottom"] (defScope s_ratioInit) := ⟨rfl, rfl, rfl, by decide +kernel, rfl, by decide +kernel, by decide +kernel⟩
theorem ok_ratioInit {f C CN fN fI : Addr} {fd fdN fdI : FuncData} (F : FunD K "__init__" "Ratio.__init__" (defArgs s_ratioInit) (defBody s_ratioInit) (defScope s_ratioInit) [.int 1] [] f fd) (T : CTx K C) (N : NTx K mg CN fN) (G : GTx mg CN)
    (G_N : FnOk P w K mg base CX0 1 fN fdN ["self", "word"] (spWordInit CN)) (b_N : Binds K fdN ["self", "word"] [])
    (G_I : FnOk P w K mg base CX0 1 fI fdI ["value"] (spIsInt K)) (m_I : mg "is_an_integer" = some (.ref fI)) (k_I : PySem.W.keepIn K (.ref fI) = true) (b_I : Binds K fdI ["value"] []) :
    FnOk P w K mg base (L2.CX P w) 3 f fd ["self", "top", "bottom"] (spRatioInit K C CN) := by
  refine F.ok sc_ratioInit (fun vs H Q E h => ?_) (fun cdv A outer s H vs Q E hr h => ?_)
  · obtain ⟨x, dx, u, v, rfl, _⟩ := h
    rfl
  · obtain ⟨x, dx, u, v, rfl, hx, tu, tv, hs, kE, kQ⟩ := h
    have hr1 : Room 1 _ := hr.mono (by decide)
    have raise := fun (z : Str) => (mkO_read (CN := CN) (z := z) (H := H) (E := E))
    refine ⟨_, (pss_cons (ps_if (pt_not (pt_val (pe_call G_I hr1 rfl m_I k_I b_I .nil pass0 (pa_cons (pv 1) pa_nil)))) (pss_one (ps_raise rfl (takes_of rfl rfl rfl rfl) (pmk_oex N.oex N.iC N.tI G_N hr b_N .nil pass0 rfl G.m_NoRatio (pa_cons pe_str pa_nil)))) pss_nil)
      (pss_cons (ps_if (pt_not (pt_val (pe_call G_I hr1 rfl m_I k_I b_I .nil pass0 (pa_cons (pv 2) pa_nil)))) (pss_one (ps_raise rfl (takes_of rfl rfl rfl rfl) (pmk_oex N.oex N.iC N.tI G_N hr b_N .nil pass0 rfl G.m_NoRatio (pa_cons pe_str pa_nil)))) pss_nil)
      (pss_cons (ps_if (pt_cmpR op_eq (pv 2) pe_int (nomark _)) (pss_one (ps_raise rfl (takes_of rfl rfl rfl rfl) (pmk_oex N.oex N.iC N.tI G_N hr b_N .nil pass0 rfl G.m_NoRatio (pa_cons pe_str pa_nil)))) pss_nil)
      (pss_cons (ps_set (i := 3) sc_ratioInit.nd rfl (Or.inl rfl) (pe_callBfun cr_gcd rfl G.g_gcd (pa_cons (pv 1) (pa_cons (pv 2) pa_nil))))
      (C8.pss_cut (ps_if (pt_cmpR op_lt (pv 2) pe_int (nomark _)) (pss_one (ps_set (i := 3) sc_ratioInit.nd rfl (Or.inl rfl) (pe_un un_neg (pv 3)))) pss_nil)
      (pss_cons (ps_fld (pv 0) (pe_op op_fdivZ (pv 1) (pv 3)) rfl)
      (pss_one (ps_fld (pv 0) (pe_op op_fdivZ (pv 2) (pv 3)) rfl)))))))), ?_⟩
    refine ⟨_, rfl, u, rfl, tu, _, rfl, ?_⟩
    cases eu : isI u with
    | false =>
      refine iteT ⟨by decide, raise "top" ?_⟩
      exact kE "top" (by unfold dueW; rw [eu]; rfl)
    | true =>
      refine iteF ⟨_, rfl, v, rfl, tv, _, rfl, ?_⟩
      cases ev : isI v with
      | false =>
        refine iteT ⟨by decide, raise "bottom" ?_⟩
        exact kE "bottom" (by unfold dueW; rw [eu, ev]; rfl)
      | true =>
        obtain ⟨a, rfl⟩ : ∃ a, u = .int a := by
          exact isI_int eu
        obtain ⟨b, rfl⟩ : ∃ b, v = .int b := by
          exact isI_int ev
        refine iteF ⟨_, rfl, rfl, _, rfl, ?_⟩
        refine ite2 (fun c => ?_) (fun c => ?_)
        · refine ⟨by decide, raise "zero" ?_⟩
          have e : b = 0 := by simpa using c
          subst e
          exact kE "zero" rfl
        · have hb : b ≠ 0 := fun e => c (by simp [e])
          refine ⟨_, rfl, _, rfl, a, b, rfl, ?_⟩
          refine ⟨fun σ H' => H' = H ∧ ∃ c : Int, σ = [some (.ref x), some (.int a), some (.int b), some (.int c)] ∧ (c = (Int.gcd a b : Int) ∧ 0 < b ∨ c = -(Int.gcd a b : Int) ∧ b < 0), ?_, ?_⟩
          · refine ⟨_, rfl, _, _, rfl, rfl, _, rfl, ?_⟩
            refine ite2 (fun c1 => ?_) (fun c1 => ?_)
            · refine ⟨_, rfl, _, rfl, rfl, _, rfl, .inr ⟨rfl, of_decide_eq_true c1⟩⟩
            · have c2 : ¬ b < 0 := fun e => c1 (decide_eq_true e)
              exact ⟨rfl, _, rfl, .inl ⟨rfl, by omega⟩⟩
          · rintro σ H' ⟨rfl, g, rfl, hg⟩
            have L := low_of hb hg
            have hgb : Int.gcd a b ≤ b.natAbs := Nat.le_of_dvd (by omega) (Int.gcd_dvd_natAbs_right ..)
            have hgp : 0 < Int.gcd a b := Int.gcd_pos_of_ne_zero_right a hb
            have cz : CDivZ a g := ⟨by omega, by have := hs b rfl; omega⟩
            refine ⟨_, rfl, _, rfl, _, _, rfl, rfl, cz, _, rfl, x, C, dx, [], rfl, hx, T.cl, T.nT, (by show 0 < 1000; decide), ?_⟩
            refine ⟨_, rfl, _, rfl, _, _, rfl, rfl, cz, _, rfl, x, C, dx, _, rfl, upd_same, T.cl, T.nB, (by show 1 < 1000; decide), ?_⟩
            exact kQ a b rfl rfl hb _ _ _ L ⟨dx, upd_same⟩ (But.refl x _).upd.upd
end
end Sq

namespace Sq
open PySem L2 PyProof.Rows
/-- C(..) in a try's body: what leaves is wished for at the slots -/
def tMkS (C : Addr) (sp : Sp) (dvs : List V) (W : L2.St → XK) (t : TA) : TE := fun σ H Q => t σ H fun vs H1 => ∀ y dy, H1 y = none → H1 dy = none → dy ≠ y →
  sp (.ref y :: (vs ++ dvs)) (upd (upd H1 dy (.own y)) y (.ins C dy [])) (fun v H2 => v = .non ∧ Q (.ref y) H2) (W σ)
theorem pe_mkS {X : Cx} {CX : CXT} {k : Nat} {f C : Addr} {fd : FuncData} {ps : List Str} {sp : Sp} {dvs : List V} {ds : List Value} {W : L2.St → XK} {x : Str} {p pos : Pos} {e : Expr} {es : List Expr} {t : TA}
    (M : Mk X.K C f) (G : FnOk X.prog X.w X.K X.mg X.base CX k f fd ps sp) (room : Room (k + 1) X.A) (gl : Gl X x) (mx : X.mg x = some (.ref C)) (bi : Binds X.K fd ps ds) (dv : Vals dvs ds) (ok : ∀ σ, PassesAt CX X σ (W σ))
    (ha : PA X (e :: es) t) (nd : (x == ("__debug__" : Str)) = false := by decide) (st : starEach (e :: es) X.env = (false, eval e X.env) :: starEach es X.env := by rfl)
    (pl : (backTo pos (starEach es X.env)).any (·.1) = false := by rfl) : PE X (.Call (.Name x p) (e :: es) [] pos) (tMkS C sp dvs W t) := by
  refine ⟨fun pins s σ H Q I h => wpAny_Call_Name_kw (ld_glob I gl mx (PySem.W.callWith_K (h₀ := X.base) I.ok.mod.kin M.kp (thn (ha.run pos pins s σ H _ I h) fun us s1 hh => ?_) st pl) nd)⟩
  obtain ⟨vs, H1, I1, r, q⟩ := hh
  refine ⟨I1.kIn, ?_⟩
  have n1 : H1 (s1.heap.objs.size + 1) = none := I1.hok.fresh (Nat.le_succ _)
  have n0 : H1 s1.heap.objs.size = none := I1.hok.fresh (Nat.le_refl _)
  have want := q _ _ n1 n0 (Nat.ne_of_lt (Nat.lt_succ_self _))
  have J := Inv.made (C := C) I1
  have rr : Vals (V.ref (s1.heap.objs.size + 1) :: (vs ++ dvs)) (Value.ref (s1.heap.objs.size + 1) :: (us ++ ds)) := Paired.cons rfl (Vals.append r dv)
  have lens : (Value.ref (s1.heap.objs.size + 1) :: us ++ ds).length = ps.length := (rr.length.symm.trans (G.len _ _ _ _ want))
  have run := G.run _ X.stack _ _ ⟨Value.ref (s1.heap.objs.size + 1) :: us, []⟩ (Value.ref (s1.heap.objs.size + 1) :: (us ++ ds)) _ _ (W σ) (room.make C us []) (J.env0.make C us []) (bi _ (Value.ref (s1.heap.objs.size + 1) :: us) J.kIn lens) rr want
  refine wpAny_call (make_map (f := f) I1.kIn M.makes M.init (beq_iff_eq.mp M.fn) (codeAny_mono run fun res s2 out => ?_))
  cases res with
  | error er => exact ok σ pins _ _ er s2 J out
  | ok flow =>
    cases flow with
    | ret val =>
      obtain ⟨v, H3, J3, rv, ev, z⟩ := J.after out
      cases ev
      exact ⟨rv, V.ref (s1.heap.objs.size + 1), H3, J3, rfl, z⟩
    | next => cases out
    | brk => cases out
    | cont => cases out
/-- isinstance(e, c), e the caught error with its own dict -/
structure EIx (K : PySem.W.Frag) (D : Addr) : Prop where
  hcl : (PySem.W.clsIn K D).isSome = true
  hga : PySem.W.findIn K (.ref D) "__getattribute__" = some (some (.builtin "BaseException.__getattribute__"))
  hgt : PySem.W.findIn K (.ref D) "__getattr__" = some none
  hsub : PySem.W.subIn K (.ref D) (.type "BaseException") = some true
  ha : PySem.W.findIn K (.ref D) "__class__" = some (some (.builtin "object.__class__"))
  hn : PySem.W.specialIn K (.builtin "object.__class__") "__get__" = some (some (.builtin "getset_descriptor.__get__"))
  htk : PySem.W.takesIn K (.builtin "object.__class__") = some true
  hm : PySem.W.mroIn K D (.type "object") = some true
def rIsX (K : PySem.W.Frag) (D a : Addr) (cls : Value) (d : Option Addr) : List V → Hp → VK → Prop := fun xs H Q => ∃ (c : V) (cv : Value) (b : Bool) (dd : Addr) (fs : List (Str × V)), xs = [.ref a, c] ∧ ClsV c cv ∧ PySem.W.kitOne K (.ref D) cv = some b ∧
  cls = .ref D ∧ d = some dd ∧ H dd = some (.xd fs) ∧ Q (.bl b) H
theorem call_isX {X : Cx} {a D : Addr} {oe : Obj} {cls : Value} {d : Option Addr} {pn : List (Addr × Obj)} (C : EIx X.K D) (hz : Zc cls d oe) (hf : ∃ vs, oe.data = .fields vs) : CallR (X.suite a ((a, oe) :: pn)) (.builtin "isinstance") (rIsX X.K D a cls d) := by
  intro pins s σ H xs us Q I r h
  obtain ⟨c, cv, b, dd, fs, rfl, hcv, e, ec, ed, hd, q⟩ := h
  obtain ⟨x1, x2, e1, r1, r2⟩ : ∃ x1 x2, us = [x1, x2] ∧ RelV (.ref a) x1 ∧ RelV c x2 := by
    cases r with
    | cons rx rr =>
      cases rr with
      | cons rt rn =>
        cases rn
        exact ⟨_, _, rfl, rx, rt⟩
  subst e1
  have e1 : x1 = Value.ref a := r1
  subst e1
  have e2 := hcv.eq r2
  subst e2
  obtain ⟨hget, _⟩ := I.pin (a, oe) (List.mem_append.mpr (.inl List.mem_cons_self))
  obtain ⟨vs, hv⟩ := hf
  obtain ⟨mA, hns, _⟩ := (show ObjOk X.prog X.w H s.heap dd (.xd fs) from I.hok dd _ hd)
  obtain ⟨od, ho, _⟩ := lookIn_ns hns
  have J : PySem.W.InstAt s.heap a oe D (some od) := ⟨hget, hz.1.trans ec, by unfold PySem.W.notCls; rw [hv], by rw [hz.2, ed]; exact ho⟩
  exact PySem.W.kia_one (PySem.W.kitx_exc C.hcl C.hga C.hgt C.hsub C.ha C.hn C.htk C.hm) I.kIn J e (fun z => nomatch z) fun tk => ⟨.bl b, H, I.kept (t' := tk) fun _ _ z => z, rfl, q⟩
structure ITy (K : PySem.W.Frag) (C : Addr) : Prop where
  ha : PySem.W.findIn K (.ref C) "__class__" = some (some (.builtin "object.__class__"))
  hn : PySem.W.specialIn K (.builtin "object.__class__") "__get__" = some (some (.builtin "getset_descriptor.__get__"))
  htk : PySem.W.takesIn K (.builtin "object.__class__") = some true
  hm : PySem.W.mroIn K C (.type "object") = some true
  kI : PySem.W.kitOne K (.ref C) (.type "int") = some false
  kB : PySem.W.kitOne K (.ref C) (.type "bool") = some false
theorem kit_self {K : PySem.W.Frag} {C : Addr} : PySem.W.kitOne K (.ref C) (.ref C) = some true := by
  unfold PySem.W.kitOne
  rw [if_pos (by simp)]
theorem RatAt.ty {K : PySem.W.Frag} {C : Addr} {H : Hp} {x : Addr} {t u : Int} (T : CTx K C) (Y : ITy K C) (h : RatAt C H x t u) : TyX K H (.ref x) (.ref C) := by
  obtain ⟨dx, h⟩ := h
  exact .base (.ins h T.cl Y.ha Y.hn Y.htk Y.hm)
theorem RatAt.isTy {K : PySem.W.Frag} {C : Addr} {H : Hp} {x : Addr} {t u : Int} (T : CTx K C) (Y : ITy K C) (h : RatAt C H x t u) : IsTy K H (.ref x) := ⟨_, _, _, h.ty T Y, Y.kI, Y.kB, rfl⟩
theorem mul_ok {a b : Int} (ha : a.natAbs < 2 ^ 4000) (hb : b.natAbs < 2 ^ 4000) : CMulW a b := wide_mul ha hb (by decide) (by decide) (by decide)
theorem IsTy.same {K : PySem.W.Frag} {H H' : Hp} {x : V} (s : Same H H') (h : IsTy K H x) : IsTy K H' x := by
  obtain ⟨t, b1, b2, ty, h1, h2, h3⟩ := h
  refine ⟨t, b1, b2, ?_, h1, h2, h3⟩
  cases ty with
  | base b =>
    refine .base ?_
    cases b with
    | non => exact .non
    | bl => exact .bl _
    | int => exact .int _
    | str => exact .str _
    | flt => exact .flt _
    | lst e => exact .lst (s _ _ e)
    | frz e => exact .frz (s _ _ e)
    | tup e => exact .tup (s _ _ e)
    | dK e => exact .dK (s _ _ e)
    | dT e => exact .dT (s _ _ e)
    | ins e c1 c2 c3 c4 c5 => exact .ins (s _ _ e) c1 c2 c3 c4 c5
  | byt => exact .byt _
  | set e => exact .set (s _ _ e)
  | kList e c => exact .kList e c
  | kTuple e c => exact .kTuple e c
  | kDict e c => exact .kDict e c
  | fTuple e => exact .fTuple (s _ _ e)
  | fDict e => exact .fDict (s _ _ e)
theorem same_made {H H1 : Hp} {x dx C : Addr} (nx : H x = none) (nd : H dx = none) (k : But x (upd (upd H dx (.own x)) x (.ins C dx [])) H1) : Same H H1 := fun b o e =>
  k b o (by rw [upd_ne (ne_of_none e nx), upd_ne (ne_of_none e nd)]; exact e) (ne_of_none e nx)
theorem same_pair {H : Hp} {x dx C : Addr} (nx : H x = none) (nd : H dx = none) (ne : dx ≠ x) : Same H (upd (upd H dx (.own x)) x (.ins C dx [])) := same_new (same_new (Same.refl H) nd) ((upd_ne ne.symm).trans nx)
theorem due_none {a b : Int} (hb : b ≠ 0) : dueW (.int a) (.int b) = none := by
  unfold dueW
  have : ¬ (V.int b = V.int 0) := fun e => hb (V.int.inj e)
  simp [isI, this]
theorem due_top {u v : V} (h : isI u = false) : dueW u v = some ("top" : Str) := by
  unfold dueW
  simp [h]
theorem due_bottom {a : Int} {v : V} (h : isI v = false) : dueW (.int a) v = some ("bottom" : Str) := by
  unfold dueW
  rw [if_pos (show isI (.int a) = true from rfl), h, if_neg Bool.false_ne_true]
theorem mk_go {K : PySem.W.Frag} {C CN x dx : Addr} {H : Hp} {a b : Int} {Q : VK} {E : XK} (hb : b ≠ 0) (sb : b.natAbs < 2 ^ 8000) (nx : H x = none) (ndx : H dx = none) (_ne : dx ≠ x) (k : ∀ t u H', Low a b t u → RatAt C H' x t u → Same H H' → Q .non H') :
    spRatioInit K C CN [.ref x, .int a, .int b] (upd (upd H dx (.own x)) x (.ins C dx [])) Q E :=
  ⟨x, dx, _, _, rfl, upd_same, .int _, .int _, fun b' e => (by cases e; exact sb), fun z hz => (by rw [due_none hb] at hz; cases hz), fun a' b' ea eb _ t w H' L R Bt => by
    cases ea
    cases eb
    exact k t w H' L R (same_made nx ndx Bt)⟩
def spLaw (K : PySem.W.Frag) : Sp := fun vs H Q _ => ∃ (a : Addr) (ns : List Int), vs = [.ref a] ∧ SqL K H a (ns.map V.int) ∧ ns.length ≤ 63 ∧ ∀ H', Q (.bl true) H'
end Sq

namespace Sq
open PySem L2 PyProof.Rows
/-- o.m(..) in a try's body: what leaves is wished for at the slots -/
def tMtS (C : Addr) (m : Str) (sp : Sp) (W : L2.St → XK) (to : TE) (t : TA) : TE := fun σ H Q => to σ H fun x H1 => ∃ a dy fs, x = .ref a ∧ H1 a = some (.ins C dy fs) ∧ fs.lookup m = none ∧ t σ H1 fun vs H2 => sp (x :: vs) H2 Q (W σ)
theorem pe_mtS {X : Cx} {CX : CXT} {k : Nat} {f C : Addr} {fd : FuncData} {ps : List Str} {sp : Sp} {W : L2.St → XK} {m : Str} {apos pos : Pos} {o e : Expr} {es : List Expr} {to : TE} {t : TA} {pl : Sem Bool}
    (ho : PE X o to) (cl : Cls X.K C) (me : Meth X.K C m f) (G : FnOk X.prog X.w X.K X.mg X.base CX k f fd ps sp) (room : Room k X.A) (bi : Binds X.K fd ps []) (ok : ∀ σ, PassesAt CX X σ (W σ)) (ha : PA X (e :: es) t)
    (st : starEach (e :: es) X.env = (false, eval e X.env) :: starEach es X.env := by rfl) (np : (backTo pos (starEach es X.env)).any (·.1) = false := by rfl)
    (ev : eval (.Call (.Attribute o m apos) (e :: es) [] pos) X.env = (do let ov ← eval o X.env; standAt apos.atName; let (f, first) ← holding [ov] (getMethod ov m pl); callWith pos f first (backTo pos (starEach (e :: es) X.env)) (backToKw pos (keywordEach [] X.env))) := by rfl) :
    PE X (.Call (.Attribute o m apos) (e :: es) [] pos) (tMtS C m sp W to t) := by
  refine ⟨fun pins s σ H Q I h => PySem.W.methodCall_KW (pl := pl) (thn (ho.run pins s σ H _ I h) fun u s1 hh => ?_) ev⟩
  obtain ⟨x, H1, I1, rx, a, dy, fs, ex, ea, l, q⟩ := hh
  cases ex
  cases rx
  refine getmeth_ok I1 ea cl me l (PySem.W.callWith_K (first := [.ref a]) (h₀ := X.base) I.ok.mod.kin me.kp (thn (ha.run pos pins s1 σ H1 _ I1 q) fun us s2 h2 => ?_) st np)
  obtain ⟨vs, H2, I2, r, q2⟩ := h2
  exact ⟨I2.kIn, run_fnS (us := .ref a :: us) (vs := .ref a :: vs) G room bi (ok σ) I2 (.cons rfl r) q2⟩
/-! ### sizes by powers of two -/
def B (n : Nat) (x : Int) : Prop := x.natAbs < 2 ^ n
theorem B_le {n m : Nat} {x : Int} (h : B n x) (hn : n ≤ m) : B m x := Nat.lt_of_lt_of_le h (Nat.pow_le_pow_right (by decide) hn)
theorem B_mul {n m : Nat} {x y : Int} (h : B n x) (h' : B m y) : B (n + m) (x * y) := wide_lt h h'
theorem B_add {n m : Nat} {x y : Int} (h : B n x) (h' : B m y) : B (max n m + 1) (x + y) := by
  have a := B_le h (Nat.le_max_left n m)
  have b := B_le h' (Nat.le_max_right n m)
  unfold B at *
  rw [Nat.pow_succ]
  omega
theorem B_neg {n : Nat} {x : Int} (h : B n x) : B n (-x) := by
  unfold B at *
  omega
theorem B_sub {n m : Nat} {x y : Int} (h : B n x) (h' : B m y) : B (max n m + 1) (x - y) := by
  have := B_add h (B_neg h')
  rw [← Int.sub_eq_add_neg] at this
  exact this
theorem B_abs {n : Nat} {x y : Int} (h : B n x) (hy : y.natAbs ≤ x.natAbs) : B n y := Nat.lt_of_le_of_lt hy h
theorem mulB {n m : Nat} {x y : Int} (h : B n x) (h' : B m y) (hs : n + m + 2 ≤ 1000000) : CMulW x y := wide_mul (B_le h (Nat.le_succ n)) (B_le h' (Nat.le_succ m)) (Nat.succ_pos _) (Nat.succ_pos _) (by omega)
end Sq

namespace Sq
open PySem L2 PyProof.Rows
theorem cmpBack_of {X : Cx} {pins : List (Addr × Obj)} {σ : L2.St} {Q : VK} {u : Value} {s' : Shared} (h : EP X pins σ Q u s') : PySem.W.CmpBack (EP X pins σ Q) u s' := by
  cases u with
  | notImplemented =>
    obtain ⟨v, _, _, r, _⟩ := h
    cases v with
    | non => cases r
    | bl _ => cases r
    | ref _ => cases r
    | ty _ => cases r
    | int _ => obtain ⟨_, e⟩ := r; cases e
    | str _ => obtain ⟨_, e⟩ := r; cases e
    | byt _ => obtain ⟨_, e⟩ := r; cases e
    | flt _ => obtain ⟨_, e⟩ := r; cases e
  | _ => exact h
/-- an operator of an own class, found by its name -/
structure OwnOp (K : PySem.W.Frag) (C f : Addr) (nm : Str) : Prop where
  at_ : PySem.W.findIn K (.ref C) nm = some (some (.ref f))
  fn : PySem.W.isFn K (.ref f) = true
section
variable {X : Cx} {CX : CXT} {k : Nat} {f C : Addr} {fd : FuncData} {ps : List Str} {sp : Sp} {E : XK}
theorem inst_at {pins : List (Addr × Obj)} {σ : L2.St} {H : Hp} {s : Shared} {a C dx : Addr} {fs : List (Str × V)} (I : Inv X pins σ H s) (h : H a = some (.ins C dx fs)) : ∃ od, PySem.W.InstAt s.heap a (PySem.W.instObj C dx) C (some od) := by
  obtain ⟨mA, J, _⟩ := ins_get I.hok h
  obtain ⟨od, J, _⟩ := J.look
  exact ⟨od, J⟩
/-- a + b, both of the class at C -/
def rOwn2 (C : Addr) (sp : Sp) (E : XK) : R2 := fun x y H Q => ∃ a b dx dy fs gs, x = .ref a ∧ y = .ref b ∧ H a = some (.ins C dx fs) ∧ H b = some (.ins C dy gs) ∧ sp [x, y] H Q E
theorem op_own2 {op : Operator} (hc : PySem.W.selfFirst X.K C = true) (O : OwnOp X.K C f (PySem.dunder op.info.2)) (G : FnOk X.prog X.w X.K X.mg X.base CX k f fd ps sp) (hr : Room k X.A) (hb : Binds X.K fd ps []) (hx : Passes CX X E) :
    OpR X (binaryOp op) (rOwn2 C sp E) := by
  rintro pins s σ H x y v u Q I rx ry ⟨a, b, dx, dy, fs, gs, rfl, rfl, ha, hb', hsp⟩
  cases rx
  cases ry
  obtain ⟨od, J⟩ := inst_at I ha
  obtain ⟨od', J'⟩ := inst_at I hb'
  obtain ⟨m, hF⟩ := I.fr
  refine PySem.W.binop_K hF I.ok.mod.kin J J'.type hc O.at_ O.fn ?_
  exact wpAny_mono (run_fn (us := [.ref a, .ref b]) (vs := [.ref a, .ref b]) G hr hb .nil hx I (.cons rfl (.cons rfl .nil)) hsp) (fun _ _ h => cmpBack_of h) fun _ _ z => z
/-- a + i, a of the class at C, i an int -/
structure IntOp (K : PySem.W.Frag) (C : Addr) (nm : String) : Prop where
  h1 : ∃ fo, PySem.W.findIn K (.type "int") (PySem.dunder nm) = some fo
  h2 : ∃ ro, PySem.W.findIn K (.type "int") (dunderR nm) = some ro
  hsub : PySem.W.subIn K (.type "int") (.ref C) = some false
  hr : ∃ g : Addr, PySem.W.findIn K (.ref C) (dunderR nm) = some (some (.ref g))
def rOwnI (C : Addr) (sp : Sp) (E : XK) : R2 := fun x y H Q => ∃ a i dx fs, x = .ref a ∧ y = .int i ∧ H a = some (.ins C dx fs) ∧ sp [x, y] H Q E
theorem op_ownI {op : Operator} (hc : PySem.W.selfFirst X.K C = true) (O : OwnOp X.K C f (PySem.dunder op.info.2)) (N : IntOp X.K C op.info.2) (G : FnOk X.prog X.w X.K X.mg X.base CX k f fd ps sp) (hr : Room k X.A) (hb : Binds X.K fd ps []) (hx : Passes CX X E) :
    OpR X (binaryOp op) (rOwnI C sp E) := by
  rintro pins s σ H x y v u Q I rx ry ⟨a, i, dx, fs, rfl, rfl, ha, hsp⟩
  cases rx
  obtain ⟨t, rfl⟩ := ry
  obtain ⟨od, J⟩ := inst_at I ha
  obtain ⟨m, hF⟩ := I.fr
  obtain ⟨fo, h1⟩ := N.h1
  obtain ⟨ro, h2⟩ := N.h2
  obtain ⟨g, h3⟩ := N.hr
  refine PySem.W.ksp_binT (T := "int") hF I.ok.mod.kin J rfl hc O.at_ O.fn h3 (.inr ⟨g, rfl⟩) h1 h2 N.hsub ?_
  exact wpAny_mono (run_fn (us := [.ref a, .int i t]) (vs := [.ref a, .int i]) G hr hb .nil hx I (.cons rfl (.cons ⟨t, rfl⟩ .nil)) hsp) (fun _ _ h => cmpBack_of h) fun _ _ z => z
/-- -a -/
def rOwn1 (C : Addr) (sp : Sp) (E : XK) : V → Hp → VK → Prop := fun x H Q => ∃ a dx fs, x = .ref a ∧ H a = some (.ins C dx fs) ∧ sp [x] H Q E
theorem un_own (O : OwnOp X.K C f "__neg__") (G : FnOk X.prog X.w X.K X.mg X.base CX k f fd ps sp) (hr : Room k X.A) (hb : Binds X.K fd ps []) (hx : Passes CX X E) : UnR X (unaryOp .USub) (rOwn1 C sp E) := by
  rintro pins s σ H x v Q I rx ⟨a, dx, fs, rfl, ha, hsp⟩
  cases rx
  obtain ⟨od, J⟩ := inst_at I ha
  obtain ⟨m, hF⟩ := I.fr
  refine PySem.W.ksp_neg hF I.ok.mod.kin J O.at_ O.fn ?_
  exact run_fn (us := [.ref a]) (vs := [.ref a]) G hr hb .nil hx I (.cons rfl .nil) hsp
end
end Sq
namespace Sq
open PySem L2 PyProof.Rows
/-- a built-in operator of ints, upon an object that holds no int: NotImplemented -/
def SNot (a : Addr) : PySem.Spec := fun _ R s => (∃ o, s.heap.get? a = some o ∧ o.data = .plain) ∧ R (.ok (.ret .notImplemented)) s
theorem bin_not {nm : String} {g : Int → Int → Sem Fin} {i : Int} {t : Tok} {a : Addr} : Meets (Builtin.Int.intBinary nm g false ⟨[.int i t, .ref a], []⟩) (SNot a) := by
  rintro prog w A R s ⟨⟨o, ho, hd⟩, q⟩
  unfold Builtin.Int.intBinary
  refine wpAny_bind (wpAny_of_eq (a := ((Value.int i t : Value), [Value.ref a])) (by first | rfl | (simp only [slotArgs]; rfl)) ?_)
  refine wpAny_bind (wpAny_of_eq (a := i) (by rfl) ?_)
  refine wpAny_bind (wpAny_bind (wpAny_load ho ?_))
  rw [hd]
  exact wpAny_pure (wpAny_bind (wpAny_rule (wpAny_pure q)))
section
variable {X : Cx} {CX : CXT} {k : Nat} {f C : Addr} {fd : FuncData} {ps : List Str} {sp : Sp} {E : XK}
/-- i + a, i an int, a of the class at C -/
def rIOwn (C : Addr) (sp : Sp) (E : XK) : R2 := fun x y H Q => ∃ a i dx fs, x = .int i ∧ y = .ref a ∧ H a = some (.ins C dx fs) ∧ sp [y, x] H Q E
theorem bin1_right {M : Model} {A : Around} {E : Value → Shared → Prop} {s : Shared} {K : PySem.W.Frag} {a C f : Addr} {ox : Obj} {od : Option Obj} {nm : String} {i : Int} {t : Tok} {id : String} {Q : Option Value → Shared → Prop}
    (Y : K.In s.heap) (I : PySem.W.InstAt s.heap a ox C od) (hc : PySem.W.selfFirst K C = true) (fT : fillsNumberSlot (.type "int") nm = pure true) (sl : Slot "int" (PySem.dunder nm) id)
    (h0 : PySem.W.findIn K (.ref C) (PySem.dunder nm) = some (some (.ref f))) {g : Addr} (hs : PySem.W.findIn K (.ref C) (dunderR nm) = some (some (.ref g))) (hf : PySem.W.isFn K (.ref g) = true) (hsub : PySem.W.subIn K (.ref C) (.type "int") = some false)
    (hcall : wpAny M A (call (.builtin id) [.int i t, .ref a]) (fun v s' => v = .notImplemented ∧ s' = s) E s)
    (h : wpAny M A (call (.ref g) [.ref a, .int i t]) (PySem.W.CmpBack fun v s' => Q (some v) s') E s) : wpAny M A (binaryOp1 nm (.int i t) (.ref a)) Q E s := by
  obtain ⟨cd, rest, hcd, hm⟩ := PySem.W.ksp_first hc
  have L1 : PySem.W.Looks M s.heap (typeOf (.ref a)) (.ref C) := I.type
  have L2 : PySem.W.Looks M s.heap (fillsNumberSlot (.ref C) nm) true := PySem.W.fills_K Y hcd hm h0
  have L3 : PySem.W.Looks M s.heap (isSubtype (.ref C) (.type "int")) false := PySem.W.looks_subIn Y hsub
  have two : wpAny M A (tryMethod (.ref a) (dunderR nm) (.int i t)) (fun r s' => ∃ v, r = some v ∧ Q (some v) s') E s := PySem.W.ksp_try Y I hs hf h
  simp only [binaryOp1]
  refine wpAny_bind (wpAny_of_eq (a := Value.type "int") rfl (wpAny_bind (L1.here (wpAny_bind (wpAny_of_eq fT ?_)))))
  have ne : (Value.type "int" == Value.ref C) = false := Bool.eq_false_iff.mpr fun q => by cases beq_iff_eq.mp q
  simp only [ne, Bool.false_eq_true, if_false]
  refine wpAny_bind (L2.here ?_)
  simp only [Bool.and_self, if_true]
  refine wpAny_bind (L3.here ?_)
  have hpy : numberSlotInPython (.type "int") nm = pure false := rfl
  simp only [Bool.false_eq_true, if_false, pure_bind, Bool.not_false, Bool.and_self, if_true, hpy]
  refine wpAny_bind (m := tryMethod (.int i t) _ _) ?_
  have hT : s.TypeIs (.int i t) "int" := typeIs_int s i t
  unfold tryMethod
  refine wpAny_bind (wpAny_callSpecial?_slot hT sl (wpAny_mono hcall (fun v s1 h1 => ?_) fun _ _ z => z))
  obtain ⟨rfl, rfl⟩ := h1
  refine wpAny_pure (wpAny_bind (wpAny_mono two (fun r s2 h2 => ?_) fun _ _ z => z))
  obtain ⟨v, rfl, q⟩ := h2
  exact wpAny_bind (wpAny_rule (wpAny_pure q))
end
end Sq
namespace Sq
open PySem L2 PyProof.Rows
/-- what the class must say for i + a -/
structure RevOp (K : PySem.W.Frag) (C f g : Addr) (nm : String) : Prop where
  h0 : PySem.W.findIn K (.ref C) (PySem.dunder nm) = some (some (.ref f))
  hs : PySem.W.findIn K (.ref C) (dunderR nm) = some (some (.ref g))
  hf : PySem.W.isFn K (.ref g) = true
  hsub : PySem.W.subIn K (.ref C) (.type "int") = some false
/-- the built-in side of an operator of ints -/
structure BltOp (op : Operator) : Prop where
  fT : fillsNumberSlot (.type "int") op.info.2 = pure true
  sl : ∃ id B, Slot "int" (PySem.dunder op.info.2) id ∧ entryFor table id = some B ∧ (∀ a b : Value, argsOk id ⟨[a, b], []⟩) ∧ ∃ nm g, ∀ args, B args = Builtin.Int.intBinary nm g false args
theorem blt_add : BltOp .Add := ⟨F.fills_int_add, _, _, F.slot_int_add, F.entry_int_add, F.args_int_add_2, _, _, fun _ => rfl⟩
theorem blt_sub : BltOp .Sub := ⟨F.fills_int_sub, _, _, F.slot_int_sub, F.entry_int_sub, F.args_int_sub_2, _, _, fun _ => rfl⟩
theorem blt_mul : BltOp .Mult := ⟨F.fills_int_mul, _, _, F.slot_int_mul, F.entry_int_mul, F.args_int_mul_2, _, _, fun _ => rfl⟩
section
variable {X : Cx} {CX : CXT} {k : Nat} {f C : Addr} {fd : FuncData} {ps : List Str} {sp : Sp} {E : XK}
theorem bin_of1 {M : Model} {A : Around} {E : Value → Shared → Prop} {s : Shared} {op : Operator} {a b : Value} {Q : Value → Shared → Prop} (h : wpAny M A (binaryOp1 op.info.2 a b) (fun r s' => ∃ v, r = some v ∧ Q v s') E s) : wpAny M A (binaryOp op a b) Q E s := by
  rcases hi : op.info with ⟨sym, nm⟩
  rw [hi] at h
  simp only [binaryOp, hi]
  refine wpAny_holding (wpAny_bind (wpAny_mono h (fun r s' hr => ?_) fun _ _ z => z))
  obtain ⟨v, rfl, q⟩ := hr
  exact wpAny_pure q
theorem op_Iown {op : Operator} {g : Addr} (hc : PySem.W.selfFirst X.K C = true) (B : BltOp op) (R : RevOp X.K C f g op.info.2) (G : FnOk X.prog X.w X.K X.mg X.base CX k g fd ps sp) (hr : Room k X.A) (hb : Binds X.K fd ps []) (hx : Passes CX X E) :
    OpR X (binaryOp op) (rIOwn C sp E) := by
  rintro pins s σ H x y v u Q I rx ry ⟨a, i, dx, fs, rfl, rfl, ha, hsp⟩
  cases ry
  obtain ⟨t, rfl⟩ := rx
  obtain ⟨od, J⟩ := inst_at I ha
  obtain ⟨id, Bf, sl, en, ar, nm, gg, hB⟩ := B.sl
  refine bin_of1 (bin1_right I.kIn J hc B.fT sl R.h0 R.hs R.hf R.hsub ?_ ?_)
  · refine call_meets sl (typeIs_int s i t) en (ar _ _) (S := SNot a) ?_ ⟨⟨_, J.at_, rfl⟩, rfl, rfl⟩
    rw [hB]
    exact bin_not
  · refine wpAny_mono (run_fn (us := [.ref a, .int i t]) (vs := [.ref a, .int i]) G hr hb .nil hx I (.cons rfl (.cons ⟨t, rfl⟩ .nil)) hsp) (fun u s' h => ?_) fun _ _ z => z
    have c := cmpBack_of h
    cases u with
    | notImplemented => exact c.elim
    | _ => exact ⟨_, rfl, c⟩
/-- the class has only itself and object above it -/
structure MroOk (K : PySem.W.Frag) (C : Addr) (cd : ClassData) : Prop where
  hc : PySem.W.clsIn K C = some cd
  hm : cd.mro = [.ref C, .type "object"]
structure NoIn (K : PySem.W.Frag) (C : Addr) (nm : String) : Prop where
  h1 : PySem.W.findIn K (.ref C) (dunderI nm) = some none
  h2 : PySem.W.findIn K (.type "object") (dunderI nm) = some none
theorem no_inplace {K : PySem.W.Frag} {M : Model} {h : Heap} {cd : ClassData} {nm : String} {add : Bool} (Y : K.In h) (O : MroOk K C cd) (N : NoIn K C nm) : PySem.W.Looks M h (fillsInplaceSlot (.ref C) nm add) false := by
  intro A Q E s kk q
  have Lm : PySem.W.Looks M h (mroOf (.ref C)) cd.mro := (PySem.W.looks_clsIn Y O.hc).andThen (f := fun cd => pure cd.mro) .now
  have L1 : PySem.W.Looks M h (typeLookup (.ref C) (dunderI nm)) none := PySem.W.looks_findIn Y N.h1
  have L2 : PySem.W.Looks M h (typeLookup (.type "object") (dunderI nm)) none := PySem.W.looks_findIn Y N.h2
  unfold fillsInplaceSlot
  refine wpAny_bind (Lm A _ E s kk ?_)
  rw [O.hm, List.anyM_cons]
  refine wpAny_bind (wpAny_bind (L1 A _ E s kk (wpAny_pure ?_)))
  rw [if_neg Bool.false_ne_true, List.anyM_cons]
  refine wpAny_bind (wpAny_bind (L2 A _ E s kk (wpAny_pure ?_)))
  rw [if_neg Bool.false_ne_true, List.anyM_nil]
  exact wpAny_pure q
theorem inplace_of1 {M : Model} {A : Around} {E : Value → Shared → Prop} {s : Shared} {K : PySem.W.Frag} {op : Operator} {a : Addr} {b : Value} {ox : Obj} {od : Option Obj} {cd : ClassData} {Q : Value → Shared → Prop} (Y : K.In s.heap) (I : PySem.W.InstAt s.heap a ox C od) (O : MroOk K C cd) (N : NoIn K C op.info.2)
    (h : wpAny M A (binaryOp1 op.info.2 (.ref a) b) (fun r s' => ∃ v, r = some v ∧ Q v s') E s) : wpAny M A (inplaceOp op (.ref a) b) Q E s := by
  have L1 : PySem.W.Looks M s.heap (typeOf (.ref a)) (.ref C) := I.type
  have L2 : PySem.W.Looks M s.heap (fillsInplaceSlot (.ref C) op.info.2 (op == .Add)) false := no_inplace Y O N
  unfold inplaceOp
  refine wpAny_holding (wpAny_bind (L1.here (wpAny_bind (L2.here ?_))))
  simp only [Bool.false_eq_true, if_false]
  refine wpAny_bind (wpAny_mono h (fun r s' hr => ?_) fun _ _ z => z)
  obtain ⟨v, rfl, q⟩ := hr
  exact wpAny_pure q
theorem bin1_two {M : Model} {A : Around} {E : Value → Shared → Prop} {s : Shared} {K : PySem.W.Frag} {a : Addr} {b : Value} {ox : Obj} {od : Option Obj} {nm : String} {Q : Option Value → Shared → Prop} (Y : K.In s.heap) (I : PySem.W.InstAt s.heap a ox C od)
    (hb : PySem.W.Looks M s.heap (typeOf b) (.ref C)) (hc : PySem.W.selfFirst K C = true) (O : OwnOp K C f (PySem.dunder nm)) (h : wpAny M A (call (.ref f) [.ref a, b]) (PySem.W.CmpBack fun v s' => Q (some v) s') E s) : wpAny M A (binaryOp1 nm (.ref a) b) Q E s := by
  obtain ⟨cd, rest, hcd, hm⟩ := PySem.W.ksp_first hc
  have L1 : PySem.W.Looks M s.heap (typeOf (.ref a)) (.ref C) := I.type
  have L2 : PySem.W.Looks M s.heap (fillsNumberSlot (.ref C) nm) true := PySem.W.fills_K Y hcd hm O.at_
  have one : wpAny M A (tryMethod (.ref a) (PySem.dunder nm) b) (fun r s' => ∃ v, r = some v ∧ Q (some v) s') E s := PySem.W.ksp_try Y I O.at_ O.fn h
  simp only [binaryOp1]
  refine wpAny_bind (L1.here (wpAny_bind (hb.here (wpAny_bind (L2.here ?_)))))
  simp only [beq_self_eq_true, if_true]
  refine wpAny_bind (wpAny_pure ?_)
  simp only [Bool.and_false, Bool.false_eq_true, if_false, Bool.false_and, pure_bind, if_true]
  refine wpAny_bind (wpAny_mono one (fun r s' hr => ?_) fun _ _ z => z)
  obtain ⟨v, rfl, q⟩ := hr
  exact wpAny_pure q
theorem bin1_int {M : Model} {A : Around} {E : Value → Shared → Prop} {s : Shared} {K : PySem.W.Frag} {a : Addr} {i : Int} {t : Tok} {ox : Obj} {od : Option Obj} {nm : String} {Q : Option Value → Shared → Prop} (Y : K.In s.heap) (I : PySem.W.InstAt s.heap a ox C od)
    (hc : PySem.W.selfFirst K C = true) (O : OwnOp K C f (PySem.dunder nm)) (N : IntOp K C nm) (h : wpAny M A (call (.ref f) [.ref a, .int i t]) (PySem.W.CmpBack fun v s' => Q (some v) s') E s) : wpAny M A (binaryOp1 nm (.ref a) (.int i t)) Q E s := by
  obtain ⟨cd, rest, hcd, hm⟩ := PySem.W.ksp_first hc
  obtain ⟨fo, h1⟩ := N.h1
  obtain ⟨ro, h2⟩ := N.h2
  obtain ⟨g, h3⟩ := N.hr
  have L1 : PySem.W.Looks M s.heap (typeOf (.ref a)) (.ref C) := I.type
  have L2 : PySem.W.Looks M s.heap (fillsNumberSlot (.ref C) nm) true := PySem.W.fills_K Y hcd hm O.at_
  have L3 : PySem.W.Looks M s.heap (fillsNumberSlot (.type "int") nm) ((fo.isSome && !isSeqSlot fo) || (ro.isSome && !isSeqSlot ro)) := PySem.W.ksp_fillsT Y h1 h2
  have L4 : PySem.W.Looks M s.heap (isSubtype (.type "int") (.ref C)) false := PySem.W.looks_subIn Y N.hsub
  have L5 : PySem.W.Looks M s.heap (numberSlotInPython (.ref C) nm) true := PySem.W.ksp_inPy Y O.at_ h3 (.inr ⟨g, rfl⟩)
  have L6 : PySem.W.Looks M s.heap (typeLookup (.type "int") (dunderR nm)) ro := PySem.W.looks_findIn Y h2
  have one : wpAny M A (tryMethod (.ref a) (PySem.dunder nm) (.int i t)) (fun r s' => ∃ v, r = some v ∧ Q (some v) s') E s := PySem.W.ksp_try Y I O.at_ O.fn h
  have ne : (Value.ref C == Value.type "int") = false := Bool.eq_false_iff.mpr fun q => by cases beq_iff_eq.mp q
  have hpy : numberSlotInPython (.type "int") nm = pure false := rfl
  simp only [binaryOp1]
  refine wpAny_bind (L1.here (wpAny_bind (wpAny_of_eq (a := Value.type "int") rfl (wpAny_bind (L2.here ?_)))))
  simp only [ne, Bool.false_eq_true, if_false]
  refine wpAny_bind (L3.here ?_)
  generalize ((fo.isSome && !isSeqSlot fo) || (ro.isSome && !isSeqSlot ro)) = right
  cases right with
  | false =>
    simp only [Bool.and_false, Bool.false_eq_true, if_false, Bool.false_and, pure_bind, if_true]
    refine wpAny_bind (wpAny_mono one (fun r s' hr => ?_) fun _ _ z => z)
    obtain ⟨v, rfl, q⟩ := hr
    exact wpAny_pure q
  | true =>
    simp only [Bool.and_self, if_true]
    refine wpAny_bind (L4.here ?_)
    simp only [Bool.false_eq_true, if_false, pure_bind, Bool.not_false, Bool.and_self, if_true]
    refine wpAny_bind (L5.here ?_)
    simp only [if_true, hpy, pure_bind, Bool.not_false]
    refine wpAny_bind (L6.here (wpAny_bind (wpAny_mono one (fun r s' hr => ?_) fun _ _ z => z)))
    obtain ⟨v, rfl, q⟩ := hr
    exact wpAny_pure q
theorem back_some {pins : List (Addr × Obj)} {σ : L2.St} {Q : VK} {u : Value} {s' : Shared} (h : EP X pins σ Q u s') : PySem.W.CmpBack (fun v s' => ∃ w, some v = some w ∧ EP X pins σ Q w s') u s' := by
  have c := cmpBack_of h
  cases u with
  | notImplemented => exact c.elim
  | _ => exact ⟨_, rfl, c⟩
theorem ip_own2 {op : Operator} {cd : ClassData} (hc : PySem.W.selfFirst X.K C = true) (M : MroOk X.K C cd) (N : NoIn X.K C op.info.2) (O : OwnOp X.K C f (PySem.dunder op.info.2)) (G : FnOk X.prog X.w X.K X.mg X.base CX k f fd ps sp) (hr : Room k X.A) (hb : Binds X.K fd ps []) (hx : Passes CX X E) :
    OpR X (inplaceOp op) (rOwn2 C sp E) := by
  rintro pins s σ H x y v u Q I rx ry ⟨a, b, dx, dy, fs, gs, rfl, rfl, ha, hb', hsp⟩
  cases rx
  cases ry
  obtain ⟨od, J⟩ := inst_at I ha
  obtain ⟨od', J'⟩ := inst_at I hb'
  exact inplace_of1 I.kIn J M N (bin1_two I.kIn J J'.type hc O (wpAny_mono (run_fn (us := [.ref a, .ref b]) (vs := [.ref a, .ref b]) G hr hb .nil hx I (.cons rfl (.cons rfl .nil)) hsp) (fun _ _ h => back_some h) fun _ _ z => z))
theorem ip_ownI {op : Operator} {cd : ClassData} (hc : PySem.W.selfFirst X.K C = true) (M : MroOk X.K C cd) (N : NoIn X.K C op.info.2) (O : OwnOp X.K C f (PySem.dunder op.info.2)) (NI : IntOp X.K C op.info.2) (G : FnOk X.prog X.w X.K X.mg X.base CX k f fd ps sp) (hr : Room k X.A) (hb : Binds X.K fd ps []) (hx : Passes CX X E) :
    OpR X (inplaceOp op) (rOwnI C sp E) := by
  rintro pins s σ H x y v u Q I rx ry ⟨a, i, dx, fs, rfl, rfl, ha, hsp⟩
  cases rx
  obtain ⟨t, rfl⟩ := ry
  obtain ⟨od, J⟩ := inst_at I ha
  exact inplace_of1 I.kIn J M N (bin1_int I.kIn J hc O NI (wpAny_mono (run_fn (us := [.ref a, .int i t]) (vs := [.ref a, .int i]) G hr hb .nil hx I (.cons rfl (.cons ⟨t, rfl⟩ .nil)) hsp) (fun _ _ h => back_some h) fun _ _ z => z))
/-- a == y by the class's own ==; y is of the class, or of a built-in class -/
def rOwnEq (K : PySem.W.Frag) (C : Addr) (sp : Sp) (E : XK) : R2 := fun x y H Q => ∃ a dx fs t, x = .ref a ∧ H a = some (.ins C dx fs) ∧ TyX K H y t ∧ PySem.W.notFirst K C t = true ∧ sp [x, y] H Q E
theorem op_ownEq (O : OwnOp X.K C f "__eq__") (G : FnOk X.prog X.w X.K X.mg X.base CX k f fd ps sp) (hr : Room k X.A) (hb : Binds X.K fd ps []) (hx : Passes CX X E) : OpR X (compareOp .Eq) (rOwnEq X.K C sp E) := by
  rintro pins s σ H x y v u Q I rx ry ⟨a, dx, fs, t, rfl, ha, hty, hn, hsp⟩
  cases rx
  obtain ⟨od, J⟩ := inst_at I ha
  obtain ⟨m, hF⟩ := I.fr
  obtain ⟨Pt, KX, hp, _⟩ := kit_of I ry hty
  show wpAny (model X.prog X.w) X.A (richCompare .Eq (.ref a) u) (EP X pins σ Q) X.xe s
  refine PySem.W.cmp_K (op := .Eq) (tb := t) hr.units0 hF I.ok.mod.kin J (KX.ty _ _ I.kIn hp) hn O.at_ O.fn ?_
  exact wpAny_mono (run_fn (us := [.ref a, u]) (vs := [.ref a, y]) G hr hb .nil hx I (.cons rfl (.cons ry .nil)) hsp) (fun _ _ h => cmpBack_of h) fun _ _ z => z
end
end Sq

namespace Sq
open PySem L2 PyProof.Rows
/-- one or the other rule -/
theorem op_or {X : Cx} {f : Value → Value → Sem Value} {r1 r2 : R2} (h1 : OpR X f r1) (h2 : OpR X f r2) : OpR X f (fun x y H Q => r1 x y H Q ∨ r2 x y H Q) := by
  rintro pins s σ H x y v u Q I rx ry (h | h)
  · exact h1 pins s σ H x y v u Q I rx ry h
  · exact h2 pins s σ H x y v u Q I rx ry h
/-- X(), X an own error class without an __init__ -/
theorem pmk_own0 {X : Cx} {C : Addr} {bmB : List Value} {B newId initId : String} {x : Str} {p pos : Pos} (F : ExcBaseFacts B newId initId bmB) (q : PySem.W.excIn X.K C bmB newId = true) (gC : X.mg x = some (.ref C)) (kC : PySem.W.keepIn X.K (.ref C) = true)
    (r : Raises X (.ref C)) (hg : Gl X x) (nd : (x == ("__debug__" : Str)) = false := by decide) : PMk X (.Call (.Name x p) [] [] pos) (fun _ H Q => Q (.ref C) none H) := by
  intro pins s σ H Q I h
  refine wpAny_Call_Name_kw (ld_glob I hg gC (PySem.W.callWith_K0 I.kIn kC ?_) nd)
  show wpAny _ _ (call (.ref C) []) _ _ _
  obtain ⟨bm, N, nm, qn, bs, hdct, sn, sub, ab, col, dd, k0, k1, k2, k3, k5, mN, hC, hN, hni, T⟩ := exc_obj I.kIn q
  obtain ⟨hp, g, d, t, os⟩ := s
  exact wpAny_call_exc_subT F T hC hN hni (fun h' e hm => mk_of I hm r h (I.hok.gone hm.new)) (Nat.zero_le _)
/-- what the class must say for a != b by its own == -/
structure NeOp (K : PySem.W.Frag) (C f : Addr) : Prop where
  eq : PySem.W.findIn K (.ref C) "__eq__" = some (some (.ref f))
  fn : PySem.W.isFn K (.ref f) = true
  ne : PySem.W.findIn K (.ref C) "__ne__" = some (some (.builtin "object.__ne__"))
  ob : PySem.W.mroIn K C (.type "object") = some true
section
variable {X : Cx} {CX : CXT} {k : Nat} {f C : Addr} {fd : FuncData} {ps : List Str} {sp : Sp} {E : XK}
theorem if_bound {M : Model} {A : Around} {E : Value → Shared → Prop} {s : Shared} {K : PySem.W.Frag} {x : Addr} {ox : Obj} {od : Option Obj} {name : Str} {id : String} {args : List Value} {Q : Option Value → Shared → Prop} (Y : K.In s.heap) (I : PySem.W.InstAt s.heap x ox C od)
    (hs : PySem.W.findIn K (.ref C) name = some (some (.builtin id))) (hb : ∀ self : Value, bindSpecial (.builtin id) self = pure (Value.builtin id, [self])) (h : wpAny M A (call (.builtin id) (.ref x :: args)) (fun v => Q (some v)) E s) : wpAny M A (callSpecialIfBound? (.ref x) name args) Q E s := by
  simp only [callSpecialIfBound?, bindSpecialIfBound?]
  refine wpAny_holding (wpAny_bind (wpAny_bind (wpAny_bind (I.type.here ((PySem.W.looks_findIn Y hs).here ?_)))))
  have fin : wpAny M A (call (.builtin id) ([.ref x] ++ args) >>= fun v => pure (some v)) Q E s := wpAny_bind (wpAny_mono h (fun v s' h' => wpAny_pure h') fun _ _ h' => h')
  refine wpAny_bind (wpAny_askSetting (wpAny_ite ?_))
  split
  · exact wpAny_bind (wpAny_of_eq (hb _) (wpAny_pure fin))
  · exact wpAny_tryCatch (wpAny_bind (wpAny_of_eq (hb _) (wpAny_pure fin)))
end
end Sq

namespace Sq
open PySem L2 PyProof.Rows
abbrev s_isnum : Stmt := top 16
abbrev s_asratio : Stmt := top 17
abbrev s_req : Stmt := inClass (top 18) 1
abbrev s_radd : Stmt := inClass (top 18) 2
abbrev s_rradd : Stmt := inClass (top 18) 3
abbrev s_rsub : Stmt := inClass (top 18) 4
abbrev s_rrsub : Stmt := inClass (top 18) 5
abbrev s_rmul : Stmt := inClass (top 18) 6
abbrev s_rrmul : Stmt := inClass (top 18) 7
abbrev s_rneg : Stmt := inClass (top 18) 8
abbrev s_rover : Stmt := inClass (top 18) 9
/-! ### mathematics -/
theorem low_int {i T U : Int} (L : Low i 1 T U) : T = i ∧ U = 1 := by
  have v := L.val
  have p := L.pos
  have c := L.cop
  rw [Int.mul_one] at v
  rw [v, Int.gcd_comm] at c
  have d : Int.gcd U (i * U) = U.natAbs := Int.gcd_eq_natAbs_left (Int.dvd_mul_left ..)
  rw [d] at c
  have u1 : U = 1 := by omega
  rw [u1, Int.mul_one] at v
  exact ⟨v, u1⟩
theorem cancel_r {x y z : Int} (hz : z ≠ 0) (h : x * z = y * z) : x = y := Int.eq_of_mul_eq_mul_right hz h
/-- the value of a fraction in lowest terms, over a further fraction's -/
theorem low_add {a b c d t u t' u' T U : Int} (L1 : Low a b t u) (L2 : Low c d t' u') (L : Low (t * u' + t' * u) (u * u') T U) : T * (b * d) = (a * d + c * b) * U := by
  have h1 := L1.val
  have h2 := L2.val
  have h := L.val
  have n : u * u' ≠ 0 := Int.mul_ne_zero (by have := L1.pos; omega) (by have := L2.pos; omega)
  refine cancel_r n ?_
  grind
theorem low_sub {a b c d t u t' u' T U : Int} (L1 : Low a b t u) (L2 : Low c d t' u') (L : Low (t * u' - t' * u) (u * u') T U) : T * (b * d) = (a * d - c * b) * U := by
  have h1 := L1.val
  have h2 := L2.val
  have h := L.val
  have n : u * u' ≠ 0 := Int.mul_ne_zero (by have := L1.pos; omega) (by have := L2.pos; omega)
  refine cancel_r n ?_
  grind
theorem low_mul {a b c d t u t' u' T U : Int} (L1 : Low a b t u) (L2 : Low c d t' u') (L : Low (t * t') (u * u') T U) : T * (b * d) = a * c * U := by
  have h1 := L1.val
  have h2 := L2.val
  have h := L.val
  have n : u * u' ≠ 0 := Int.mul_ne_zero (by have := L1.pos; omega) (by have := L2.pos; omega)
  refine cancel_r n ?_
  grind
theorem low_over {a b c d t u t' u' T U : Int} (L1 : Low a b t u) (L2 : Low c d t' u') (hd : d ≠ 0) (hc : c ≠ 0) (L : Low (t * u') (u * t') T U) : T * (b * c) = a * d * U := by
  have h1 := L1.val
  have h2 := L2.val
  have h := L.val
  have t0 : t' ≠ 0 := fun e => by
    rw [e, Int.zero_mul] at h2
    have := L2.pos
    exact Int.mul_ne_zero hc (by omega) h2.symm
  have n : u * t' ≠ 0 := Int.mul_ne_zero (by have := L1.pos; omega) t0
  refine cancel_r n (cancel_r hd ?_)
  grind
theorem low_neg {a b t u T U : Int} (L1 : Low a b t u) (L : Low (-t) u T U) : T * b = -a * U := by
  have h1 := L1.val
  have h := L.val
  have n : u ≠ 0 := by have := L1.pos; omega
  refine cancel_r n ?_
  grind
theorem low_one : Low t 1 t 1 := ⟨by decide, by simp, by omega, Nat.le_refl _, Nat.le_refl _⟩
theorem low_eq {a b c d t u t' u' : Int} (hb : b ≠ 0) (hd : d ≠ 0) (L1 : Low a b t u) (L2 : Low c d t' u') : (t = t' ∧ u = u') ↔ a * d = c * b := by
  have h1 := L1.val
  have h2 := L2.val
  have p1 := L1.pos
  have p2 := L2.pos
  constructor
  · rintro ⟨rfl, rfl⟩
    refine cancel_r (z := u) (by omega) ?_
    grind
  · intro h
    have n : b * d ≠ 0 := Int.mul_ne_zero hb hd
    have e : t * u' = t' * u := cancel_r n (by grind)
    have e' : t.natAbs * u'.natAbs = t'.natAbs * u.natAbs := by rw [← Int.natAbs_mul, ← Int.natAbs_mul, e]
    have c1 : Nat.Coprime u.natAbs t.natAbs := Nat.Coprime.symm L1.cop
    have c2 : Nat.Coprime u'.natAbs t'.natAbs := Nat.Coprime.symm L2.cop
    have d1 : u.natAbs ∣ u'.natAbs := c1.dvd_of_dvd_mul_left (by rw [e']; exact Nat.dvd_mul_left ..)
    have d2 : u'.natAbs ∣ u.natAbs := c2.dvd_of_dvd_mul_left (by rw [← e']; exact Nat.dvd_mul_left ..)
    have eu : u.natAbs = u'.natAbs := Nat.dvd_antisymm d1 d2
    have eu2 : u = u' := by omega
    subst eu2
    exact ⟨cancel_r (z := u) (by omega) e, rfl⟩
theorem low_eqI {a b t u w : Int} (hb : b ≠ 0) (L1 : Low a b t u) : (u = 1 ∧ t = w) ↔ a = w * b := by
  have h := low_eq hb (by decide) L1 (low_one (t := w))
  rw [Int.mul_one] at h
  rw [← h]
  constructor
  · rintro ⟨a, b⟩
    exact ⟨b, a⟩
  · rintro ⟨a, b⟩
    exact ⟨b, a⟩
/-- of at most 1,500 bits -/
def Fit (t : Int) : Prop := t.natAbs < 2 ^ 1500
theorem up {t : Int} (h : Fit t) : t.natAbs < 2 ^ 4000 := Nat.lt_of_lt_of_le h (Nat.pow_le_pow_right (by decide) (by decide))
theorem fit_up {t : Int} (h : Fit t) : t.natAbs < 2 ^ 8000 := Nat.lt_of_lt_of_le h (Nat.pow_le_pow_right (by decide) (by decide))
theorem big2 {t u : Int} (h : Fit t) (h' : Fit u) : (t * u).natAbs < 2 ^ 8000 := Nat.lt_of_lt_of_le (wide_lt h h') (Nat.pow_le_pow_right (by decide) (by decide))
theorem fit_one : Fit 1 := Nat.lt_of_lt_of_le (show (1 : Int).natAbs < 2 ^ 1 from by decide) (Nat.pow_le_pow_right (by decide) (by decide))
theorem mul_ne {a b : Int} (h : a ≠ 0) (h' : b ≠ 0) : a * b ≠ 0 := Int.mul_ne_zero h h'
/-- y is the number t / u: a Ratio, or an int -/
def NumAt (C : Addr) (H : Hp) (y : V) (t u : Int) : Prop := (∃ r, y = .ref r ∧ RatAt C H r t u) ∨ (y = .int t ∧ u = 1)
theorem RatAt.same {C : Addr} {H H' : Hp} {x : Addr} {t u : Int} (s : Same H H') (h : RatAt C H x t u) : RatAt C H' x t u := by
  obtain ⟨dx, h⟩ := h
  exact ⟨dx, s _ _ h⟩
theorem NumAt.same {C : Addr} {H H' : Hp} {y : V} {t u : Int} (s : Same H H') (h : NumAt C H y t u) : NumAt C H' y t u := by
  rcases h with ⟨r, e, h⟩ | h
  · exact .inl ⟨r, e, h.same s⟩
  · exact .inr h
/-- isinstance(x, Ratio) of other things -/
structure KZx (K : PySem.W.Frag) (C : Addr) : Prop where
  kint : PySem.W.kitOne K (.type "int") (.ref C) = some false
  kstr : PySem.W.kitOne K (.type "str") (.ref C) = some false
  knon : PySem.W.kitOne K (.type "NoneType") (.ref C) = some false
def spIsNum (K : PySem.W.Frag) (C : Addr) : Sp := fun vs H Q _ => ∃ (y : V) (t : Value) (b : Bool), vs = [y] ∧ TyX K H y t ∧ PySem.W.kitOne K t (.ref C) = some b ∧ IsTy K H y ∧ Q (.bl (b || isI y)) H
theorem num_is {K : PySem.W.Frag} {C : Addr} {H : Hp} {y : V} {t u : Int} (T : CTx K C) (Y : ITy K C) (Z : KZx K C) (h : NumAt C H y t u) : ∃ (q : Value) (b : Bool), TyX K H y q ∧ PySem.W.kitOne K q (.ref C) = some b ∧ IsTy K H y ∧ (b || isI y) = true := by
  rcases h with ⟨r, rfl, h⟩ | ⟨rfl, _⟩
  · exact ⟨_, true, h.ty T Y, kit_self, h.isTy T Y, rfl⟩
  · exact ⟨.type "int", false, .base (.int _), Z.kint, .int _, rfl⟩
def spAsRatio (C : Addr) : Sp := fun vs H Q _ => ∃ (y : V) (t u : Int), vs = [y] ∧ NumAt C H y t u ∧ t.natAbs < 2 ^ 8000 ∧ ∀ r H', RatAt C H' r t u → Same H H' → Q (.ref r) H'
section
variable {P : Program} {w : World} {K : PySem.W.Frag} {mg : Str → Option Value} {base : Heap}
theorem sc_isnum : FnScope ["value"] ["value"] (defScope s_isnum) := ⟨rfl, rfl, rfl, by decide +kernel, rfl, by decide +kernel, by decide +kernel⟩
theorem ok_isnum {f C fI : Addr} {fd fdI : FuncData} (F : Fun K "is_number" "is_number" s_isnum f fd) (B : ITx mg) (m_C : mg "Ratio" = some (.ref C))
    (G_I : FnOk P w K mg base CX0 1 fI fdI ["value"] (spIsInt K)) (m_I : mg "is_an_integer" = some (.ref fI)) (k_I : PySem.W.keepIn K (.ref fI) = true) (b_I : Binds K fdI ["value"] []) : FnOk P w K mg base CX0 2 f fd ["value"] (spIsNum K C) := by
  refine F.ok sc_isnum (fun vs H Q E h => ?_) (fun cdv A outer s H vs Q E hr h => ?_)
  · obtain ⟨y, t, b, rfl, _⟩ := h
    rfl
  · obtain ⟨y, t, b, rfl, ty, kb, it, k⟩ := h
    refine ⟨_, pss_one (ps_ret (pe_or (pe_callB call_isi (by rfl) B.b_isinstance (by decide +kernel) (pa_cons (pv 0) (pa_cons (pe_glob (v := .ref C) rfl m_C rfl) pa_nil))) (pe_one (pe_call G_I hr rfl m_I k_I b_I .nil pass0 (pa_cons (pv 0) pa_nil))))), ?_⟩
    refine ⟨_, rfl, _, _, _, _, b, rfl, .own C, ty, kb, _, rfl, ?_⟩
    cases b with
    | true => exact iteT k
    | false => exact iteF ⟨_, rfl, _, rfl, it, k⟩
theorem sc_asratio : FnScope ["number"] ["number"] (defScope s_asratio) := ⟨rfl, rfl, rfl, by decide +kernel, rfl, by decide +kernel, by decide +kernel⟩
theorem ok_asratio {f C CN fR : Addr} {fd fdR : FuncData} {ds1 : List Value} (F : Fun K "as_ratio" "as_ratio" s_asratio f fd) (T : CTx K C) (Y : ITy K C) (Z : KZx K C) (B : ITx mg) (m_C : mg "Ratio" = some (.ref C)) (M : Mk K C fR)
    (G_R : FnOk P w K mg base (L2.CX P w) 3 fR fdR ["self", "top", "bottom"] (spRatioInit K C CN)) (b_R1 : Binds K fdR ["self", "top", "bottom"] ds1) (v_R1 : Vals [.int 1] ds1) : FnOk P w K mg base CX0 5 f fd ["number"] (spAsRatio C) := by
  refine F.ok sc_asratio (fun vs H Q E h => ?_) (fun cdv A outer s H vs Q E hr h => ?_)
  · obtain ⟨y, t, u, rfl, _⟩ := h
    rfl
  · obtain ⟨y, t, u, rfl, hy, st, k⟩ := h
    refine ⟨_, pss_cons (ps_if (pt_val (pe_callB call_isi (by rfl) B.b_isinstance (by decide +kernel) (pa_cons (pv 0) (pa_cons (pe_glob (v := .ref C) rfl m_C rfl) pa_nil)))) (pss_one (ps_ret (pv 0))) pss_nil)
      (pss_one (ps_ret (pe_make M G_R (hr.mono (by decide)) rfl m_C b_R1 v_R1 passL (pa_cons (pv 0) pa_nil)))), ?_⟩
    rcases hy with ⟨r, rfl, hr1⟩ | ⟨rfl, rfl⟩
    · refine ⟨_, rfl, _, _, _, _, true, rfl, .own C, hr1.ty T Y, kit_self, _, rfl, iteT ?_⟩
      exact ⟨_, rfl, k r H hr1 (Same.refl H)⟩
    · refine ⟨_, rfl, _, _, _, _, false, rfl, .own C, .base (.int _), Z.kint, _, rfl, iteF ?_⟩
      refine ⟨_, rfl, fun z dz nz ndz ne => mk_go (by decide) (fit_up fit_one) nz ndz ne fun a b H2 L R s2 => ⟨rfl, ?_⟩⟩
      obtain ⟨e1, e2⟩ := low_int L
      subst e1 e2
      exact k z H2 R s2
def spR_add (C : Addr) : Sp := fun vs H Q _ => ∃ (x : Addr) (y : V) (t u t' u' : Int), vs = [.ref x, y] ∧ RatAt C H x t u ∧ NumAt C H y t' u' ∧ 1 ≤ u ∧ 1 ≤ u' ∧ Fit t ∧ Fit u ∧ Fit t' ∧ Fit u' ∧
  ∀ z T U H', Low (t * u' + t' * u) (u * u') T U → RatAt C H' z T U → Same H H' → Q (.ref z) H'
theorem sc_radd : FnScope ["self", "other", "right"] ["self", "other"] (defScope s_radd) := ⟨rfl, rfl, rfl, by decide +kernel, rfl, by decide +kernel, by decide +kernel⟩
theorem ok_radd {f C CN fR fN fA : Addr} {fd fdR fdN fdA : FuncData} (F : Fun K "__add__" "Ratio.__add__" s_radd f fd) (T : CTx K C) (Y : ITy K C) (Z : KZx K C) (m_C : mg "Ratio" = some (.ref C)) (M : Mk K C fR)
    (G_R : FnOk P w K mg base (L2.CX P w) 3 fR fdR ["self", "top", "bottom"] (spRatioInit K C CN)) (b_R : Binds K fdR ["self", "top", "bottom"] [])
    (G_N : FnOk P w K mg base CX0 2 fN fdN ["value"] (spIsNum K C)) (m_N : mg "is_number" = some (.ref fN)) (k_N : PySem.W.keepIn K (.ref fN) = true) (b_N : Binds K fdN ["value"] [])
    (G_A : FnOk P w K mg base CX0 5 fA fdA ["number"] (spAsRatio C)) (m_A : mg "as_ratio" = some (.ref fA)) (k_A : PySem.W.keepIn K (.ref fA) = true) (b_A : Binds K fdA ["number"] []) :
    FnOk P w K mg base CX0 6 f fd ["self", "other"] (spR_add C) := by
  refine F.ok sc_radd (fun vs H Q E h => ?_) (fun cdv A outer s H vs Q E hr h => ?_)
  · obtain ⟨x, y, t, u, t', u', rfl, _⟩ := h
    rfl
  · obtain ⟨x, y, t, u, t', u', rfl, hx, hy, pu, pu', st, su, st', su', k⟩ := h
    refine ⟨_, (pss_cons (ps_if (pt_not (pt_val (pe_call G_N (hr.mono (by decide)) rfl m_N k_N b_N .nil pass0 (pa_cons (pv 1) pa_nil)))) (pss_one ps_never) pss_nil)
      (pss_cons (ps_set (i := 2) sc_radd.nd rfl (Or.inl rfl) (pe_call G_A hr rfl m_A k_A b_A .nil pass0 (pa_cons (pv 1) pa_nil)))
      (pss_one (ps_ret (pe_make M G_R (hr.mono (by decide)) rfl m_C b_R .nil passL (pa_cons (pe_op op_add (pe_op op_mulW (pe_fld (pv 0) rfl) (pe_fld (pv 2) rfl)) (pe_op op_mulW (pe_fld (pv 2) rfl) (pe_fld (pv 0) rfl))) (pa_cons (pe_op op_mulW (pe_fld (pv 0) rfl) (pe_fld (pv 2) rfl)) pa_nil))))))), ?_⟩
    obtain ⟨q, b, hq, kb, hi, hbi⟩ := num_is T Y Z hy
    refine ⟨_, rfl, y, q, b, rfl, hq, kb, hi, _, rfl, ?_⟩
    rw [hbi]
    refine iteF ?_
    refine ⟨_, rfl, y, t', u', rfl, hy, fit_up st', fun r H1 hr1 s1 => ?_⟩
    obtain ⟨dx, hx0⟩ := hx
    have hx1 := s1 _ _ hx0
    obtain ⟨dr, hr1⟩ := hr1
    refine ⟨_, rfl, x, C, dx, _, _, rfl, hx1, T.cl, T.nT, rf_top _ _, _, rfl, r, C, dr, _, _, rfl, hr1, T.cl, T.nB, rf_bottom _ _, _, _, rfl, rfl, mul_ok (up st) (up su'), ?_⟩
    refine ⟨_, rfl, r, C, dr, _, _, rfl, hr1, T.cl, T.nT, rf_top _ _, _, rfl, x, C, dx, _, _, rfl, hx1, T.cl, T.nB, rf_bottom _ _, _, _, rfl, rfl, mul_ok (up st') (up su), _, _, rfl, rfl, ?_⟩
    refine ⟨_, rfl, x, C, dx, _, _, rfl, hx1, T.cl, T.nB, rf_bottom _ _, _, rfl, r, C, dr, _, _, rfl, hr1, T.cl, T.nB, rf_bottom _ _, _, _, rfl, rfl, mul_ok (up su) (up su'), ?_⟩
    exact fun z dz nz ndz ne => mk_go (mul_ne (by omega) (by omega)) (big2 su su') nz ndz ne fun T U H2 L R s2 => ⟨rfl, k z T U H2 L R (s1.trans s2)⟩
def spR_sub (C : Addr) : Sp := fun vs H Q _ => ∃ (x : Addr) (y : V) (t u t' u' : Int), vs = [.ref x, y] ∧ RatAt C H x t u ∧ NumAt C H y t' u' ∧ 1 ≤ u ∧ 1 ≤ u' ∧ Fit t ∧ Fit u ∧ Fit t' ∧ Fit u' ∧
  ∀ z T U H', Low (t * u' - t' * u) (u * u') T U → RatAt C H' z T U → Same H H' → Q (.ref z) H'
theorem sc_rsub : FnScope ["self", "other", "right"] ["self", "other"] (defScope s_rsub) := ⟨rfl, rfl, rfl, by decide +kernel, rfl, by decide +kernel, by decide +kernel⟩
theorem ok_rsub {f C CN fR fN fA : Addr} {fd fdR fdN fdA : FuncData} (F : Fun K "__sub__" "Ratio.__sub__" s_rsub f fd) (T : CTx K C) (Y : ITy K C) (Z : KZx K C) (m_C : mg "Ratio" = some (.ref C)) (M : Mk K C fR)
    (G_R : FnOk P w K mg base (L2.CX P w) 3 fR fdR ["self", "top", "bottom"] (spRatioInit K C CN)) (b_R : Binds K fdR ["self", "top", "bottom"] [])
    (G_N : FnOk P w K mg base CX0 2 fN fdN ["value"] (spIsNum K C)) (m_N : mg "is_number" = some (.ref fN)) (k_N : PySem.W.keepIn K (.ref fN) = true) (b_N : Binds K fdN ["value"] [])
    (G_A : FnOk P w K mg base CX0 5 fA fdA ["number"] (spAsRatio C)) (m_A : mg "as_ratio" = some (.ref fA)) (k_A : PySem.W.keepIn K (.ref fA) = true) (b_A : Binds K fdA ["number"] []) :
    FnOk P w K mg base CX0 6 f fd ["self", "other"] (spR_sub C) := by
  refine F.ok sc_rsub (fun vs H Q E h => ?_) (fun cdv A outer s H vs Q E hr h => ?_)
  · obtain ⟨x, y, t, u, t', u', rfl, _⟩ := h
    rfl
  · obtain ⟨x, y, t, u, t', u', rfl, hx, hy, pu, pu', st, su, st', su', k⟩ := h
    refine ⟨_, (pss_cons (ps_if (pt_not (pt_val (pe_call G_N (hr.mono (by decide)) rfl m_N k_N b_N .nil pass0 (pa_cons (pv 1) pa_nil)))) (pss_one ps_never) pss_nil)
      (pss_cons (ps_set (i := 2) sc_rsub.nd rfl (Or.inl rfl) (pe_call G_A hr rfl m_A k_A b_A .nil pass0 (pa_cons (pv 1) pa_nil)))
      (pss_one (ps_ret (pe_make M G_R (hr.mono (by decide)) rfl m_C b_R .nil passL (pa_cons (pe_op op_sub (pe_op op_mulW (pe_fld (pv 0) rfl) (pe_fld (pv 2) rfl)) (pe_op op_mulW (pe_fld (pv 2) rfl) (pe_fld (pv 0) rfl))) (pa_cons (pe_op op_mulW (pe_fld (pv 0) rfl) (pe_fld (pv 2) rfl)) pa_nil))))))), ?_⟩
    obtain ⟨q, b, hq, kb, hi, hbi⟩ := num_is T Y Z hy
    refine ⟨_, rfl, y, q, b, rfl, hq, kb, hi, _, rfl, ?_⟩
    rw [hbi]
    refine iteF ?_
    refine ⟨_, rfl, y, t', u', rfl, hy, fit_up st', fun r H1 hr1 s1 => ?_⟩
    obtain ⟨dx, hx0⟩ := hx
    have hx1 := s1 _ _ hx0
    obtain ⟨dr, hr1⟩ := hr1
    refine ⟨_, rfl, x, C, dx, _, _, rfl, hx1, T.cl, T.nT, rf_top _ _, _, rfl, r, C, dr, _, _, rfl, hr1, T.cl, T.nB, rf_bottom _ _, _, _, rfl, rfl, mul_ok (up st) (up su'), ?_⟩
    refine ⟨_, rfl, r, C, dr, _, _, rfl, hr1, T.cl, T.nT, rf_top _ _, _, rfl, x, C, dx, _, _, rfl, hx1, T.cl, T.nB, rf_bottom _ _, _, _, rfl, rfl, mul_ok (up st') (up su), _, _, rfl, rfl, ?_⟩
    refine ⟨_, rfl, x, C, dx, _, _, rfl, hx1, T.cl, T.nB, rf_bottom _ _, _, rfl, r, C, dr, _, _, rfl, hr1, T.cl, T.nB, rf_bottom _ _, _, _, rfl, rfl, mul_ok (up su) (up su'), ?_⟩
    exact fun z dz nz ndz ne => mk_go (mul_ne (by omega) (by omega)) (big2 su su') nz ndz ne fun T U H2 L R s2 => ⟨rfl, k z T U H2 L R (s1.trans s2)⟩
def spR_mul (C : Addr) : Sp := fun vs H Q _ => ∃ (x : Addr) (y : V) (t u t' u' : Int), vs = [.ref x, y] ∧ RatAt C H x t u ∧ NumAt C H y t' u' ∧ 1 ≤ u ∧ 1 ≤ u' ∧ Fit t ∧ Fit u ∧ Fit t' ∧ Fit u' ∧
  ∀ z T U H', Low (t * t') (u * u') T U → RatAt C H' z T U → Same H H' → Q (.ref z) H'
theorem sc_rmul : FnScope ["self", "other", "right"] ["self", "other"] (defScope s_rmul) := ⟨rfl, rfl, rfl, by decide +kernel, rfl, by decide +kernel, by decide +kernel⟩
theorem ok_rmul {f C CN fR fN fA : Addr} {fd fdR fdN fdA : FuncData} (F : Fun K "__mul__" "Ratio.__mul__" s_rmul f fd) (T : CTx K C) (Y : ITy K C) (Z : KZx K C) (m_C : mg "Ratio" = some (.ref C)) (M : Mk K C fR)
    (G_R : FnOk P w K mg base (L2.CX P w) 3 fR fdR ["self", "top", "bottom"] (spRatioInit K C CN)) (b_R : Binds K fdR ["self", "top", "bottom"] [])
    (G_N : FnOk P w K mg base CX0 2 fN fdN ["value"] (spIsNum K C)) (m_N : mg "is_number" = some (.ref fN)) (k_N : PySem.W.keepIn K (.ref fN) = true) (b_N : Binds K fdN ["value"] [])
    (G_A : FnOk P w K mg base CX0 5 fA fdA ["number"] (spAsRatio C)) (m_A : mg "as_ratio" = some (.ref fA)) (k_A : PySem.W.keepIn K (.ref fA) = true) (b_A : Binds K fdA ["number"] []) :
    FnOk P w K mg base CX0 6 f fd ["self", "other"] (spR_mul C) := by
  refine F.ok sc_rmul (fun vs H Q E h => ?_) (fun cdv A outer s H vs Q E hr h => ?_)
  · obtain ⟨x, y, t, u, t', u', rfl, _⟩ := h
    rfl
  · obtain ⟨x, y, t, u, t', u', rfl, hx, hy, pu, pu', st, su, st', su', k⟩ := h
    refine ⟨_, (pss_cons (ps_if (pt_not (pt_val (pe_call G_N (hr.mono (by decide)) rfl m_N k_N b_N .nil pass0 (pa_cons (pv 1) pa_nil)))) (pss_one ps_never) pss_nil)
      (pss_cons (ps_set (i := 2) sc_rmul.nd rfl (Or.inl rfl) (pe_call G_A hr rfl m_A k_A b_A .nil pass0 (pa_cons (pv 1) pa_nil)))
      (pss_one (ps_ret (pe_make M G_R (hr.mono (by decide)) rfl m_C b_R .nil passL (pa_cons (pe_op op_mulW (pe_fld (pv 0) rfl) (pe_fld (pv 2) rfl)) (pa_cons (pe_op op_mulW (pe_fld (pv 0) rfl) (pe_fld (pv 2) rfl)) pa_nil))))))), ?_⟩
    obtain ⟨q, b, hq, kb, hi, hbi⟩ := num_is T Y Z hy
    refine ⟨_, rfl, y, q, b, rfl, hq, kb, hi, _, rfl, ?_⟩
    rw [hbi]
    refine iteF ?_
    refine ⟨_, rfl, y, t', u', rfl, hy, fit_up st', fun r H1 hr1 s1 => ?_⟩
    obtain ⟨dx, hx0⟩ := hx
    have hx1 := s1 _ _ hx0
    obtain ⟨dr, hr1⟩ := hr1
    refine ⟨_, rfl, x, C, dx, _, _, rfl, hx1, T.cl, T.nT, rf_top _ _, _, rfl, r, C, dr, _, _, rfl, hr1, T.cl, T.nT, rf_top _ _, _, _, rfl, rfl, mul_ok (up st) (up st'), ?_⟩
    refine ⟨_, rfl, x, C, dx, _, _, rfl, hx1, T.cl, T.nB, rf_bottom _ _, _, rfl, r, C, dr, _, _, rfl, hr1, T.cl, T.nB, rf_bottom _ _, _, _, rfl, rfl, mul_ok (up su) (up su'), ?_⟩
    exact fun z dz nz ndz ne => mk_go (mul_ne (by omega) (by omega)) (big2 su su') nz ndz ne fun T U H2 L R s2 => ⟨rfl, k z T U H2 L R (s1.trans s2)⟩
end
end Sq

namespace Sq
open PySem L2 PyProof.Rows
section
variable {P : Program} {w : World} {K : PySem.W.Frag} {mg : Str → Option Value} {base : Heap}
def spR_radd (C : Addr) : Sp := fun vs H Q _ => ∃ (x : Addr) (i t u : Int), vs = [.ref x, .int i] ∧ RatAt C H x t u ∧ 1 ≤ u ∧ Fit t ∧ Fit u ∧ Fit i ∧
  ∀ z T U H', Low (t * 1 + i * u) (u * 1) T U → RatAt C H' z T U → Same H H' → Q (.ref z) H'
theorem sc_rradd : FnScope ["self", "other"] ["self", "other"] (defScope s_rradd) := ⟨rfl, rfl, rfl, by decide +kernel, rfl, by decide +kernel, by decide +kernel⟩
theorem ok_rradd {f C fO fN : Addr} {fd fdO fdN : FuncData} (F : Fun K "__radd__" "Ratio.__radd__" s_rradd f fd) (T : CTx K C) (Y : ITy K C) (Z : KZx K C) (hc : PySem.W.selfFirst K C = true)
    (G_N : FnOk P w K mg base CX0 2 fN fdN ["value"] (spIsNum K C)) (m_N : mg "is_number" = some (.ref fN)) (k_N : PySem.W.keepIn K (.ref fN) = true) (b_N : Binds K fdN ["value"] [])
    (O : OwnOp K C fO (PySem.dunder Operator.Add.info.2)) (I : IntOp K C Operator.Add.info.2) (G_O : FnOk P w K mg base CX0 6 fO fdO ["self", "other"] (spR_add C)) (b_O : Binds K fdO ["self", "other"] []) :
    FnOk P w K mg base CX0 7 f fd ["self", "other"] (spR_radd C) := by
  refine F.ok sc_rradd (fun vs H Q E h => ?_) (fun cdv A outer s H vs Q E hr h => ?_)
  · obtain ⟨x, i, t, u, rfl, _⟩ := h
    rfl
  · obtain ⟨x, i, t, u, rfl, hx, pu, st, su, si, k⟩ := h
    refine ⟨_, (pss_cons (ps_if (pt_not (pt_val (pe_call G_N (hr.mono (by decide)) rfl m_N k_N b_N .nil pass0 (pa_cons (pv 1) pa_nil)))) (pss_one ps_never) pss_nil)
      (pss_one (ps_ret (pe_op (op_ownI (op := .Add) hc O I G_O hr b_O pass0) (pv 0) (pv 1))))), ?_⟩
    obtain ⟨q, b, hq, kb, hi, hbi⟩ := num_is (H := H) (y := .int i) (t := i) (u := 1) T Y Z (.inr ⟨rfl, rfl⟩)
    refine ⟨_, rfl, .int i, q, b, rfl, hq, kb, hi, _, rfl, ?_⟩
    rw [hbi]
    refine iteF ?_
    obtain ⟨dx, hx0⟩ := id hx
    exact ⟨_, rfl, _, rfl, x, i, dx, _, rfl, rfl, hx0, x, .int i, t, u, i, 1, rfl, hx, .inr ⟨rfl, rfl⟩, pu, by decide, st, su, si, fit_one, k⟩
def spR_rmul (C : Addr) : Sp := fun vs H Q _ => ∃ (x : Addr) (i t u : Int), vs = [.ref x, .int i] ∧ RatAt C H x t u ∧ 1 ≤ u ∧ Fit t ∧ Fit u ∧ Fit i ∧
  ∀ z T U H', Low (t * i) (u * 1) T U → RatAt C H' z T U → Same H H' → Q (.ref z) H'
theorem sc_rrmul : FnScope ["self", "other"] ["self", "other"] (defScope s_rrmul) := ⟨rfl, rfl, rfl, by decide +kernel, rfl, by decide +kernel, by decide +kernel⟩
theorem ok_rrmul {f C fO fN : Addr} {fd fdO fdN : FuncData} (F : Fun K "__rmul__" "Ratio.__rmul__" s_rrmul f fd) (T : CTx K C) (Y : ITy K C) (Z : KZx K C) (hc : PySem.W.selfFirst K C = true)
    (G_N : FnOk P w K mg base CX0 2 fN fdN ["value"] (spIsNum K C)) (m_N : mg "is_number" = some (.ref fN)) (k_N : PySem.W.keepIn K (.ref fN) = true) (b_N : Binds K fdN ["value"] [])
    (O : OwnOp K C fO (PySem.dunder Operator.Mult.info.2)) (I : IntOp K C Operator.Mult.info.2) (G_O : FnOk P w K mg base CX0 6 fO fdO ["self", "other"] (spR_mul C)) (b_O : Binds K fdO ["self", "other"] []) :
    FnOk P w K mg base CX0 7 f fd ["self", "other"] (spR_rmul C) := by
  refine F.ok sc_rrmul (fun vs H Q E h => ?_) (fun cdv A outer s H vs Q E hr h => ?_)
  · obtain ⟨x, i, t, u, rfl, _⟩ := h
    rfl
  · obtain ⟨x, i, t, u, rfl, hx, pu, st, su, si, k⟩ := h
    refine ⟨_, (pss_cons (ps_if (pt_not (pt_val (pe_call G_N (hr.mono (by decide)) rfl m_N k_N b_N .nil pass0 (pa_cons (pv 1) pa_nil)))) (pss_one ps_never) pss_nil)
      (pss_one (ps_ret (pe_op (op_ownI (op := .Mult) hc O I G_O hr b_O pass0) (pv 0) (pv 1))))), ?_⟩
    obtain ⟨q, b, hq, kb, hi, hbi⟩ := num_is (H := H) (y := .int i) (t := i) (u := 1) T Y Z (.inr ⟨rfl, rfl⟩)
    refine ⟨_, rfl, .int i, q, b, rfl, hq, kb, hi, _, rfl, ?_⟩
    rw [hbi]
    refine iteF ?_
    obtain ⟨dx, hx0⟩ := id hx
    exact ⟨_, rfl, _, rfl, x, i, dx, _, rfl, rfl, hx0, x, .int i, t, u, i, 1, rfl, hx, .inr ⟨rfl, rfl⟩, pu, by decide, st, su, si, fit_one, k⟩
def spR_rsub (C : Addr) : Sp := fun vs H Q _ => ∃ (x : Addr) (i t u : Int), vs = [.ref x, .int i] ∧ RatAt C H x t u ∧ 1 ≤ u ∧ Fit t ∧ Fit u ∧ Fit i ∧
  ∀ z T U H', Low (i * u - t * 1) (1 * u) T U → RatAt C H' z T U → Same H H' → Q (.ref z) H'
theorem sc_rrsub : FnScope ["self", "other"] ["self", "other"] (defScope s_rrsub) := ⟨rfl, rfl, rfl, by decide +kernel, rfl, by decide +kernel, by decide +kernel⟩
theorem ok_rrsub {f C fO fN fA : Addr} {fd fdO fdN fdA : FuncData} (F : Fun K "__rsub__" "Ratio.__rsub__" s_rrsub f fd) (T : CTx K C) (Y : ITy K C) (Z : KZx K C) (hc : PySem.W.selfFirst K C = true)
    (G_N : FnOk P w K mg base CX0 2 fN fdN ["value"] (spIsNum K C)) (m_N : mg "is_number" = some (.ref fN)) (k_N : PySem.W.keepIn K (.ref fN) = true) (b_N : Binds K fdN ["value"] [])
    (G_A : FnOk P w K mg base CX0 5 fA fdA ["number"] (spAsRatio C)) (m_A : mg "as_ratio" = some (.ref fA)) (k_A : PySem.W.keepIn K (.ref fA) = true) (b_A : Binds K fdA ["number"] [])
    (O : OwnOp K C fO (PySem.dunder Operator.Sub.info.2)) (G_O : FnOk P w K mg base CX0 6 fO fdO ["self", "other"] (spR_sub C)) (b_O : Binds K fdO ["self", "other"] []) :
    FnOk P w K mg base CX0 7 f fd ["self", "other"] (spR_rsub C) := by
  refine F.ok sc_rrsub (fun vs H Q E h => ?_) (fun cdv A outer s H vs Q E hr h => ?_)
  · obtain ⟨x, i, t, u, rfl, _⟩ := h
    rfl
  · obtain ⟨x, i, t, u, rfl, hx, pu, st, su, si, k⟩ := h
    refine ⟨_, (pss_cons (ps_if (pt_not (pt_val (pe_call G_N (hr.mono (by decide)) rfl m_N k_N b_N .nil pass0 (pa_cons (pv 1) pa_nil)))) (pss_one ps_never) pss_nil)
      (pss_one (ps_ret (pe_op (op_own2 (op := .Sub) hc O G_O hr b_O pass0) (pe_call G_A (hr.mono (by decide)) rfl m_A k_A b_A .nil pass0 (pa_cons (pv 1) pa_nil)) (pv 0))))), ?_⟩
    obtain ⟨q, b, hq, kb, hi, hbi⟩ := num_is (H := H) (y := .int i) (t := i) (u := 1) T Y Z (.inr ⟨rfl, rfl⟩)
    refine ⟨_, rfl, .int i, q, b, rfl, hq, kb, hi, _, rfl, ?_⟩
    rw [hbi]
    refine iteF ?_
    refine ⟨_, rfl, .int i, i, 1, rfl, .inr ⟨rfl, rfl⟩, fit_up si, fun r H1 hr1 s1 => ?_⟩
    obtain ⟨dx, hx0⟩ := id hx
    obtain ⟨dr, hr0⟩ := id hr1
    exact ⟨_, rfl, r, x, dr, dx, _, _, rfl, rfl, hr0, s1 _ _ hx0, r, .ref x, i, 1, t, u, rfl, hr1, .inl ⟨x, rfl, hx.same s1⟩, by decide, pu, si, fit_one, st, su, fun z T U H' L R s2 => k z T U H' L R (s1.trans s2)⟩
def spR_neg (C : Addr) : Sp := fun vs H Q _ => ∃ (x : Addr) (t u : Int), vs = [.ref x] ∧ RatAt C H x t u ∧ 1 ≤ u ∧ Fit u ∧ ∀ z T U H', Low (-t) u T U → RatAt C H' z T U → Same H H' → Q (.ref z) H'
theorem sc_rneg : FnScope ["self"] ["self"] (defScope s_rneg) := ⟨rfl, rfl, rfl, by decide +kernel, rfl, by decide +kernel, by decide +kernel⟩
theorem ok_rneg {f C CN fR : Addr} {fd fdR : FuncData} (F : Fun K "__neg__" "Ratio.__neg__" s_rneg f fd) (T : CTx K C) (Y : ITy K C) (Z : KZx K C) (m_C : mg "Ratio" = some (.ref C)) (M : Mk K C fR)
    (G_R : FnOk P w K mg base (L2.CX P w) 3 fR fdR ["self", "top", "bottom"] (spRatioInit K C CN)) (b_R : Binds K fdR ["self", "top", "bottom"] []) : FnOk P w K mg base CX0 5 f fd ["self"] (spR_neg C) := by
  refine F.ok sc_rneg (fun vs H Q E h => ?_) (fun cdv A outer s H vs Q E hr h => ?_)
  · obtain ⟨x, t, u, rfl, _⟩ := h
    rfl
  · obtain ⟨x, t, u, rfl, hx, pu, su, k⟩ := h
    refine ⟨_, pss_one (ps_ret (pe_make M G_R (hr.mono (by decide)) rfl m_C b_R .nil passL (pa_cons (pe_un un_neg (pe_fld (pv 0) rfl)) (pa_cons (pe_fld (pv 0) rfl) pa_nil)))), ?_⟩
    obtain ⟨dx, hx0⟩ := id hx
    refine ⟨_, rfl, x, C, dx, _, _, rfl, hx0, T.cl, T.nT, rf_top _ _, _, rfl, _, rfl, x, C, dx, _, _, rfl, hx0, T.cl, T.nB, rf_bottom _ _, ?_⟩
    exact fun z dz nz ndz ne => mk_go (by omega) (fit_up su) nz ndz ne fun T U H2 L R s2 => ⟨rfl, k z T U H2 L R s2⟩
def spR_over (C CN : Addr) : Sp := fun vs H Q E => ∃ (x : Addr) (y : V) (t u t' u' : Int), vs = [.ref x, y] ∧ RatAt C H x t u ∧ NumAt C H y t' u' ∧ 1 ≤ u ∧ 1 ≤ u' ∧ Fit t ∧ Fit u ∧ Fit t' ∧ Fit u' ∧
  (t' = 0 → ∀ H1 d, Same H H1 → H1 d = none → E (.ref CN) (some d) (upd H1 d (wordAt "zero"))) ∧
  (t' ≠ 0 → ∀ z T U H', Low (t * u') (u * t') T U → RatAt C H' z T U → Same H H' → Q (.ref z) H')
theorem sc_rover : FnScope ["self", "other", "right"] ["self", "other"] (defScope s_rover) := ⟨rfl, rfl, rfl, by decide +kernel, rfl, by decide +kernel, by decide +kernel⟩
theorem ok_rover {f C CN fR fA : Addr} {fd fdR fdA : FuncData} (F : Fun K "over" "Ratio.over" s_rover f fd) (T : CTx K C) (Y : ITy K C) (Z : KZx K C) (m_C : mg "Ratio" = some (.ref C)) (M : Mk K C fR)
    (G_R : FnOk P w K mg base (L2.CX P w) 3 fR fdR ["self", "top", "bottom"] (spRatioInit K C CN)) (b_R : Binds K fdR ["self", "top", "bottom"] [])
    (G_A : FnOk P w K mg base CX0 5 fA fdA ["number"] (spAsRatio C)) (m_A : mg "as_ratio" = some (.ref fA)) (k_A : PySem.W.keepIn K (.ref fA) = true) (b_A : Binds K fdA ["number"] []) : FnOk P w K mg base (L2.CX P w) 6 f fd ["self", "other"] (spR_over C CN) := by
  refine F.okX sc_rover (fun vs H Q E h => ?_) (fun cdv A outer s H vs Q E hr h => ?_)
  · obtain ⟨x, y, t, u, t', u', rfl, _⟩ := h
    rfl
  · obtain ⟨x, y, t, u, t', u', rfl, hx, hy, pu, pu', st, su, st', su', kE, k⟩ := h
    refine ⟨_, (pss_cons (ps_set (i := 2) sc_rover.nd rfl (Or.inl rfl) (pe_call G_A hr rfl m_A k_A b_A .nil pass0 (pa_cons (pv 1) pa_nil)))
      (pss_one (ps_ret (pe_make (E := E) M G_R (hr.mono (by decide)) rfl m_C b_R .nil (passes_call (takes_of rfl rfl rfl rfl) fun _ _ _ _ h => h) (pa_cons (pe_op op_mulW (pe_fld (pv 0) rfl) (pe_fld (pv 2) rfl)) (pa_cons (pe_op op_mulW (pe_fld (pv 0) rfl) (pe_fld (pv 2) rfl)) pa_nil)))))), ?_⟩
    refine ⟨_, rfl, y, t', u', rfl, hy, fit_up st', fun r H1 hr1 s1 => ?_⟩
    obtain ⟨dx, hx0⟩ := hx
    have hx1 := s1 _ _ hx0
    obtain ⟨dr, hr1⟩ := hr1
    refine ⟨_, rfl, x, C, dx, _, _, rfl, hx1, T.cl, T.nT, rf_top _ _, _, rfl, r, C, dr, _, _, rfl, hr1, T.cl, T.nB, rf_bottom _ _, _, _, rfl, rfl, mul_ok (up st) (up su'), ?_⟩
    refine ⟨_, rfl, x, C, dx, _, _, rfl, hx1, T.cl, T.nB, rf_bottom _ _, _, rfl, r, C, dr, _, _, rfl, hr1, T.cl, T.nT, rf_top _ _, _, _, rfl, rfl, mul_ok (up su) (up st'), ?_⟩
    intro z dz nz ndz ne
    by_cases h0 : t' = 0
    · have e0 : u * t' = 0 := by rw [h0, Int.mul_zero]
      refine ⟨z, dz, _, _, rfl, upd_same, .int _, .int _, fun b e => (by cases e; exact big2 su st'), fun w hw d hd => ?_, fun a b ea eb hb => (by cases eb; exact absurd e0 hb)⟩
      have hw1 : dueW (.int (t * u')) (.int (u * t')) = some w := hw
      rw [e0] at hw1
      have ew : w = "zero" := by
        have : dueW (.int (t * u')) (.int 0) = some ("zero" : Str) := rfl
        rw [this] at hw1
        exact (Option.some.inj hw1).symm
      subst ew
      exact kE h0 _ d (s1.trans (same_pair nz ndz ne)) hd
    · exact mk_go (mul_ne (by omega) h0) (big2 su st') nz ndz ne fun T U H2 L R s2 => ⟨rfl, k h0 z T U H2 L R (s1.trans s2)⟩
/-- self == other, other a number -/
def spR_eq (K : PySem.W.Frag) (C : Addr) : Sp := fun vs H Q _ => ∃ (x : Addr) (y : V) (t u : Int), vs = [.ref x, y] ∧ RatAt C H x t u ∧
  ((∃ r t' u', y = .ref r ∧ RatAt C H r t' u' ∧ Q (.bl (decide (t = t' ∧ u = u'))) H) ∨ (∃ i, y = .int i ∧ Q (.bl (decide (u = 1 ∧ t = i))) H) ∨
    (∃ q, TyX K H y q ∧ PySem.W.kitOne K q (.ref C) = some false ∧ IsTy K H y ∧ isI y = false ∧ Q (.bl false) H))
theorem sc_req : FnScope ["self", "other"] ["self", "other"] (defScope s_req) := ⟨rfl, rfl, rfl, by decide +kernel, rfl, by decide +kernel, by decide +kernel⟩
theorem dec_int2 (a b : Int) : decide (V.int a = V.int b) = decide (a = b) := by
  by_cases h : a = b
  · rw [h, decide_eq_true rfl, decide_eq_true rfl]
  · rw [decide_eq_false h, decide_eq_false fun e => h (V.int.inj e)]
theorem ok_req {f C fI : Addr} {fd fdI : FuncData} (F : Fun K "__eq__" "Ratio.__eq__" s_req f fd) (T : CTx K C) (Y : ITy K C) (Z : KZx K C) (B : ITx mg) (m_C : mg "Ratio" = some (.ref C))
    (G_I : FnOk P w K mg base CX0 1 fI fdI ["value"] (spIsInt K)) (m_I : mg "is_an_integer" = some (.ref fI)) (k_I : PySem.W.keepIn K (.ref fI) = true) (b_I : Binds K fdI ["value"] []) :
    FnOk P w K mg base CX0 2 f fd ["self", "other"] (spR_eq K C) := by
  refine F.ok sc_req (fun vs H Q E h => ?_) (fun cdv A outer s H vs Q E hr h => ?_)
  · obtain ⟨x, y, t, u, rfl, _⟩ := h
    rfl
  · obtain ⟨x, y, t, u, rfl, hx, h⟩ := h
    refine ⟨_, (pss_cons (ps_if (pt_val (pe_callB call_isi (by rfl) B.b_isinstance (by decide +kernel) (pa_cons (pv 1) (pa_cons (pe_glob (v := .ref C) rfl m_C rfl) pa_nil))))
        (pss_one (ps_ret (pe_and (pe_cmpR op_eq (pe_fld (pv 0) rfl) (pe_fld (pv 1) rfl) (nomark _)) (pe_one (pe_cmpR op_eq (pe_fld (pv 0) rfl) (pe_fld (pv 1) rfl) (nomark _)))))) pss_nil)
      (pss_one (ps_ret (pe_and (pe_call G_I hr rfl m_I k_I b_I .nil pass0 (pa_cons (pv 1) pa_nil)) (pe_and (pe_cmpR op_eq (pe_fld (pv 0) rfl) pe_int (nomark _)) (pe_one (pe_cmpR op_eq (pe_fld (pv 0) rfl) (pv 1) (nomark _)))))))), ?_⟩
    obtain ⟨dx, hx0⟩ := id hx
    rcases h with ⟨r, t', u', rfl, hr1, k⟩ | ⟨i, rfl, k⟩ | ⟨q, ty, kb, it, ni, k⟩
    · obtain ⟨dr, hr0⟩ := id hr1
      refine ⟨_, rfl, _, _, _, _, true, rfl, .own C, hr1.ty T Y, kit_self, _, rfl, iteT ?_⟩
      refine ⟨_, rfl, x, C, dx, _, _, rfl, hx0, T.cl, T.nT, rf_top _ _, _, rfl, r, C, dr, _, _, rfl, hr0, T.cl, T.nT, rf_top _ _, rfl, _, rfl, ?_⟩
      rw [dec_int2]
      by_cases e : t = t'
      · rw [decide_eq_true e]
        refine iteT ⟨_, rfl, x, C, dx, _, _, rfl, hx0, T.cl, T.nB, rf_bottom _ _, _, rfl, r, C, dr, _, _, rfl, hr0, T.cl, T.nB, rf_bottom _ _, rfl, ?_⟩
        show Q (.bl (decide (V.int u = V.int u'))) H
        rw [dec_int2]
        simp only [e, true_and] at k
        exact k
      · rw [decide_eq_false e]
        refine iteF ?_
        simp only [e, false_and, decide_false] at k
        exact k
    · refine ⟨_, rfl, _, _, _, _, false, rfl, .own C, .base (.int _), Z.kint, _, rfl, iteF ?_⟩
      refine ⟨_, rfl, _, rfl, .int i, _, rfl, iteT ?_⟩
      refine ⟨_, rfl, x, C, dx, _, _, rfl, hx0, T.cl, T.nB, rf_bottom _ _, rfl, _, rfl, ?_⟩
      rw [dec_int2]
      by_cases e : u = 1
      · rw [decide_eq_true e]
        refine iteT ⟨_, rfl, x, C, dx, _, _, rfl, hx0, T.cl, T.nT, rf_top _ _, _, rfl, rfl, ?_⟩
        show Q (.bl (decide (V.int t = V.int i))) H
        rw [dec_int2]
        simp only [e, true_and] at k
        exact k
      · rw [decide_eq_false e]
        refine iteF ?_
        simp only [e, false_and, decide_false] at k
        exact k
    · refine ⟨_, rfl, _, _, _, _, false, rfl, .own C, ty, kb, _, rfl, iteF ?_⟩
      refine ⟨_, rfl, y, rfl, it, _, rfl, ?_⟩
      rw [ni]
      exact iteF k
end
end Sq

namespace Sq
open PySem L2 PyProof.Rows
abbrev s_isprime : Stmt := top 30
abbrev s_inverse : Stmt := top 32
/-! ### primes -/
/-- no divisor from 2 on whose square is at most n -/
def isP (n : Nat) : Bool := (List.range 100).all fun d => !(decide (2 ≤ d) && decide (d * d ≤ n) && decide (n % d = 0))
def rt (n : Nat) : Bool := let r := Float64.isqrt n; Nat.ble (r * r) n && Nat.blt n ((r + 1) * (r + 1))
def chk : Nat → Nat → Bool
  | 0, _ => true
  | k + 1, b => rt (b + k) && chk k b
theorem chk_at {n : Nat} : ∀ {k b : Nat}, chk k b = true → b ≤ n → n < b + k → rt n = true
  | 0, b, _, h1, h2 => absurd h2 (by omega)
  | k + 1, b, h, h1, h2 => by
    obtain ⟨ha, hb⟩ := Bool.and_eq_true_iff.mp h
    by_cases e : n = b + k
    · rw [e]
      exact ha
    · exact chk_at hb h1 (by omega)
theorem chk0 : chk 100 0 = true := by decide +kernel
theorem chk1 : chk 100 100 = true := by decide +kernel
theorem chk2 : chk 100 200 = true := by decide +kernel
theorem chk3 : chk 100 300 = true := by decide +kernel
theorem chk4 : chk 100 400 = true := by decide +kernel
theorem chk5 : chk 100 500 = true := by decide +kernel
theorem chk6 : chk 100 600 = true := by decide +kernel
theorem chk7 : chk 100 700 = true := by decide +kernel
theorem chk8 : chk 100 800 = true := by decide +kernel
theorem chk9 : chk 100 900 = true := by decide +kernel
theorem chk10 : chk 100 1000 = true := by decide +kernel
theorem chk11 : chk 100 1100 = true := by decide +kernel
theorem chk12 : chk 100 1200 = true := by decide +kernel
theorem chk13 : chk 100 1300 = true := by decide +kernel
theorem chk14 : chk 100 1400 = true := by decide +kernel
theorem chk15 : chk 100 1500 = true := by decide +kernel
theorem chk16 : chk 100 1600 = true := by decide +kernel
theorem chk17 : chk 100 1700 = true := by decide +kernel
theorem chk18 : chk 100 1800 = true := by decide +kernel
theorem chk19 : chk 100 1900 = true := by decide +kernel
theorem chk20 : chk 100 2000 = true := by decide +kernel
theorem chk21 : chk 100 2100 = true := by decide +kernel
theorem chk22 : chk 100 2200 = true := by decide +kernel
theorem chk23 : chk 100 2300 = true := by decide +kernel
theorem chk24 : chk 100 2400 = true := by decide +kernel
theorem chk25 : chk 100 2500 = true := by decide +kernel
theorem chk26 : chk 100 2600 = true := by decide +kernel
theorem chk27 : chk 100 2700 = true := by decide +kernel
theorem chk28 : chk 100 2800 = true := by decide +kernel
theorem chk29 : chk 100 2900 = true := by decide +kernel
theorem chk30 : chk 100 3000 = true := by decide +kernel
theorem chk31 : chk 100 3100 = true := by decide +kernel
theorem chk32 : chk 100 3200 = true := by decide +kernel
theorem chk33 : chk 100 3300 = true := by decide +kernel
theorem chk34 : chk 100 3400 = true := by decide +kernel
theorem chk35 : chk 100 3500 = true := by decide +kernel
theorem chk36 : chk 100 3600 = true := by decide +kernel
theorem chk37 : chk 100 3700 = true := by decide +kernel
theorem chk38 : chk 100 3800 = true := by decide +kernel
theorem chk39 : chk 100 3900 = true := by decide +kernel
theorem chk40 : chk 100 4000 = true := by decide +kernel
theorem chk41 : chk 100 4100 = true := by decide +kernel
theorem chk42 : chk 100 4200 = true := by decide +kernel
theorem chk43 : chk 100 4300 = true := by decide +kernel
theorem chk44 : chk 100 4400 = true := by decide +kernel
theorem chk45 : chk 100 4500 = true := by decide +kernel
theorem chk46 : chk 100 4600 = true := by decide +kernel
theorem chk47 : chk 100 4700 = true := by decide +kernel
theorem chk48 : chk 100 4800 = true := by decide +kernel
theorem chk49 : chk 100 4900 = true := by decide +kernel
theorem chk50 : chk 100 5000 = true := by decide +kernel
theorem chk51 : chk 100 5100 = true := by decide +kernel
theorem chk52 : chk 100 5200 = true := by decide +kernel
theorem chk53 : chk 100 5300 = true := by decide +kernel
theorem chk54 : chk 100 5400 = true := by decide +kernel
theorem chk55 : chk 100 5500 = true := by decide +kernel
theorem chk56 : chk 100 5600 = true := by decide +kernel
theorem chk57 : chk 100 5700 = true := by decide +kernel
theorem chk58 : chk 100 5800 = true := by decide +kernel
theorem chk59 : chk 100 5900 = true := by decide +kernel
theorem chk60 : chk 100 6000 = true := by decide +kernel
theorem chk61 : chk 100 6100 = true := by decide +kernel
theorem chk62 : chk 100 6200 = true := by decide +kernel
theorem chk63 : chk 100 6300 = true := by decide +kernel
theorem chk64 : chk 100 6400 = true := by decide +kernel
theorem chk65 : chk 100 6500 = true := by decide +kernel
theorem chk66 : chk 100 6600 = true := by decide +kernel
theorem chk67 : chk 100 6700 = true := by decide +kernel
theorem chk68 : chk 100 6800 = true := by decide +kernel
theorem chk69 : chk 100 6900 = true := by decide +kernel
theorem chk70 : chk 100 7000 = true := by decide +kernel
theorem chk71 : chk 100 7100 = true := by decide +kernel
theorem chk72 : chk 100 7200 = true := by decide +kernel
theorem chk73 : chk 100 7300 = true := by decide +kernel
theorem chk74 : chk 100 7400 = true := by decide +kernel
theorem chk75 : chk 100 7500 = true := by decide +kernel
theorem chk76 : chk 100 7600 = true := by decide +kernel
theorem chk77 : chk 100 7700 = true := by decide +kernel
theorem chk78 : chk 100 7800 = true := by decide +kernel
theorem chk79 : chk 100 7900 = true := by decide +kernel
theorem chk80 : chk 100 8000 = true := by decide +kernel
theorem chk81 : chk 100 8100 = true := by decide +kernel
theorem chk82 : chk 100 8200 = true := by decide +kernel
theorem chk83 : chk 100 8300 = true := by decide +kernel
theorem chk84 : chk 100 8400 = true := by decide +kernel
theorem chk85 : chk 100 8500 = true := by decide +kernel
theorem chk86 : chk 100 8600 = true := by decide +kernel
theorem chk87 : chk 100 8700 = true := by decide +kernel
theorem chk88 : chk 100 8800 = true := by decide +kernel
theorem chk89 : chk 100 8900 = true := by decide +kernel
theorem chk90 : chk 100 9000 = true := by decide +kernel
theorem chk91 : chk 100 9100 = true := by decide +kernel
theorem chk92 : chk 100 9200 = true := by decide +kernel
theorem chk93 : chk 100 9300 = true := by decide +kernel
theorem chk94 : chk 100 9400 = true := by decide +kernel
theorem chk95 : chk 100 9500 = true := by decide +kernel
theorem chk96 : chk 100 9600 = true := by decide +kernel
theorem chk97 : chk 100 9700 = true := by decide +kernel
theorem chk98 : chk 100 9800 = true := by decide +kernel
theorem chk99 : chk 100 9900 = true := by decide +kernel
theorem chk_all : ∀ c, c < 100 → chk 100 (c * 100) = true := fun c hc => match c, hc with
  | 0, _ => chk0
  | 1, _ => chk1
  | 2, _ => chk2
  | 3, _ => chk3
  | 4, _ => chk4
  | 5, _ => chk5
  | 6, _ => chk6
  | 7, _ => chk7
  | 8, _ => chk8
  | 9, _ => chk9
  | 10, _ => chk10
  | 11, _ => chk11
  | 12, _ => chk12
  | 13, _ => chk13
  | 14, _ => chk14
  | 15, _ => chk15
  | 16, _ => chk16
  | 17, _ => chk17
  | 18, _ => chk18
  | 19, _ => chk19
  | 20, _ => chk20
  | 21, _ => chk21
  | 22, _ => chk22
  | 23, _ => chk23
  | 24, _ => chk24
  | 25, _ => chk25
  | 26, _ => chk26
  | 27, _ => chk27
  | 28, _ => chk28
  | 29, _ => chk29
  | 30, _ => chk30
  | 31, _ => chk31
  | 32, _ => chk32
  | 33, _ => chk33
  | 34, _ => chk34
  | 35, _ => chk35
  | 36, _ => chk36
  | 37, _ => chk37
  | 38, _ => chk38
  | 39, _ => chk39
  | 40, _ => chk40
  | 41, _ => chk41
  | 42, _ => chk42
  | 43, _ => chk43
  | 44, _ => chk44
  | 45, _ => chk45
  | 46, _ => chk46
  | 47, _ => chk47
  | 48, _ => chk48
  | 49, _ => chk49
  | 50, _ => chk50
  | 51, _ => chk51
  | 52, _ => chk52
  | 53, _ => chk53
  | 54, _ => chk54
  | 55, _ => chk55
  | 56, _ => chk56
  | 57, _ => chk57
  | 58, _ => chk58
  | 59, _ => chk59
  | 60, _ => chk60
  | 61, _ => chk61
  | 62, _ => chk62
  | 63, _ => chk63
  | 64, _ => chk64
  | 65, _ => chk65
  | 66, _ => chk66
  | 67, _ => chk67
  | 68, _ => chk68
  | 69, _ => chk69
  | 70, _ => chk70
  | 71, _ => chk71
  | 72, _ => chk72
  | 73, _ => chk73
  | 74, _ => chk74
  | 75, _ => chk75
  | 76, _ => chk76
  | 77, _ => chk77
  | 78, _ => chk78
  | 79, _ => chk79
  | 80, _ => chk80
  | 81, _ => chk81
  | 82, _ => chk82
  | 83, _ => chk83
  | 84, _ => chk84
  | 85, _ => chk85
  | 86, _ => chk86
  | 87, _ => chk87
  | 88, _ => chk88
  | 89, _ => chk89
  | 90, _ => chk90
  | 91, _ => chk91
  | 92, _ => chk92
  | 93, _ => chk93
  | 94, _ => chk94
  | 95, _ => chk95
  | 96, _ => chk96
  | 97, _ => chk97
  | 98, _ => chk98
  | 99, _ => chk99
  | n + 100, h => absurd h (by omega)
theorem root_ok (n : Nat) (h : n < 9974) : Float64.isqrt n * Float64.isqrt n ≤ n ∧ n < (Float64.isqrt n + 1) * (Float64.isqrt n + 1) := by
  have e : rt n = true := chk_at (chk_all (n / 100) (by omega)) (by omega) (by omega)
  obtain ⟨h1, h2⟩ := Bool.and_eq_true_iff.mp e
  exact ⟨Nat.le_of_ble_eq_true h1, by simpa [Nat.blt_eq] using h2⟩
theorem root_le {n d : Nat} (h : n < 9974) : d ≤ Float64.isqrt n ↔ d * d ≤ n := by
  obtain ⟨h1, h2⟩ := root_ok n h
  constructor
  · intro e
    exact Nat.le_trans (Nat.mul_le_mul e e) h1
  · intro e
    refine Nat.le_of_not_lt fun c => ?_
    have := Nat.mul_le_mul (Nat.succ_le_of_lt c) (Nat.succ_le_of_lt c)
    simp only [Nat.succ_eq_add_one] at this
    omega
theorem sq_lt {n d : Nat} (h : n < 9974) (e : d * d ≤ n) : d < 100 := by
  refine Nat.lt_of_not_le fun c => ?_
  have := Nat.mul_le_mul c c
  omega
theorem isP_no {n d : Nat} (h2 : 2 ≤ d) (hn : n < 9974) (hs : d * d ≤ n) (hm : n % d = 0) : isP n = false := by
  cases e : isP n with
  | false => rfl
  | true =>
    have q := List.all_eq_true.mp e d (List.mem_range.mpr (sq_lt hn hs))
    simp [h2, hs, hm] at q
theorem isP_yes {n : Nat} (h : ∀ d, 2 ≤ d → d * d ≤ n → n % d ≠ 0) : isP n = true := by
  refine List.all_eq_true.mpr fun d _ => ?_
  by_cases h2 : 2 ≤ d
  · by_cases hs : d * d ≤ n
    · simp [h2, hs, h d h2 hs]
    · simp [hs]
  · simp [h2]
theorem isP_at {n d : Nat} (h : isP n = true) (h2 : 2 ≤ d) (hn : n < 9974) (hs : d * d ≤ n) : n % d ≠ 0 := fun e => by
  rw [isP_no h2 hn hs e] at h
  cases h
def rRoot : List V → Hp → VK → Prop := fun vs H Q => ∃ a : Nat, vs = [.int (a : Int)] ∧ a < 2 ^ 64 ∧ Q (.int ((Float64.isqrt a : Nat) : Int)) H
theorem cr_root {X : Cx} : CallR X (.builtin "math.isqrt") rRoot := by
  intro pins s σ H vs us Q I r h
  obtain ⟨a, rfl, ha, q⟩ := h
  cases r with
  | @cons _ u _ _ r1 r2 =>
    cases r2
    obtain ⟨t, rfl⟩ := (show ∃ t, u = Value.int (a : Int) t from r1)
    exact PySem.W.mg_isqrt (by omega) (by omega) ⟨.int ((Float64.isqrt a : Nat) : Int), H, I.tok _, ⟨s.toks, by rw [Int.toNat_natCast]⟩, q⟩
structure RTx (mg : Str → Option Value) : Prop where
  g_isqrt : mg "isqrt" = some (.builtin "math.isqrt")
  b_range : mg "range" = none
def spPrime : Sp := fun vs H Q _ => ∃ n : Nat, vs = [.int (n : Int)] ∧ n < 9974 ∧ Q (.bl (isP n)) H
section
variable {P : Program} {w : World} {K : PySem.W.Frag} {mg : Str → Option Value} {base : Heap}
theorem sc_isprime : FnScope ["count", "divisor"] ["count"] (defScope s_isprime) := ⟨rfl, rfl, rfl, by decide +kernel, rfl, by decide +kernel, by decide +kernel⟩
theorem ok_isprime {f : Addr} {fd : FuncData} (F : Fun K "_is_prime" "_is_prime" s_isprime f fd) (T : RTx mg) : FnOk P w K mg base CX0 1 f fd ["count"] spPrime := by
  refine F.ok sc_isprime (fun vs H Q E h => ?_) (fun cdv A outer s H vs Q E hr h => ?_)
  · obtain ⟨x, rfl, _⟩ := h
    rfl
  · obtain ⟨n, rfl, hn, k⟩ := h
    refine ⟨_, pss_cons (ps_for PassesOwn.never rfl (pi_range2 (by rfl) T.b_range (pa_cons pe_int (pa_cons (pe_op op_add (pe_callBfun cr_root (by rfl) T.g_isqrt (pa_cons (pv 0) pa_nil)) pe_int) pa_nil))) (pg_name (i := 1) sc_isprime.nd rfl (Or.inl rfl)) (pss_one (ps_if (pt_cmpR op_eq (pe_op op_mod (pv 0) (pv 1)) pe_int (nomark _)) (pss_one (ps_ret pe_bl)) pss_nil)))
      (pss_one (ps_ret pe_bl)), ?_⟩
    have r99 : Float64.isqrt n < 100 := sq_lt hn (root_ok n hn).1
    refine ⟨_, rfl, n, rfl, by omega, _, _, rfl, rfl, _, _, rfl, by omega, ?_⟩
    refine for_range (lo := 2) (n := (((Float64.isqrt n : Nat) : Int) + 1 - 2).toNat) (fun i σ H' => ∃ z, σ = [some (.int (n : Int)), z] ∧ H' = H ∧ ∀ d, 2 ≤ d → d < 2 + i → n % d ≠ 0) ⟨none, rfl, rfl, fun d h1 h2 => by omega⟩ ?_ ?_
    · rintro i σ H2 hi ⟨z, rfl, rfl, hd⟩
      have hle : 2 + i ≤ Float64.isqrt n := by omega
      have em : ((n : Int) % ((2 : Int) + (i : Int))) = ((n % (2 + i) : Nat) : Int) := by
        rw [Int.natCast_emod]
        rfl
      refine ⟨_, rfl, _, rfl, _, _, rfl, rfl, by omega, rfl, _, rfl, ite2 (fun c => ?_) (fun c => ?_)⟩
      · have e0 : n % (2 + i) = 0 := by
          have q : ((n : Int) % ((2 : Int) + (i : Int))) = 0 := V.int.inj (of_decide_eq_true c)
          rw [em] at q
          omega
        rw [isP_no (by omega) hn ((root_le hn).mp hle) e0] at k
        exact k
      · refine ⟨_, rfl, rfl, fun d h1 h2 => ?_⟩
        by_cases e : d = 2 + i
        · subst e
          intro q
          refine c (decide_eq_true ?_)
          show V.int ((n : Int) % ((2 : Int) + (i : Int))) = V.int 0
          rw [em, q]
          rfl
        · exact hd d h1 (by omega)
    · rintro σ H2 ⟨z, rfl, rfl, hd⟩
      rw [isP_yes fun d h1 h2 => hd d h1 (by have := (root_le hn).mpr h2; omega)] at k
      exact k
def spInv : Sp := fun vs H Q _ => ∃ a p : Int, vs = [.int a, .int p] ∧ 1 ≤ a ∧ a < p ∧ p < 9974 ∧ Int.gcd p a = 1 ∧ ∀ r, 0 ≤ r → r < p → (∃ k, r * a = 1 + k * p) → ∀ H', Same H H' → Q (.int r) H'
theorem sc_inverse : FnScope ["number", "prime", "high", "low", "high_factor", "low_factor", "times"] ["number", "prime"] (defScope s_inverse) := ⟨rfl, rfl, rfl, by decide +kernel, rfl, by decide +kernel, by decide +kernel⟩
theorem ok_inverse {f : Addr} {fd : FuncData} (F : Fun K "_inverse" "_inverse" s_inverse f fd) : FnOk P w K mg base CX0 1 f fd ["number", "prime"] spInv := by
  refine F.ok sc_inverse (fun vs H Q E h => ?_) (fun cdv A outer s H vs Q E hr h => ?_)
  · obtain ⟨x, y, rfl, _⟩ := h
    rfl
  · obtain ⟨a, p, rfl, ha, hap, hp, hg, k⟩ := h
    refine ⟨_, (pss_cons (ps_par (i := 2) (j := 3) (by rfl) sc_inverse.nd rfl rfl (by decide) rfl rfl (pa_cons (pv 1) (pa_cons (pv 0) pa_nil)) (by rfl))
      (pss_cons (ps_asg (pe_tup (pa_cons pe_int (pa_cons pe_int pa_nil))) (pg_tup rfl (pgs_cons (pg_name (i := 4) sc_inverse.nd rfl (Or.inl rfl)) (pgs_cons (pg_name (i := 5) sc_inverse.nd rfl (Or.inl rfl)) pgs_nil))))
      (pss_cons (ps_while PassesOwn.never (pt_cmpR op_gt (pv 3) pe_int (nomark _)) (pss_cons (ps_set (i := 6) sc_inverse.nd rfl (Or.inl rfl) (pe_op op_fdiv (pv 2) (pv 3)))
      (pss_cons (ps_par (i := 2) (j := 3) (by rfl) sc_inverse.nd rfl rfl (by decide) rfl rfl (pa_cons (pv 3) (pa_cons (pe_op op_sub (pv 2) (pe_op op_mul (pv 6) (pv 3))) pa_nil)) (by rfl))
      (pss_one (ps_par (i := 4) (j := 5) (by rfl) sc_inverse.nd rfl rfl (by decide) rfl rfl (pa_cons (pv 5) (pa_cons (pe_op op_sub (pv 4) (pe_op op_mul (pv 6) (pv 5))) pa_nil)) (by rfl))))))
      (pss_one (ps_ret (pe_op op_mod (pv 5) (pv 1))))))), ?_⟩
    refine ⟨_, rfl, _, rfl, _, _, rfl, (by show 2 ≤ sizeLine; decide), fun q hq => ⟨q, _, rfl, .inl (.inl upd_same), rfl, _, _, rfl, _, _, rfl, rfl, ?_⟩⟩
    have s0 : Same H (upd H q (.tup [.int 0, .int 1])) := same_new (Same.refl _) hq
    refine while_by (fun σ H' => ∃ (x l xf lf : Int) (z : Option V) (s u v : Int), σ = [some (.int a), some (.int p), some (.int x), some (.int l), some (.int xf), some (.int lf), z] ∧ Same H H' ∧ 1 ≤ l ∧ l < x ∧ x ≤ p ∧ Int.gcd x l = 1 ∧ (∃ k, xf * a = x + k * p) ∧ (∃ k, lf * a = l + k * p) ∧
      (s = 1 ∨ s = -1) ∧ 0 ≤ u ∧ 0 ≤ v ∧ xf = -s * u ∧ lf = s * v ∧ x * v + l * u = p) (fun σ _ => match σ with | [_, _, _, some (.int l), _, _, _] => l.natAbs | _ => 0) ⟨p, a, 0, 1, none, 1, 0, 1, rfl, s0, ha, hap, Int.le_refl _, hg, ⟨-1, by omega⟩, ⟨0, by omega⟩, .inl rfl, by decide, by decide, rfl, rfl, by omega⟩ ?_ ?_
    · rintro σ H' ⟨x, l, xf, lf, z, s, u, v, rfl, sH, h1, h2, h3, hg2, ⟨k1, e1⟩, ⟨k2, e2⟩, hs, hu, hv, ex, el, id⟩
      have hvp : v ≤ p := by
        have a1 : 1 * v ≤ x * v := Int.mul_le_mul_of_nonneg_right (by omega) hv
        have a2 : 0 ≤ l * u := Int.mul_nonneg (by omega) hu
        omega
      refine ⟨_, rfl, _, _, rfl, rfl, _, rfl, ?_⟩
      refine ite2 (fun c => ?_) (fun c => ?_)
      · have l1 : 1 < l := of_decide_eq_true c
        have d1 : x / l * l ≤ x := Int.ediv_mul_le x (by omega)
        have t0 : 0 ≤ x / l := Int.ediv_nonneg (by omega) (by omega)
        have tx : x / l ≤ x := Int.ediv_le_self _ (by omega)
        have dm := Int.emod_add_mul_ediv x l
        have m0 := Int.emod_nonneg x (b := l) (by omega)
        have m1 := Int.emod_lt_of_pos x (b := l) (by omega)
        have er : x - x / l * l = x % l := by
          have e := Int.emod_def x l
          rw [Int.mul_comm] at e
          exact e.symm
        have gr : Int.gcd l (x % l) = 1 := by
          rw [← Int.fmod_eq_emod_of_nonneg x (by omega), gcd_fmod]
          exact hg2
        have mn : 1 ≤ x % l := by
          rcases (show x % l = 0 ∨ 1 ≤ x % l from by omega) with e | e
          · rw [e] at gr
            simp at gr
            omega
          · exact e
        have lfb : -(2 ^ 64) < lf ∧ lf < 2 ^ 64 := by rcases hs with rfl | rfl <;> omega
        refine ⟨_, rfl, _, rfl, _, _, rfl, rfl, ⟨by omega, by omega⟩, ?_⟩
        refine ⟨_, rfl, _, rfl, _, rfl, _, rfl, _, _, rfl, rfl, .inl ⟨by omega, by omega⟩, _, _, rfl, rfl, _, _, rfl, ?_⟩
        refine ⟨_, rfl, _, rfl, _, rfl, _, rfl, _, _, rfl, rfl, .inl ⟨by omega, by omega⟩, _, _, rfl, rfl, _, _, rfl, ?_⟩
        refine ⟨⟨l, x - x / l * l, lf, xf - x / l * lf, some (.int (x / l)), -s, v, u + x / l * v, rfl, sH, by omega, by omega, by omega, by rw [er]; exact gr, ⟨k2, e2⟩, ⟨k1 - x / l * k2, ?_⟩, by omega, hv, ?_, ?_, ?_, ?_⟩, ?_⟩
        · generalize x / l = t at *
          grind
        · have := Int.mul_nonneg t0 hv
          omega
        · rw [el]
          grind
        · rw [ex, el]
          generalize x / l = t at *
          grind
        · generalize x / l = t at *
          grind
        · show (x - x / l * l).natAbs < l.natAbs
          omega
      · have l1 : l = 1 := by
          have := of_decide_eq_false (by simpa using c : decide (1 < l) = false)
          omega
        refine ⟨_, rfl, _, rfl, _, _, rfl, rfl, (show 0 < p from by omega), ?_⟩
        refine k (lf % p) (Int.emod_nonneg _ (by omega)) (Int.emod_lt_of_pos _ (by omega)) ?_ H' sH
        have dm := Int.emod_def lf p
        refine ⟨k2 - lf / p * a, ?_⟩
        rw [dm]
        subst l1
        generalize lf / p = t at *
        grind
    · rintro σ H' Q1 Q2 hi c
      obtain ⟨v, e, x, y, e2, z, e3, c⟩ := c
      exact ⟨v, e, x, y, e2, z, e3, c.1, hi _ _ c.2⟩
end
end Sq

namespace Sq
open PySem L2 PyProof.Rows
abbrev s_finit : Stmt := inClass (top 33) 0
abbrev s_feq : Stmt := inClass (top 33) 1
abbrev s_fnum : Stmt := inClass (top 33) 2
abbrev s_fover : Stmt := inClass (top 33) 3
def goodP (p : Int) : Bool := decide (p = 0) || (decide (2 ≤ p) && decide (p ≤ 9973) && isP p.toNat)
theorem goodP_pos {p : Int} (h : goodP p = true) (h0 : p ≠ 0) : 2 ≤ p ∧ p ≤ 9973 ∧ isP p.toNat = true := by
  unfold goodP at h
  simp [h0] at h
  exact ⟨h.1.1, h.1.2, h.2⟩
theorem gcd_prime {p a : Int} (h2 : 2 ≤ p) (hp : p ≤ 9973) (h : isP p.toNat = true) (h1 : 1 ≤ a) (ha : a < p) : Int.gcd p a = 1 := by
  have dp : Int.gcd p a ∣ p.natAbs := Int.gcd_dvd_natAbs_left ..
  have da : Int.gcd p a ∣ a.natAbs := Int.gcd_dvd_natAbs_right ..
  generalize Int.gcd p a = g at *
  have pn : p.toNat = p.natAbs := by omega
  rw [pn] at h
  have ga : g ≤ a.natAbs := Nat.le_of_dvd (by omega) da
  obtain ⟨q, hq⟩ := dp
  have g0 : g ≠ 0 := fun e => by
    rw [e, Nat.zero_mul] at hq
    omega
  have q0 : q ≠ 0 := fun e => by
    rw [e, Nat.mul_zero] at hq
    omega
  have q1 : q ≠ 1 := fun e => by
    rw [e, Nat.mul_one] at hq
    omega
  by_cases g1 : g = 1
  · exact g1
  · exfalso
    rcases Nat.le_total g q with l | l
    · have := Nat.mul_le_mul (Nat.le_refl g) l
      exact isP_at h (d := g) (by omega) (by omega) (by omega) (by rw [hq]; exact Nat.mul_mod_right _ _)
    · have := Nat.mul_le_mul l (Nat.le_refl q)
      exact isP_at h (d := q) (by omega) (by omega) (by omega) (by rw [hq]; exact Nat.mul_mod_left _ _)
def pfl (p : Int) : List (Str × V) := putF "prime" (.int p) []
theorem pf_prime (p : Int) : (pfl p).lookup ("prime" : Str) = some (.int p) := by
  unfold pfl
  rw [lookup_putF, if_pos rfl]
theorem pf_no (p : Int) {m : Str} (h1 : ¬ m = "prime") : (pfl p).lookup m = none := by
  unfold pfl
  rw [lookup_putF, if_neg h1]
  rfl
def FldAt (CF : Addr) (H : Hp) (x : Addr) (p : Int) : Prop := ∃ dx, H x = some (.ins CF dx (pfl p))
theorem FldAt.same {C : Addr} {H H' : Hp} {x : Addr} {p : Int} (s : Same H H') (h : FldAt C H x p) : FldAt C H' x p := by
  obtain ⟨dx, h⟩ := h
  exact ⟨dx, s _ _ h⟩
structure FTx (K : PySem.W.Frag) (CF : Addr) : Prop where
  cl : Cls K CF
  nP : NoAttr K CF "prime"
/-- an own error without an __init__ that is raised -/
structure RNx (K : PySem.W.Frag) (mg : Str → Option Value) (x : Str) (CN : Addr) : Prop where
  q : PySem.W.excIn K CN [.type "ValueError", .type "Exception", .type "BaseException", .type "object"] "ValueError.__new__" = true
  m : mg x = some (.ref CN)
  k : PySem.W.keepIn K (.ref CN) = true
  ex : PySem.W.subIn K (.ref CN) (.type "BaseException") = some true
  ty : PySem.W.typeIn K (.ref CN) = some (.type "type")
theorem itD {c : Prop} [Decidable c] {a b : Prop} (h : c) (x : a) : ite c a b := by
  rw [if_pos h]
  exact x
theorem itDn {c : Prop} [Decidable c] {a b : Prop} (h : ¬ c) (x : b) : ite c a b := by
  rw [if_neg h]
  exact x
def spFieldInit (K : PySem.W.Frag) (CF CNF : Addr) : Sp := fun vs H Q E => ∃ (x dx : Addr) (v : V), vs = [.ref x, v] ∧ H x = some (.ins CF dx []) ∧ IsTy K H v ∧ ((∀ p, v = .int p → goodP p = false) → E (.ref CNF) none H) ∧
  (∀ p, v = .int p → goodP p = true → ∀ H', FldAt CF H' x p → But x H H' → Q .non H')
section
variable {P : Program} {w : World} {K : PySem.W.Frag} {mg : Str → Option Value} {base : Heap}
theorem sc_finit : FnScope ["self", "prime"] ["self", "prime"] (defScope s_finit) := ⟨rfl, rfl, rfl, by decide +kernel, rfl, by decide +kernel, by decide +kernel⟩
theorem ok_finit {f CF CNF fI fP : Addr} {fd fdI fdP : FuncData} {tk : Tok} (F : FunD K "__init__" "Field.__init__" (defArgs s_finit) (defBody s_finit) (defScope s_finit) [.int 0] [] f fd) (TF : FTx K CF) (RN : RNx K mg "NoField" CNF) (GP : mg "GREATEST_PRIME" = some (.int 9973 tk))
    (G_I : FnOk P w K mg base CX0 1 fI fdI ["value"] (spIsInt K)) (m_I : mg "is_an_integer" = some (.ref fI)) (k_I : PySem.W.keepIn K (.ref fI) = true) (b_I : Binds K fdI ["value"] [])
    (G_P : FnOk P w K mg base CX0 1 fP fdP ["count"] spPrime) (m_P : mg "_is_prime" = some (.ref fP)) (k_P : PySem.W.keepIn K (.ref fP) = true) (b_P : Binds K fdP ["count"] []) :
    FnOk P w K mg base (L2.CX P w) 2 f fd ["self", "prime"] (spFieldInit K CF CNF) := by
  refine F.ok sc_finit (fun vs H Q E h => ?_) (fun cdv A outer s H vs Q E hr h => ?_)
  · obtain ⟨x, dx, v, rfl, _⟩ := h
    rfl
  · obtain ⟨x, dx, v, rfl, hx, tv, kE, kQ⟩ := h
    refine ⟨_, (pss_cons (ps_if (pt_not (pt_val (pe_call G_I (hr.mono (by decide)) rfl m_I k_I b_I .nil pass0 (pa_cons (pv 1) pa_nil))))
        (pss_one (ps_raise rfl (takes_of rfl rfl rfl rfl) (pmk_own0 PySem.F.excBase_ValueError RN.q RN.m RN.k (raises_own RN.ex RN.ty) rfl)))
        pss_nil)
      (pss_cons (ps_if (PW.pt (pw_and (pt_cmpR op_ne (pv 1) pe_int (nomark _)) (pw_and1 (pt_not (PW.pt (pw_and (pt_chain op_le op_le pe_int (pv 1) (pe_glob (v := .int 9973) rfl GP ⟨_, rfl⟩)) (pw_and1 (pt_val (pe_call G_P (hr.mono (by decide)) rfl m_P k_P b_P .nil pass0 (pa_cons (pv 1) pa_nil))))))))))
        (pss_one (ps_raise rfl (takes_of rfl rfl rfl rfl) (pmk_own0 PySem.F.excBase_ValueError RN.q RN.m RN.k (raises_own RN.ex RN.ty) rfl)))
        pss_nil)
      (pss_one (ps_fld (pv 0) (pv 1) rfl)))), ?_⟩
    refine ⟨_, rfl, v, rfl, tv, _, rfl, ?_⟩
    cases ev : isI v with
    | false => exact iteT (kE fun p e => by rw [e] at ev; cases ev)
    | true =>
      obtain ⟨p, rfl⟩ := isI_int ev
      refine iteF ⟨_, rfl, rfl, _, rfl, ?_⟩
      have fin : goodP p = true → _ := fun hg => kQ p rfl hg (upd H x (.ins CF dx (pfl p))) ⟨dx, upd_same⟩ (But.refl x _).upd
      have sets : ∀ {Q' : Hp → Prop}, Q' (upd H x (.ins CF dx (pfl p))) → Q' (upd H x (.ins CF dx (putF "prime" (.int p) []))) := fun h => h
      by_cases p0 : p = 0
      · subst p0
        refine itDn (by simp) ?_
        exact ⟨_, rfl, _, rfl, x, CF, dx, [], rfl, hx, TF.cl, TF.nP, (by show 0 < 1000; decide), fin (by decide)⟩
      · refine itD (by simpa using p0) ?_
        refine ⟨_, rfl, _, _, rfl, rfl, _, rfl, ?_⟩
        by_cases c2 : 2 ≤ p
        · refine itD (by simpa using c2) ⟨_, _, rfl, rfl, _, rfl, ?_⟩
          by_cases c3 : p ≤ 9973
          · refine itD (by simpa using c3) ?_
            refine ⟨_, rfl, p.toNat, (by rw [Int.toNat_of_nonneg (by omega)]; rfl), by omega, _, rfl, ?_⟩
            cases hp : isP p.toNat with
            | true =>
              refine itDn (by decide) ?_
              exact ⟨_, rfl, _, rfl, x, CF, dx, [], rfl, hx, TF.cl, TF.nP, (by show 0 < 1000; decide), fin (by unfold goodP; simp [c2, c3, hp])⟩
            | false =>
              refine itD rfl ?_
              exact kE fun p2 e => by cases e; unfold goodP; simp [p0, hp]
          · exact itDn (by simpa using c3) (kE fun p' e => by cases e; unfold goodP; simp [p0, c3])
        · exact itDn (by simpa using c2) ⟨_, rfl, itDn (by decide) (kE fun p' e => by cases e; unfold goodP; simp [p0, c2])⟩
end
end Sq

namespace Sq
open PySem L2 PyProof.Rows
/-- whether y is a number -/
def NmTy (K : PySem.W.Frag) (C : Addr) (H : Hp) (y : V) (r : Bool) : Prop := ∃ (t : Value) (b : Bool), TyX K H y t ∧ PySem.W.kitOne K t (.ref C) = some b ∧ IsTy K H y ∧ (b || isI y) = r
def spNumI (C CF : Addr) : Sp := fun vs H Q _ => ∃ (x : Addr) (v p : Int), vs = [.ref x, .int v] ∧ FldAt CF H x p ∧ goodP p = true ∧ v.natAbs < 2 ^ 8000 ∧ (p = 0 → ∀ z H', RatAt C H' z v 1 → Same H H' → Q (.ref z) H') ∧ (p ≠ 0 → Q (.int (v % p)) H)
def spOverI (CF CNN : Addr) : Sp := fun vs H Q E => ∃ (x : Addr) (a b p : Int), vs = [.ref x, .int a, .int b] ∧ FldAt CF H x p ∧ goodP p = true ∧ p ≠ 0 ∧ a.natAbs < 2 ^ 8000 ∧ b.natAbs < 2 ^ 8000 ∧ (b % p = 0 → E (.ref CNN) none H) ∧
  (b % p ≠ 0 → ∀ r H', 0 ≤ r → r < p → (∃ k, r * b = a + k * p) → Same H H' → Q (.int r) H')
/-- the number of the field p that t / u is, or none -/
def spNum (K : PySem.W.Frag) (C CF CNN : Addr) : Sp := fun vs H Q E => ∃ (x : Addr) (y : V) (p : Int), vs = [.ref x, y] ∧ FldAt CF H x p ∧ goodP p = true ∧
  ((NmTy K C H y false ∧ E (.ref CNN) none H) ∨ ∃ t u, NumAt C H y t u ∧ 1 ≤ u ∧ t.natAbs < 2 ^ 8000 ∧ u.natAbs < 2 ^ 8000 ∧
    (p = 0 → ∀ z H', RatAt C H' z t u → Same H H' → Q (.ref z) H') ∧
    (p ≠ 0 → u % p = 0 → E (.ref CNN) none H) ∧
    (p ≠ 0 → u % p ≠ 0 → ∀ r H', 0 ≤ r → r < p → (∃ k, r * u = t + k * p) → Same H H' → Q (.int r) H'))
section
variable {P : Program} {w : World} {K : PySem.W.Frag} {mg : Str → Option Value} {base : Heap}
theorem sc_fnum : FnScope ["self", "value"] ["self", "value"] (defScope s_fnum) := ⟨rfl, rfl, rfl, by decide +kernel, rfl, by decide +kernel, by decide +kernel⟩
theorem ok_numI {f C CF CNN fN fA : Addr} {fd fdN fdA : FuncData} (F : Fun K "number" "Field.number" s_fnum f fd) (T : CTx K C) (TF : FTx K CF) (Z : KZx K C) (B : ITx mg) (m_C : mg "Ratio" = some (.ref C)) (RN : RNx K mg "NoNumber" CNN)
    (G_N : FnOk P w K mg base CX0 2 fN fdN ["value"] (spIsNum K C)) (m_N : mg "is_number" = some (.ref fN)) (k_N : PySem.W.keepIn K (.ref fN) = true) (b_N : Binds K fdN ["value"] [])
    (G_A : FnOk P w K mg base CX0 5 fA fdA ["number"] (spAsRatio C)) (m_A : mg "as_ratio" = some (.ref fA)) (k_A : PySem.W.keepIn K (.ref fA) = true) (b_A : Binds K fdA ["number"] []) :
    FnOk P w K mg base (L2.CX P w) 6 f fd ["self", "value"] (spNumI C CF) := by
  refine F.okX sc_fnum (fun vs H Q E h => ?_) (fun cdv A outer s H vs Q E hr h => ?_)
  · obtain ⟨x, v, p, rfl, _⟩ := h
    rfl
  · obtain ⟨x, v, p, rfl, hx, hg, sv, k0, kp⟩ := h
    refine ⟨_, (pss_cons (ps_if (pt_not (pt_val (pe_call G_N (hr.mono (by decide)) rfl m_N k_N b_N .nil pass0 (pa_cons (pv 1) pa_nil))))
        (pss_one (ps_raise rfl (takes_of rfl rfl rfl rfl) (pmk_own0 PySem.F.excBase_ValueError RN.q RN.m RN.k (raises_own RN.ex RN.ty) rfl)))
        pss_nil)
      (pss_cons (ps_if (pt_cmpR op_eq (pe_fld (pv 0) rfl) pe_int (nomark _))
        (pss_one (ps_ret (pe_call G_A (hr.mono (by decide)) rfl m_A k_A b_A .nil pass0 (pa_cons (pv 1) pa_nil))))
        pss_nil)
      (pss_cons (ps_if (pt_val (pe_callB call_isi (by rfl) B.b_isinstance (by decide +kernel) (pa_cons (pv 1) (pa_cons (pe_glob (v := .ref C) rfl m_C rfl) pa_nil))))
        (pss_one ps_never)
        pss_nil)
      (pss_one (ps_ret (pe_op op_mod (pv 1) (pe_fld (pv 0) rfl))))))), ?_⟩
    obtain ⟨dx, hx0⟩ := id hx
    refine ⟨_, rfl, .int v, .type "int", false, rfl, .base (.int _), Z.kint, .int _, _, rfl, iteF ?_⟩
    refine ⟨_, rfl, x, CF, dx, _, _, rfl, hx0, TF.cl, TF.nP, pf_prime _, rfl, _, rfl, ?_⟩
    by_cases p0 : p = 0
    · refine itD (by simpa using p0) ?_
      exact ⟨_, rfl, .int v, v, 1, rfl, .inr ⟨rfl, rfl⟩, sv, fun r H1 hr1 s1 => k0 p0 r H1 hr1 s1⟩
    · refine itDn (by simpa using p0) ?_
      refine ⟨_, rfl, _, _, _, _, false, rfl, .own C, .base (.int _), Z.kint, _, rfl, iteF ?_⟩
      obtain ⟨p2, _, _⟩ := goodP_pos hg p0
      exact ⟨_, rfl, _, rfl, x, CF, dx, _, _, rfl, hx0, TF.cl, TF.nP, pf_prime _, _, _, rfl, rfl, (show 0 < p from by omega), kp p0⟩
theorem sc_fover : FnScope ["self", "one", "other", "top", "bottom"] ["self", "one", "other"] (defScope s_fover) := ⟨rfl, rfl, rfl, by decide +kernel, rfl, by decide +kernel, by decide +kernel⟩
theorem ok_overI {f C CF CNN fnum finv : Addr} {fd fdnum fdinv : FuncData} (F : Fun K "over" "Field.over" s_fover f fd) (TF : FTx K CF) (RN : RNx K mg "NoNumber" CNN)
    (Me_num : Meth K CF "number" fnum) (G_num : FnOk P w K mg base (L2.CX P w) 6 fnum fdnum ["self", "value"] (spNumI C CF)) (b_num : Binds K fdnum ["self", "value"] [])
    (G_inv : FnOk P w K mg base CX0 1 finv fdinv ["number", "prime"] spInv) (m_inv : mg "_inverse" = some (.ref finv)) (k_inv : PySem.W.keepIn K (.ref finv) = true) (b_inv : Binds K fdinv ["number", "prime"] []) :
    FnOk P w K mg base (L2.CX P w) 7 f fd ["self", "one", "other"] (spOverI CF CNN) := by
  refine F.okX sc_fover (fun vs H Q E h => ?_) (fun cdv A outer s H vs Q E hr h => ?_)
  · obtain ⟨x, a, b, p, rfl, _⟩ := h
    rfl
  · obtain ⟨x, a, b, p, rfl, hx, hg, p0, sa, sb, kE, k⟩ := h
    refine ⟨_, (pss_cons (ps_set (i := 3) sc_fover.nd rfl (Or.inl rfl) (pe_meth (E := E) (pv 0) TF.cl Me_num G_num (hr.mono (by decide)) b_num .nil (passes_call (takes_of rfl rfl rfl rfl) fun _ _ _ _ h => h) (pa_cons (pv 1) pa_nil)))
      (pss_cons (ps_set (i := 4) sc_fover.nd rfl (Or.inl rfl) (pe_meth (E := E) (pv 0) TF.cl Me_num G_num (hr.mono (by decide)) b_num .nil (passes_call (takes_of rfl rfl rfl rfl) fun _ _ _ _ h => h) (pa_cons (pv 2) pa_nil)))
      (pss_cons (ps_if (pt_cmpR op_eq (pv 4) pe_int (nomark _))
        (pss_one (ps_raise rfl (takes_of rfl rfl rfl rfl) (pmk_own0 PySem.F.excBase_ValueError RN.q RN.m RN.k (raises_own RN.ex RN.ty) rfl)))
        pss_nil)
      (pss_cons (ps_if (pt_cmpR op_eq (pe_fld (pv 0) rfl) pe_int (nomark _))
        (pss_one ps_never)
        pss_nil)
      (pss_one (ps_ret (pe_op op_mod (pe_op op_mul (pv 3) (pe_call G_inv (hr.mono (by decide)) rfl m_inv k_inv b_inv .nil pass0 (pa_cons (pv 4) (pa_cons (pe_fld (pv 0) rfl) pa_nil)))) (pe_fld (pv 0) rfl)))))))), ?_⟩
    obtain ⟨dx, hx0⟩ := id hx
    obtain ⟨p2, p3, hp⟩ := goodP_pos hg p0
    have a0 := Int.emod_nonneg a p0
    have a1 := Int.emod_lt_of_pos a (show 0 < p from by omega)
    have b0 := Int.emod_nonneg b p0
    have b1 := Int.emod_lt_of_pos b (show 0 < p from by omega)
    refine ⟨_, rfl, x, dx, _, rfl, hx0, pf_no _ (by decide +kernel), _, rfl, x, a, p, rfl, hx, hg, sa, fun e => absurd e p0, fun _ => ?_⟩
    refine ⟨_, rfl, x, dx, _, rfl, hx0, pf_no _ (by decide +kernel), _, rfl, x, b, p, rfl, hx, hg, sb, fun e => absurd e p0, fun _ => ?_⟩
    refine ⟨_, rfl, rfl, _, rfl, ?_⟩
    by_cases z : b % p = 0
    · refine itD (by simpa using z) ?_
      exact kE z
    · refine itDn (by simpa using z) ?_
      refine ⟨_, rfl, x, CF, dx, _, _, rfl, hx0, TF.cl, TF.nP, pf_prime _, rfl, _, rfl, itDn (by simpa using p0) ?_⟩
      refine ⟨_, rfl, _, rfl, _, rfl, x, CF, dx, _, _, rfl, hx0, TF.cl, TF.nP, pf_prime _, b % p, p, rfl, by omega, b1, by omega, gcd_prime p2 p3 hp (by omega) b1, fun r r0 r1 ⟨q, hq⟩ H1 s1 => ?_⟩
      refine ⟨_, _, rfl, rfl, .inl ⟨by omega, by omega⟩, _, rfl, x, CF, dx, _, _, rfl, s1 _ _ hx0, TF.cl, TF.nP, pf_prime _, _, _, rfl, rfl, (show 0 < p from by omega), ?_⟩
      refine k z _ H1 (Int.emod_nonneg _ p0) (Int.emod_lt_of_pos _ (by omega)) ?_ s1
      have da := Int.emod_def a p
      have db := Int.emod_def b p
      have dm := Int.emod_def (a % p * r) p
      generalize a % p * r / p = e1 at *
      generalize a / p = e2 at *
      generalize b / p = e3 at *
      generalize a % p = a' at *
      generalize b % p = b' at *
      refine ⟨a' * q + a' * r * e3 - e1 * b - e2, ?_⟩
      rw [dm]
      grind
end
end Sq

namespace Sq
open PySem L2 PyProof.Rows
theorem tyX_same {K : PySem.W.Frag} {H H' : Hp} {x : V} {t : Value} (s : Same H H') (ty : TyX K H x t) : TyX K H' x t := by
  cases ty with
  | base b =>
    refine .base ?_
    cases b with
    | non => exact .non
    | bl => exact .bl _
    | int => exact .int _
    | str => exact .str _
    | flt => exact .flt _
    | lst e => exact .lst (s _ _ e)
    | frz e => exact .frz (s _ _ e)
    | tup e => exact .tup (s _ _ e)
    | dK e => exact .dK (s _ _ e)
    | dT e => exact .dT (s _ _ e)
    | ins e c1 c2 c3 c4 c5 => exact .ins (s _ _ e) c1 c2 c3 c4 c5
  | byt => exact .byt _
  | set e => exact .set (s _ _ e)
  | kList e c => exact .kList e c
  | kTuple e c => exact .kTuple e c
  | kDict e c => exact .kDict e c
  | fTuple e => exact .fTuple (s _ _ e)
  | fDict e => exact .fDict (s _ _ e)
theorem NmTy.same {K : PySem.W.Frag} {C : Addr} {H H' : Hp} {y : V} {r : Bool} (s : Same H H') (h : NmTy K C H y r) : NmTy K C H' y r := by
  obtain ⟨t, b, ty, kb, it, e⟩ := h
  exact ⟨t, b, tyX_same s ty, kb, it.same s, e⟩
def spOver (K : PySem.W.Frag) (C CF CNN : Addr) : Sp := fun vs H Q E => ∃ (x : Addr) (y1 y2 : V) (p : Int), vs = [.ref x, y1, y2] ∧ FldAt CF H x p ∧ goodP p = true ∧
  ((NmTy K C H y1 false ∧ E (.ref CNN) none H) ∨ ∃ t u, NumAt C H y1 t u ∧ 1 ≤ u ∧ Fit t ∧ Fit u ∧
    (p ≠ 0 → u % p = 0 → E (.ref CNN) none H) ∧
    (¬ (p ≠ 0 ∧ u % p = 0) → (NmTy K C H y2 false ∧ ∀ H1, Same H H1 → E (.ref CNN) none H1) ∨ ∃ t' u', NumAt C H y2 t' u' ∧ 1 ≤ u' ∧ Int.gcd t' u' = 1 ∧ Fit t' ∧ Fit u' ∧
      (p = 0 → (t' = 0 → ∀ H1, Same H H1 → E (.ref CNN) none H1) ∧ (t' ≠ 0 → ∀ z T U H', Low (t * u') (u * t') T U → RatAt C H' z T U → Same H H' → Q (.ref z) H')) ∧
      (p ≠ 0 → u' % p = 0 → ∀ H1, Same H H1 → E (.ref CNN) none H1) ∧
      (p ≠ 0 → u' % p ≠ 0 → t' % p = 0 → ∀ H1, Same H H1 → E (.ref CNN) none H1) ∧
      (p ≠ 0 → u' % p ≠ 0 → t' % p ≠ 0 → ∀ r H', 0 ≤ r → r < p → (∃ k, r * (u * t') = t * u' + k * p) → Same H H' → Q (.int r) H')))
theorem zero_mod {p r u t k : Int} (h2 : 2 ≤ p) (hp : p ≤ 9973) (hi : isP p.toNat = true) (hu : u % p ≠ 0) (r0 : 0 ≤ r) (r1 : r < p) (e : r * u = t + k * p) : r = 0 ↔ t % p = 0 := by
  constructor
  · intro z
    rw [z, Int.zero_mul] at e
    have : t = -k * p := by
      rw [Int.neg_mul]
      omega
    rw [this]
    exact Int.mul_emod_left ..
  · intro z
    by_cases c : r = 0
    · exact c
    · exfalso
      have g := gcd_prime h2 hp hi (show 1 ≤ r from by omega) r1
      have d : p ∣ r * u := by
        rw [e]
        exact Int.dvd_add (Int.dvd_of_emod_eq_zero z) (Int.dvd_mul_left ..)
      have dn : p.natAbs ∣ r.natAbs * u.natAbs := by
        rw [← Int.natAbs_mul]
        exact Int.natAbs_dvd_natAbs.mpr d
      have du : p.natAbs ∣ u.natAbs := Nat.Coprime.dvd_of_dvd_mul_left (show Nat.Coprime p.natAbs r.natAbs from g) dn
      exact hu (Int.emod_eq_zero_of_dvd (Int.natAbs_dvd_natAbs.mp du))
section
variable {P : Program} {w : World} {K : PySem.W.Frag} {mg : Str → Option Value} {base : Heap}
theorem ok_num {f C CF CNN fN fA fover : Addr} {fd fdN fdA fdover : FuncData} (F : Fun K "number" "Field.number" s_fnum f fd) (T : CTx K C) (TF : FTx K CF) (Y : ITy K C) (Z : KZx K C) (B : ITx mg) (m_C : mg "Ratio" = some (.ref C)) (RN : RNx K mg "NoNumber" CNN)
    (G_N : FnOk P w K mg base CX0 2 fN fdN ["value"] (spIsNum K C)) (m_N : mg "is_number" = some (.ref fN)) (k_N : PySem.W.keepIn K (.ref fN) = true) (b_N : Binds K fdN ["value"] [])
    (G_A : FnOk P w K mg base CX0 5 fA fdA ["number"] (spAsRatio C)) (m_A : mg "as_ratio" = some (.ref fA)) (k_A : PySem.W.keepIn K (.ref fA) = true) (b_A : Binds K fdA ["number"] [])
    (Me_over : Meth K CF "over" fover) (G_over : FnOk P w K mg base (L2.CX P w) 7 fover fdover ["self", "one", "other"] (spOverI CF CNN)) (b_over : Binds K fdover ["self", "one", "other"] []) :
    FnOk P w K mg base (L2.CX P w) 8 f fd ["self", "value"] (spNum K C CF CNN) := by
  refine F.okX sc_fnum (fun vs H Q E h => ?_) (fun cdv A outer s H vs Q E hr h => ?_)
  · obtain ⟨x, v, p, rfl, _⟩ := h
    rfl
  · obtain ⟨x, y, p, rfl, hx, hg, h⟩ := h
    refine ⟨_, (pss_cons (ps_if (pt_not (pt_val (pe_call G_N (hr.mono (by decide)) rfl m_N k_N b_N .nil pass0 (pa_cons (pv 1) pa_nil))))
        (pss_one (ps_raise rfl (takes_of rfl rfl rfl rfl) (pmk_own0 PySem.F.excBase_ValueError RN.q RN.m RN.k (raises_own RN.ex RN.ty) rfl)))
        pss_nil)
      (pss_cons (ps_if (pt_cmpR op_eq (pe_fld (pv 0) rfl) pe_int (nomark _))
        (pss_one (ps_ret (pe_call G_A (hr.mono (by decide)) rfl m_A k_A b_A .nil pass0 (pa_cons (pv 1) pa_nil))))
        pss_nil)
      (pss_cons (ps_if (pt_val (pe_callB call_isi (by rfl) B.b_isinstance (by decide +kernel) (pa_cons (pv 1) (pa_cons (pe_glob (v := .ref C) rfl m_C rfl) pa_nil))))
        (pss_one (ps_ret (pe_meth (E := E) (pv 0) TF.cl Me_over G_over (hr.mono (by decide)) b_over .nil (passes_call (takes_of rfl rfl rfl rfl) fun _ _ _ _ h => h) (pa_cons (pe_fld (pv 1) rfl) (pa_cons (pe_fld (pv 1) rfl) pa_nil)))))
        pss_nil)
      (pss_one (ps_ret (pe_op op_mod (pv 1) (pe_fld (pv 0) rfl))))))), ?_⟩
    obtain ⟨dx, hx0⟩ := id hx
    rcases h with ⟨⟨t, b, ty, kb, it, e⟩, kE⟩ | ⟨t, u, hy, pu, st, su, k0, kE, kp⟩
    · refine ⟨_, rfl, y, t, b, rfl, ty, kb, it, _, rfl, ?_⟩
      rw [e]
      exact iteT kE
    · obtain ⟨q, b, hq, kb, hi, hbi⟩ := num_is T Y Z hy
      refine ⟨_, rfl, y, q, b, rfl, hq, kb, hi, _, rfl, ?_⟩
      rw [hbi]
      refine iteF ?_
      refine ⟨_, rfl, x, CF, dx, _, _, rfl, hx0, TF.cl, TF.nP, pf_prime _, rfl, _, rfl, ?_⟩
      by_cases p0 : p = 0
      · refine itD (by simpa using p0) ?_
        exact ⟨_, rfl, y, t, u, rfl, hy, st, fun r H1 hr1 s1 => k0 p0 r H1 hr1 s1⟩
      · refine itDn (by simpa using p0) ?_
        rcases hy with ⟨r, rfl, hr1⟩ | ⟨rfl, rfl⟩
        · refine ⟨_, rfl, _, _, _, _, true, rfl, .own C, hr1.ty T Y, kit_self, _, rfl, iteT ?_⟩
          obtain ⟨dr, hr0⟩ := id hr1
          exact ⟨_, rfl, x, dx, _, rfl, hx0, pf_no _ (by decide +kernel), _, rfl, r, C, dr, _, _, rfl, hr0, T.cl, T.nT, rf_top _ _, _, rfl, r, C, dr, _, _, rfl, hr0, T.cl, T.nB, rf_bottom _ _, x, t, u, p, rfl, hx, hg, p0, st, su, kE p0, kp p0⟩
        · refine ⟨_, rfl, _, _, _, _, false, rfl, .own C, .base (.int _), Z.kint, _, rfl, iteF ?_⟩
          obtain ⟨p2, _, _⟩ := goodP_pos hg p0
          refine ⟨_, rfl, _, rfl, x, CF, dx, _, _, rfl, hx0, TF.cl, TF.nP, pf_prime _, _, _, rfl, rfl, (show 0 < p from by omega), ?_⟩
          refine kp p0 ?_ _ H (Int.emod_nonneg _ p0) (Int.emod_lt_of_pos _ (by omega)) ?_ (Same.refl H)
          · rw [Int.emod_eq_of_lt (by decide) (by omega)]
            decide
          · have dm := Int.emod_def t p
            refine ⟨-(t / p), ?_⟩
            rw [dm]
            generalize t / p = e1
            grind
theorem ok_fover {f C CF CN CNN fnum finv frover feq : Addr} {fd fdnum fdinv fdrover fdeq : FuncData} (F : Fun K "over" "Field.over" s_fover f fd) (T : CTx K C) (TF : FTx K CF) (Y : ITy K C) (RN : RNx K mg "NoNumber" CNN)
    (Me_num : Meth K CF "number" fnum) (G_num : FnOk P w K mg base (L2.CX P w) 8 fnum fdnum ["self", "value"] (spNum K C CF CNN)) (b_num : Binds K fdnum ["self", "value"] [])
    (G_inv : FnOk P w K mg base CX0 1 finv fdinv ["number", "prime"] spInv) (m_inv : mg "_inverse" = some (.ref finv)) (k_inv : PySem.W.keepIn K (.ref finv) = true) (b_inv : Binds K fdinv ["number", "prime"] [])
    (Me_rover : Meth K C "over" frover) (G_rover : FnOk P w K mg base (L2.CX P w) 6 frover fdrover ["self", "other"] (spR_over C CN)) (b_rover : Binds K fdrover ["self", "other"] [])
    (O_eq : OwnOp K C feq "__eq__") (nf1 : PySem.W.notFirst K C (.type "int") = true) (G_eq : FnOk P w K mg base CX0 2 feq fdeq ["self", "other"] (spR_eq K C)) (b_eq : Binds K fdeq ["self", "other"] []) :
    FnOk P w K mg base (L2.CX P w) 9 f fd ["self", "one", "other"] (spOver K C CF CNN) := by
  refine F.okX sc_fover (fun vs H Q E h => ?_) (fun cdv A outer s H vs Q E hr h => ?_)
  · obtain ⟨x, a, b, p, rfl, _⟩ := h
    rfl
  · obtain ⟨x, y1, y2, p, rfl, hx, hg, h⟩ := h
    refine ⟨_, (pss_cons (ps_set (i := 3) sc_fover.nd rfl (Or.inl rfl) (pe_meth (E := E) (pv 0) TF.cl Me_num G_num (hr.mono (by decide)) b_num .nil (passes_call (takes_of rfl rfl rfl rfl) fun _ _ _ _ h => h) (pa_cons (pv 1) pa_nil)))
      (pss_cons (ps_set (i := 4) sc_fover.nd rfl (Or.inl rfl) (pe_meth (E := E) (pv 0) TF.cl Me_num G_num (hr.mono (by decide)) b_num .nil (passes_call (takes_of rfl rfl rfl rfl) fun _ _ _ _ h => h) (pa_cons (pv 2) pa_nil)))
      (pss_cons (ps_if (pt_cmpR (op_or op_eq (op_ownEq O_eq G_eq (hr.mono (by decide)) b_eq pass0)) (pv 4) pe_int (nomark _))
        (pss_one (ps_raise rfl (takes_of rfl rfl rfl rfl) (pmk_own0 PySem.F.excBase_ValueError RN.q RN.m RN.k (raises_own RN.ex RN.ty) rfl)))
        pss_nil)
      (pss_cons (ps_if (pt_cmpR op_eq (pe_fld (pv 0) rfl) pe_int (nomark _))
        (pss_one (ps_ret (pe_meth (E := fun _ _ _ => False) (pv 3) T.cl Me_rover G_rover (hr.mono (by decide)) b_rover .nil passL (pa_cons (pv 4) pa_nil))))
        pss_nil)
      (pss_one (ps_ret (pe_op op_mod (pe_op op_mul (pv 3) (pe_call G_inv (hr.mono (by decide)) rfl m_inv k_inv b_inv .nil pass0 (pa_cons (pv 4) (pa_cons (pe_fld (pv 0) rfl) pa_nil)))) (pe_fld (pv 0) rfl)))))))), ?_⟩
    obtain ⟨dx, hx0⟩ := id hx
    have up8 : ∀ {z : Int}, Fit z → z.natAbs < 2 ^ 8000 := fun h => fit_up h
    refine ⟨_, rfl, x, dx, _, rfl, hx0, pf_no _ (by decide +kernel), _, rfl, x, y1, p, rfl, hx, hg, ?_⟩
    rcases h with ⟨b1, kE⟩ | ⟨t, u, hy, pu, st, su, kE, k⟩
    · exact .inl ⟨b1, kE⟩
    · refine .inr ⟨t, u, hy, pu, up8 st, up8 su, fun p0 z H1 hz s1 => ?_, kE, fun p0 up r1 H1 r10 r11 ⟨k1, hk1⟩ s1 => ?_⟩
      · subst p0
        obtain ⟨dz, hz0⟩ := id hz
        refine ⟨_, rfl, x, dx, _, rfl, s1 _ _ hx0, pf_no _ (by decide +kernel), _, rfl, x, y2, 0, rfl, hx.same s1, hg, ?_⟩
        rcases k (fun h => h.1 rfl) with ⟨b2, k2⟩ | ⟨t', u', hy2, pu2, cop, st2, su2, kz, _, _, _⟩
        · exact .inl ⟨b2.same s1, k2 H1 s1⟩
        · refine .inr ⟨t', u', hy2.same s1, pu2, up8 st2, up8 su2, fun _ z2 H2 hz2 s2 => ?_, fun h => absurd rfl h, fun h => absurd rfl h⟩
          obtain ⟨dz2, hz20⟩ := id hz2
          refine ⟨_, rfl, .inr ⟨z2, dz2, _, _, rfl, hz20, .base (.int _), nf1, z2, .int 0, t', u', rfl, hz2, .inr (.inl ⟨0, rfl, _, rfl, ?_⟩)⟩⟩
          by_cases c : t' = 0
          · have u1 : u' = 1 := by
              rw [c] at cop
              simp at cop
              omega
            refine itD (by simp [c, u1]) ?_
            exact (kz rfl).1 c H2 (s1.trans s2)
          · refine itDn (by simp [c]) ?_
            refine ⟨_, rfl, x, CF, dx, _, _, rfl, s2 _ _ (s1 _ _ hx0), TF.cl, TF.nP, pf_prime _, rfl, _, rfl, itD (by simp) ?_⟩
            refine ⟨_, rfl, z, dz, _, rfl, s2 _ _ hz0, rf_no _ _ (by decide +kernel) (by decide +kernel), _, rfl, z, .ref z2, t, u, t', u', rfl, hz.same s2, .inl ⟨z2, rfl, hz2⟩, pu, pu2, st, su, st2, su2, fun h => absurd h c, fun _ z3 T3 U3 H3 L R s3 => ?_⟩
            exact (kz rfl).2 c z3 T3 U3 H3 L R ((s1.trans s2).trans s3)
      · obtain ⟨p2, p3, hp⟩ := goodP_pos hg p0
        refine ⟨_, rfl, x, dx, _, rfl, s1 _ _ hx0, pf_no _ (by decide +kernel), _, rfl, x, y2, p, rfl, hx.same s1, hg, ?_⟩
        rcases k (fun h => up h.2) with ⟨b2, k2⟩ | ⟨t', u', hy2, pu2, cop, st2, su2, _, k3, k4, k5⟩
        · exact .inl ⟨b2.same s1, k2 H1 s1⟩
        · refine .inr ⟨t', u', hy2.same s1, pu2, up8 st2, up8 su2, fun h => absurd h p0, fun _ h => k3 p0 h H1 s1, fun _ up2 r2 H2 r20 r21 ⟨k2, hk2⟩ s2 => ?_⟩
          have zm := zero_mod p2 p3 hp up2 r20 r21 hk2
          refine ⟨_, rfl, .inl ⟨rfl, _, rfl, ?_⟩⟩
          by_cases c : r2 = 0
          · refine itD (by simpa using c) ?_
            exact k4 p0 up2 (zm.mp c) H2 (s1.trans s2)
          · refine itDn (by simpa using c) ?_
            refine ⟨_, rfl, x, CF, dx, _, _, rfl, s2 _ _ (s1 _ _ hx0), TF.cl, TF.nP, pf_prime _, rfl, _, rfl, itDn (by simpa using p0) ?_⟩
            refine ⟨_, rfl, _, rfl, _, rfl, x, CF, dx, _, _, rfl, s2 _ _ (s1 _ _ hx0), TF.cl, TF.nP, pf_prime _, r2, p, rfl, by omega, r21, by omega, gcd_prime p2 p3 hp (by omega) r21, fun r r0 rl ⟨q, hq⟩ H3 s3 => ?_⟩
            refine ⟨_, _, rfl, rfl, .inl ⟨by omega, by omega⟩, _, rfl, x, CF, dx, _, _, rfl, s3 _ _ (s2 _ _ (s1 _ _ hx0)), TF.cl, TF.nP, pf_prime _, _, _, rfl, rfl, (show 0 < p from by omega), ?_⟩
            refine k5 p0 up2 (fun h => c (zm.mpr h)) _ H3 (Int.emod_nonneg _ p0) (Int.emod_lt_of_pos _ (by omega)) ?_ ((s1.trans s2).trans s3)
            have dm := Int.emod_def (r1 * r) p
            generalize r1 * r / p = e1 at *
            refine ⟨r1 * u * q * u' - e1 * u * t' - r1 * r * u * k2 + k1 * u', ?_⟩
            rw [dm]
            grind
end
end Sq

namespace Sq
open PySem L2 PyProof.Rows
abbrev s_lip : Stmt := top 55
abbrev s_lpr : Stmt := top 56
def spLip : Sp := fun vs H Q _ => ∃ n : Nat, vs = [.int (n : Int)] ∧ 2 ≤ n ∧ n < 9974 ∧ Q (.bl (isP n)) H
def spLpr : Sp := fun vs H Q _ => ∃ p, vs = [.ref p] ∧ StAt H p ∧ ∀ m H', goodP m = true → StAt H' p → But p H H' → Q (.int m) H'
theorem StAt.same {H H' : Hp} {p : Addr} (S : StAt H p) (s : Same H H') : StAt H' p := by
  obtain ⟨a, ns, i, l, m, c, h1, h2, r⟩ := S
  exact ⟨a, ns, i, l, m, c, s _ _ h1, s _ _ h2, r⟩
theorem StAt.ne {H : Hp} {p q : Addr} (S : StAt H p) (hq : H q = none) : q ≠ p := by
  obtain ⟨a, ns, i, l, m, c, h1, _⟩ := S
  exact (ne_of_none h1 hq).symm
theorem good_int {n : Nat} (h2 : 2 ≤ n) (hn : n < 9974) (h : isP n = true) : goodP (n : Int) = true := by
  unfold goodP
  have : ((n : Int)).toNat = n := Int.toNat_natCast n
  rw [this, h]
  simp
  omega
theorem small_prime {v : Int} (h0 : 0 ≤ v) (h6 : v < 6) : ∃ m, atI [V.int 2, V.int 3, V.int 5, V.int 7, V.int 11, V.int 13] v = some (.int m) ∧ goodP m = true := by
  have c : v = 0 ∨ v = 1 ∨ v = 2 ∨ v = 3 ∨ v = 4 ∨ v = 5 := by omega
  rcases c with rfl | rfl | rfl | rfl | rfl | rfl <;> exact ⟨_, rfl, by decide +kernel⟩
section
variable {P : Program} {w : World} {K : PySem.W.Frag} {mg : Str → Option Value} {base : Heap}
theorem sc_lip : FnScope ["_law_value_here", "_law_divisor"] ["_law_value_here"] (defScope s_lip) := ⟨rfl, rfl, rfl, by decide +kernel, rfl, by decide +kernel, by decide +kernel⟩
theorem ok_lip {f : Addr} {fd : FuncData} (F : Fun K "_law_is_prime" "_law_is_prime" s_lip f fd) (T : DTx mg) : FnOk P w K mg base CX0 1 f fd ["_law_value_here"] spLip := by
  refine F.ok sc_lip (fun vs H Q E h => ?_) (fun cdv A outer s H vs Q E hr h => ?_)
  · obtain ⟨x, rfl, _⟩ := h
    rfl
  · obtain ⟨n, rfl, h2, hn, k⟩ := h
    refine ⟨_, (pss_cons (ps_for PassesOwn.never rfl (pi_range2 (by rfl) T.b_range (pa_cons pe_int (pa_cons pe_int pa_nil))) (pg_name (i := 1) sc_lip.nd rfl (Or.inl rfl)) (pss_one (ps_if (PW.pt (pw_and (pt_cmpR op_le (pe_op op_mul (pv 1) (pv 1)) (pv 0) (nomark _)) (pw_and1 (pt_cmpR op_eq (pe_op op_mod (pe_callTy call_int1 (by rfl) T.b_int (by decide +kernel) (pa_cons (pv 0) pa_nil)) (pv 1)) pe_int (nomark _)))))
        (pss_one (ps_ret pe_bl))
        pss_nil)))
      (pss_one (ps_ret (pe_cmpR op_gt (pv 0) pe_int (nomark _))))), ?_⟩
    refine ⟨_, _, rfl, by omega, ?_⟩
    refine for_range (lo := 2) (n := 98) (fun i σ H' => ∃ z, σ = [some (.int (n : Int)), z] ∧ H' = H ∧ ∀ d, 2 ≤ d → d < 2 + i → d * d ≤ n → n % d ≠ 0) ⟨none, rfl, rfl, fun d h1 h2 => by omega⟩ ?_ ?_
    · rintro i σ H2 hi ⟨z, rfl, rfl, hd⟩
      have em : ((n : Int) % ((2 : Int) + (i : Int))) = ((n % (2 + i) : Nat) : Int) := by
        rw [Int.natCast_emod]
        rfl
      have eq : ((2 : Int) + (i : Int)) * ((2 : Int) + (i : Int)) = (((2 + i) * (2 + i) : Nat) : Int) := by
        push_cast
        rfl
      refine ⟨_, rfl, _, rfl, _, _, rfl, rfl, .inl ⟨by omega, by omega⟩, _, rfl, _, _, rfl, rfl, _, rfl, ?_⟩
      have next : (n % (2 + i) = 0 → ¬ (2 + i) * (2 + i) ≤ n) → ∀ d, 2 ≤ d → d < 2 + (i + 1) → d * d ≤ n → n % d ≠ 0 := fun h d h1 h2 hs => by
        by_cases e : d = 2 + i
        · subst e
          exact fun q => h q hs
        · exact hd d h1 (by omega) hs
      by_cases c : (2 + i) * (2 + i) ≤ n
      · have hle : ((2 : Int) + (i : Int)) * ((2 : Int) + (i : Int)) ≤ (n : Int) := by
          rw [eq]
          exact Int.ofNat_le.mpr c
        refine itD (decide_eq_true hle) ?_
        refine ⟨_, rfl, .inl ⟨_, rfl, _, rfl, _, _, rfl, rfl, by omega, rfl, _, rfl, ?_⟩⟩
        by_cases e0 : n % (2 + i) = 0
        · refine itD (decide_eq_true (by show V.int ((n : Int) % ((2 : Int) + (i : Int))) = V.int 0; rw [em, e0]; rfl)) ?_
          rw [isP_no (by omega) hn c e0] at k
          exact k
        · refine itDn (fun h => e0 (by have q : ((n : Int) % ((2 : Int) + (i : Int))) = 0 := V.int.inj (of_decide_eq_true h); rw [em] at q; omega)) ?_
          exact ⟨_, rfl, rfl, next fun q => absurd q e0⟩
      · have hle : ¬ ((2 : Int) + (i : Int)) * ((2 : Int) + (i : Int)) ≤ (n : Int) := by
          rw [eq]
          exact fun h => c (Int.ofNat_le.mp h)
        refine itDn (fun h => hle (of_decide_eq_true h)) ?_
        exact ⟨_, rfl, rfl, next fun _ => c⟩
    · rintro σ H2 ⟨z, rfl, rfl, hd⟩
      have e : isP n = true := isP_yes fun d h1 hs => hd d h1 (by have := sq_lt hn hs; omega) hs
      rw [e] at k
      refine ⟨_, rfl, _, _, rfl, rfl, ?_⟩
      show Q (.bl (decide ((1 : Int) < (n : Int)))) H2
      rw [decide_eq_true (by omega)]
      exact k
theorem sc_lpr : FnScope ["_law_state_here", "_law_kind", "_law_value_here", "_law_step"] ["_law_state_here"] (defScope s_lpr) := ⟨rfl, rfl, rfl, by decide +kernel, rfl, by decide +kernel, by decide +kernel⟩
theorem ok_lpr {f fdraw flip : Addr} {fd fddraw fdlip : FuncData} (F : Fun K "_law_prime" "_law_prime" s_lpr f fd) (T : DTx mg) (G_draw : FnOk P w K mg base CX0 1 fdraw fddraw ["_law_state_here", "_law_many"] spDraw) (m_draw : mg "_law_draw" = some (.ref fdraw)) (k_draw : PySem.W.keepIn K (.ref fdraw) = true) (b_draw : Binds K fddraw ["_law_state_here", "_law_many"] []) (G_lip : FnOk P w K mg base CX0 1 flip fdlip ["_law_value_here"] spLip) (m_lip : mg "_law_is_prime" = some (.ref flip)) (k_lip : PySem.W.keepIn K (.ref flip) = true) (b_lip : Binds K fdlip ["_law_value_here"] []) : FnOk P w K mg base CX0 2 f fd ["_law_state_here"] spLpr := by
  refine F.ok sc_lpr (fun vs H Q E h => ?_) (fun cdv A outer s H vs Q E hr h => ?_)
  · obtain ⟨x, rfl, _⟩ := h
    rfl
  · obtain ⟨p, rfl, S0, k⟩ := h
    refine ⟨_, (pss_cons (ps_set (i := 1) sc_lpr.nd rfl (Or.inl rfl) (pe_call G_draw (hr.mono (by decide)) rfl m_draw k_draw b_draw .nil pass0 (pa_cons (pv 0) (pa_cons pe_int pa_nil))))
      (pss_cons (ps_if (pt_cmpR op_lt (pv 1) pe_int (nomark _))
        (pss_one (ps_ret pe_int))
        pss_nil)
      (pss_cons (ps_if (pt_cmpR op_lt (pv 1) pe_int (nomark _))
        (pss_one (ps_ret (pe_ix ix_list (pe_lst (pa_cons pe_int (pa_cons pe_int (pa_cons pe_int (pa_cons pe_int (pa_cons pe_int (pa_cons pe_int pa_nil))))))) (pe_call G_draw (hr.mono (by decide)) rfl m_draw k_draw b_draw .nil pass0 (pa_cons (pv 0) (pa_cons pe_int pa_nil))) (fun _ _ => rfl))))
        pss_nil)
      (pss_cons (ps_set (i := 2) sc_lpr.nd rfl (Or.inl rfl) (pe_op op_add pe_int (pe_call G_draw (hr.mono (by decide)) rfl m_draw k_draw b_draw .nil pass0 (pa_cons (pv 0) (pa_cons pe_int pa_nil)))))
      (pss_cons (ps_for PassesOwn.never rfl (pi_range1 (by rfl) T.b_range (pa_cons pe_int pa_nil)) (pg_name (i := 3) sc_lpr.nd rfl (Or.inl rfl)) (pss_cons (ps_if (pt_val (pe_call G_lip (hr.mono (by decide)) rfl m_lip k_lip b_lip .nil pass0 (pa_cons (pv 2) pa_nil)))
        (pss_one (ps_ret (pv 2)))
        pss_nil)
      (pss_one (ps_set (i := 2) sc_lpr.nd rfl (Or.inl rfl) (pe_op op_sub (pv 2) pe_int)))))
      (pss_one (ps_ret pe_int))))))), ?_⟩
    refine ⟨_, rfl, p, 6, rfl, by decide, by decide, S0, fun kd H1 k0 k6 S1 B1 => ?_⟩
    refine ⟨_, rfl, _, _, rfl, rfl, _, rfl, ite2 (fun c => ?_) (fun c => ?_)⟩
    · exact k 0 H1 (by decide) S1 B1
    · refine ⟨_, rfl, _, _, rfl, rfl, _, rfl, ite2 (fun c => ?_) (fun c => ?_)⟩
      · refine ⟨(by show 6 ≤ sizeLine; decide), fun q hq => ⟨_, rfl, p, 6, rfl, by decide, by decide, S1.same (same_new (Same.refl _) hq), fun v H2 v0 v6 S2 B2 => ?_⟩⟩
        obtain ⟨m, hm, gm⟩ := small_prime v0 v6
        exact ⟨q, _, _, _, rfl, rfl, SqL.of (B2 q _ upd_same (S1.ne hq)), hm, k m H2 gm S2 ((B1.new hq).trans B2)⟩
      · refine ⟨_, rfl, p, 9972, rfl, by decide, by decide, S1, fun v H2 v0 v1 S2 B2 => ⟨_, _, rfl, rfl, ?_⟩⟩
        refine ⟨40, rfl, by decide, by decide, ?_⟩
        refine for_range (lo := 0) (n := 40) (fun i σ H' => ∃ (z : Option V) (n : Nat), σ = [some (.ref p), some (.int kd), some (.int (n : Int)), z] ∧ 2 ≤ n ∧ n < 9974 ∧ H' = H2) ⟨none, (2 + v).toNat, by rw [Int.toNat_of_nonneg (by omega)]; rfl, by omega, by omega, rfl⟩ ?_ ?_
        · rintro i σ H3 hi ⟨z, n, rfl, n2, n9, rfl⟩
          refine ⟨_, rfl, n, rfl, n2, n9, _, rfl, ?_⟩
          cases hp : isP n with
          | true => exact iteT ⟨_, rfl, k n _ (good_int n2 n9 hp) S2 (B1.trans B2)⟩
          | false =>
            refine iteF ⟨_, rfl, _, _, rfl, rfl, ⟨some (.int (0 + (i : Int))), n - 1, ?_, ?_, by omega, rfl⟩⟩
            · have e : ((n - 1 : Nat) : Int) = (n : Int) - 1 := by omega
              rw [e]
              rfl
            · by_cases e : n = 2
              · subst e
                exact absurd hp (by decide +kernel)
              · omega
        · rintro σ H3 ⟨z, n, rfl, n2, n9, rfl⟩
          exact k 2 _ (by decide +kernel) S2 (B1.trans B2)
end
end Sq

namespace Sq
open PySem L2 PyProof.Rows Builtin
section
variable {X : Cx} {CX : CXT} {k : Nat} {f C : Addr} {fd : FuncData} {ps : List Str} {sp : Sp} {E : XK}
/-- a def run one C level deeper -/
theorem run_in1 {pins : List (Addr × Obj)} {σ : L2.St} {H : Hp} {s : Shared} {us : List Value} {vs : List V} {Q : VK} (G : FnOk X.prog X.w X.K X.mg X.base CX k f fd ps sp) (hr : Room (k + 1) X.A) (hb : Binds X.K fd ps []) (hx : Passes CX X E)
    (I : Inv X pins σ H s) (r : Vals vs us) (h : sp vs H Q E) : wpAny (model X.prog X.w) X.A.in1 (call (.ref f) us) (EP X pins σ Q) X.xe s := by
  have e0 : Env0 X.prog X.w X.K X.mg X.base X.A.in1 X.stack s H := by
    have e := I.env0
    exact ⟨e.frames, e.mod, e.bs, e.bsz, e.funs, e.frf, e.hok, e.bare⟩
  have hl := G.len _ _ _ _ h
  have bd := hb s us I.kIn (by rw [List.append_nil, ← r.length]; exact hl)
  rw [List.append_nil] at bd
  refine wpAny_call (codeAny_mono (G.run X.A.in1 X.stack s H ⟨us, []⟩ us vs Q E hr.in1 e0 bd r h) fun q s' hq => ?_)
  cases q with
  | error e => exact hx pins σ H s e s' I hq
  | ok fl =>
    cases fl with
    | ret w =>
      obtain ⟨z, H', I', rz, ez⟩ := I.after hq
      exact ⟨z, H', I', rz, ez⟩
    | next => exact False.elim hq
    | brk => exact False.elim hq
    | cont => exact False.elim hq
/-- a != b, a's class has its own == and object's != -/
def rOwnNe (K : PySem.W.Frag) (C : Addr) (sp : Sp) (E : XK) : R2 := fun x y H Q => ∃ a dx fs t, x = .ref a ∧ H a = some (.ins C dx fs) ∧ TyX K H y t ∧ PySem.W.notFirst K C t = true ∧ sp [x, y] H (fun v H' => ∃ b, v = .bl b ∧ Q (.bl (!b)) H') E
theorem op_ownNe (O : NeOp X.K C f) (G : FnOk X.prog X.w X.K X.mg X.base CX k f fd ps sp) (hr : Room (k + 1) X.A) (hb : Binds X.K fd ps []) (hx : Passes CX X E) : OpR X (compareOp .NotEq) (rOwnNe X.K C sp E) := by
  rintro pins s σ H x y v u Q I rx ry ⟨a, dx, fs, t, rfl, ha, hty, hn, hsp⟩
  cases rx
  obtain ⟨od, J⟩ := inst_at I ha
  obtain ⟨m, hF⟩ := I.fr
  obtain ⟨Pt, KX, hp, _⟩ := kit_of I ry hty
  have Y := I.kIn
  have tb := KX.ty (model X.prog X.w) _ Y hp
  have sub : PySem.W.Looks (model X.prog X.w) s.heap (isInstance (.ref a) (.type "object")) true := J.type.andThen (PySem.W.looks_mroIn Y O.ob)
  have hcall := run_in1 (us := [.ref a, u]) (vs := [.ref a, y]) G hr hb hx I (.cons rfl (.cons ry .nil)) hsp
  have one : wpAny (model X.prog X.w) X.A (tryCompare (.ref a) (cmpInfo .NotEq).2.1 u) (fun r s' => ∃ v, r = some v ∧ EP X pins σ Q v s') X.xe s := by
    unfold tryCompare
    refine wpAny_bind (if_bound Y J O.ne (fun self => PySem.F.slot_object_ne.bind self) ?_)
    refine wpAny_call (codeAny_call_builtin PySem.F.slot_object_ne.plain F.cmpEntry_ne (@PySem.W.check_slot (model X.prog X.w) _ _ s "object.__ne__" "object" "__ne__" (.ref a) [u] [] _ F.cmpKind_ne F.cmpSplit_ne sub (F.cmpArgs_ne _ _) ?_))
    unfold Builtin.«object.__ne__»
    refine wpAny_bind (wpAny_of_eq (a := ((Value.ref a : Value), [u])) (by first | rfl | (simp only [slotArgs]; rfl)) ?_)
    refine wpAny_bind (wpAny_cRoomFor hr.in1.units0 ?_)
    refine wpAny_bind (PySem.W.ifBound_K Y J O.eq O.fn (wpAny_mono hcall (fun r s' hr' => ?_) fun _ _ e => e))
    obtain ⟨z, H', I', rz, b, rfl, q⟩ := hr'
    cases rz
    refine wpAny_bind (wpAny_truthy_bool ?_)
    refine wpAny_pure ?_
    exact wpAny_pure ⟨_, rfl, .bl (!b), H', I', rfl, q⟩
  show wpAny (model X.prog X.w) X.A (richCompare .NotEq (.ref a) u) (EP X pins σ Q) X.xe s
  unfold richCompare
  simp only [oneThing_ref]
  refine wpAny_holding (wpAny_bind (wpAny_cRoomFor hr.units0 ?_))
  refine wpAny_bind (J.type.here (wpAny_bind (tb.here ?_)))
  split
  · rename_i q
    have e : PySem.W.subIn X.K t (.ref C) = some false := by
      rcases Bool.or_eq_true_iff.mp hn with e | e
      · rw [beq_iff_eq.mp e] at q
        simp at q
      · exact beq_iff_eq.mp e
    refine wpAny_bind ((PySem.W.looks_subIn Y e).here ?_)
    simp only [Bool.false_eq_true, if_false]
    refine wpAny_bind (wpAny_mono one (fun r s' z => ?_) fun _ _ e => e)
    obtain ⟨v, rfl, hq⟩ := z
    exact wpAny_pure hq
  · refine wpAny_bind (wpAny_pure ?_)
    simp only [Bool.false_eq_true, if_false]
    refine wpAny_bind (wpAny_mono one (fun r s' z => ?_) fun _ _ e => e)
    obtain ⟨v, rfl, hq⟩ := z
    exact wpAny_pure hq
end
end Sq
namespace Sq
open PySem L2 PyProof.Rows
/-- isinstance(x, Field) of other things -/
def spF_eq (K : PySem.W.Frag) (CF : Addr) : Sp := fun vs H Q _ => ∃ (x : Addr) (y : V) (p : Int), vs = [.ref x, y] ∧ FldAt CF H x p ∧
  ((∃ r p', y = .ref r ∧ FldAt CF H r p' ∧ Q (.bl (decide (p = p'))) H) ∨ (∃ i, y = .int i ∧ Q (.bl false) H))
/-- what the class Field must say for isinstance -/
structure IFy (K : PySem.W.Frag) (C : Addr) : Prop where
  ha : PySem.W.findIn K (.ref C) "__class__" = some (some (.builtin "object.__class__"))
  hn : PySem.W.specialIn K (.builtin "object.__class__") "__get__" = some (some (.builtin "getset_descriptor.__get__"))
  htk : PySem.W.takesIn K (.builtin "object.__class__") = some true
  hm : PySem.W.mroIn K C (.type "object") = some true
  kint : PySem.W.kitOne K (.type "int") (.ref C) = some false
theorem FldAt.ty {K : PySem.W.Frag} {C : Addr} {H : Hp} {x : Addr} {p : Int} (T : FTx K C) (Y : IFy K C) (h : FldAt C H x p) : TyX K H (.ref x) (.ref C) := by
  obtain ⟨dx, h⟩ := h
  exact .base (.ins h T.cl Y.ha Y.hn Y.htk Y.hm)
section
variable {P : Program} {w : World} {K : PySem.W.Frag} {mg : Str → Option Value} {base : Heap}
theorem sc_feq : FnScope ["self", "other"] ["self", "other"] (defScope s_feq) := ⟨rfl, rfl, rfl, by decide +kernel, rfl, by decide +kernel, by decide +kernel⟩
theorem ok_feq {f CF : Addr} {fd : FuncData} (F : Fun K "__eq__" "Field.__eq__" s_feq f fd) (TF : FTx K CF) (Y : IFy K CF) (B : ITx mg) (m_CF : mg "Field" = some (.ref CF)) : FnOk P w K mg base CX0 1 f fd ["self", "other"] (spF_eq K CF) := by
  refine F.ok sc_feq (fun vs H Q E h => ?_) (fun cdv A outer s H vs Q E hr h => ?_)
  · obtain ⟨x, y, p, rfl, _⟩ := h
    rfl
  · obtain ⟨x, y, p, rfl, hx, h⟩ := h
    refine ⟨_, pss_one (ps_ret (pe_and (pe_callB call_isi (by rfl) B.b_isinstance (by decide +kernel) (pa_cons (pv 1) (pa_cons (pe_glob (v := .ref CF) rfl m_CF rfl) pa_nil))) (pe_one (pe_cmpR op_eq (pe_fld (pv 0) rfl) (pe_fld (pv 1) rfl) (nomark _))))), ?_⟩
    obtain ⟨dx, hx0⟩ := id hx
    rcases h with ⟨r, p', rfl, hr1, k⟩ | ⟨i, rfl, k⟩
    · obtain ⟨dr, hr0⟩ := id hr1
      refine ⟨_, rfl, _, _, _, _, true, rfl, .own CF, hr1.ty TF Y, kit_self, _, rfl, iteT ?_⟩
      refine ⟨_, rfl, x, CF, dx, _, _, rfl, hx0, TF.cl, TF.nP, pf_prime _, _, rfl, r, CF, dr, _, _, rfl, hr0, TF.cl, TF.nP, pf_prime _, rfl, ?_⟩
      show Q (.bl (decide (V.int p = V.int p'))) H
      rw [dec_int2]
      exact k
    · exact ⟨_, rfl, _, _, _, _, false, rfl, .own CF, .base (.int _), Y.kint, _, rfl, iteF k⟩
end
end Sq

namespace Sq
open PySem L2 PyProof.Rows
/-! ### an own error that keeps one field of any name -/
def fldAt (F : Str) (y : V) : HO := .xd [(F, y)]
def spFInit (F : Str) (CN : Addr) : Sp := fun vs H Q _ => ∃ (a : Addr) (y : V), vs = [.ref a, y] ∧ H a = some (exo a CN none) ∧ ∀ dx, H dx = none → dx ≠ a → Q .non (upd (upd H dx (exd dx [(F, y)])) a (exo a CN (some dx)))
structure NTxF (K : PySem.W.Frag) (F : Str) (CN fN : Addr) : Prop where
  oex : OexC K CN
  nw : PySem.W.findIn K (.ref CN) F = some none
  iC : PySem.W.findIn K (.ref CN) "__init__" = some (some (.ref fN))
  tI : PySem.W.typeIn K (.ref fN) = some (.type "function")
theorem xd_eqF {F : Str} {H : Hp} {a d CN : Addr} {y : V} (ha : H a = none) (n : d ≠ a) : upd (L2.del (upd (upd (upd H a (exo a CN none)) d (exd d [(F, y)])) a (exo a CN (some d))) a) d (.xd [(F, y)]) = upd H d (.xd [(F, y)]) := by
  funext b
  by_cases h1 : b = d
  · subst h1
    rw [upd_same, upd_same]
  · rw [upd_ne h1, upd_ne h1]
    by_cases h2 : b = a
    · subst h2
      rw [del_same, ha]
    · rw [del_ne h2, upd_ne h2, upd_ne h1, upd_ne h2]
theorem mkO_readF {F : Str} {CN : Addr} {z : V} {H : Hp} {E : XK} (h : ∀ d, H d = none → E (.ref CN) (some d) (upd H d (fldAt F z))) : ∀ a, H a = none → spFInit F CN (.ref a :: ([z] ++ [])) (upd H a (exo a CN none))
    (fun v H2 => v = .non ∧ ∃ (d : Addr) (fs : List (Str × V)), H2 a = some (exo a CN (some d)) ∧ H2 d = some (exd d fs) ∧ H d = none ∧ E (.ref CN) (some d) (upd (L2.del H2 a) d (.xd fs))) (fun _ _ _ => False) := fun a ha => by
  refine ⟨a, _, rfl, upd_same, fun dx h1 h2 => ⟨rfl, dx, [(F, z)], upd_same, ?_, ?_, ?_⟩⟩
  · exact (upd_ne h2).trans upd_same
  · rw [upd_ne h2] at h1
    exact h1
  · rw [upd_ne h2] at h1
    rw [xd_eqF ha h2]
    exact h dx h1
section
variable {P : Program} {w : World} {K : PySem.W.Frag} {mg : Str → Option Value} {base : Heap}
abbrev s_placeInit : Stmt := inClass (top 7) 0
theorem sc_placeInit : FnScope ["self", "place"] ["self", "place"] (defScope s_placeInit) := ⟨rfl, rfl, rfl, by decide +kernel, rfl, by decide +kernel, by decide +kernel⟩
theorem ok_placeInit {f CN fN : Addr} {fd : FuncData} (F : Fun K "__init__" "NoPoly.__init__" s_placeInit f fd) (T : NTxF K "place" CN fN) : FnOk P w K mg base CX0 1 f fd ["self", "place"] (spFInit "place" CN) := by
  refine F.ok sc_placeInit (fun vs H Q E h => ?_) (fun cdv A outer s H vs Q E hr h => ?_)
  · obtain ⟨x, y, rfl, _⟩ := h
    rfl
  · obtain ⟨a, y, rfl, ha, k⟩ := h
    refine ⟨_, pss_one (ps_ost (pv 0) (pv 1)), ?_⟩
    exact ⟨_, rfl, _, rfl, a, CN, rfl, T.oex, T.nw, .inl ⟨ha, fun dx h1 h2 => k dx h1 h2⟩⟩
end
/-! ### numbers of a field -/
/-- v is the number of the field p that is told by the pair (t, u) -/
def FN (C : Addr) (H : Hp) (p : Int) (v : V) (t u : Int) : Prop := (p = 0 ∧ (∃ r, v = .ref r ∧ RatAt C H r t u) ∧ 1 ≤ u ∧ Int.gcd t u = 1) ∨ (p ≠ 0 ∧ v = .int t ∧ u = 1 ∧ 0 ≤ t ∧ t < p)
theorem FN.same {C : Addr} {H H' : Hp} {p t u : Int} {v : V} (s : Same H H') (h : FN C H p v t u) : FN C H' p v t u := by
  rcases h with ⟨p0, ⟨r, e, R⟩, a, b⟩ | h
  · exact .inl ⟨p0, ⟨r, e, R.same s⟩, a, b⟩
  · exact .inr h
theorem FN.num {C : Addr} {H : Hp} {p t u : Int} {v : V} (h : FN C H p v t u) : NumAt C H v t u := by
  rcases h with ⟨p0, ⟨r, e, R⟩, a, b⟩ | ⟨_, e, u1, _⟩
  · exact .inl ⟨r, e, R⟩
  · exact .inr ⟨e, u1⟩
theorem FN.pos {C : Addr} {H : Hp} {p t u : Int} {v : V} (h : FN C H p v t u) : 1 ≤ u := by
  rcases h with ⟨_, _, a, _⟩ | ⟨_, _, u1, _⟩
  · exact a
  · omega
theorem FN.upd {C : Addr} {H : Hp} {p t u : Int} {v : V} {q : Addr} {xs : List V} {o : HO} (hq : H q = some (.lst xs)) (h : FN C H p v t u) : FN C (L2.upd H q o) p v t u := by
  rcases h with ⟨p0, ⟨r, e, dx, R⟩, a, b⟩ | h
  · have n : r ≠ q := fun z => by
      rw [z, hq] at R
      cases R
    exact .inl ⟨p0, ⟨r, e, dx, (upd_ne n).trans R⟩, a, b⟩
  · exact .inr h
structure FNs (C : Addr) (H : Hp) (p : Int) (ys : List V) (prs : List (Int × Int)) : Prop where
  len : ys.length = prs.length
  at_ : ∀ (i : Nat) (y : V) (pr : Int × Int), ys[i]? = some y → prs[i]? = some pr → FN C H p y pr.1 pr.2
theorem FNs.same {C : Addr} {H H' : Hp} {p : Int} {ys : List V} {prs : List (Int × Int)} (s : Same H H') (h : FNs C H p ys prs) : FNs C H' p ys prs := ⟨h.len, fun i y pr a b => (h.at_ i y pr a b).same s⟩
theorem FNs.nil {C : Addr} {H : Hp} {p : Int} : FNs C H p [] [] := ⟨rfl, fun i y pr a _ => by simp at a⟩
theorem get_snoc {α : Type} {l : List α} {x y : α} {i : Nat} (h : (l ++ [x])[i]? = some y) : l[i]? = some y ∨ (i = l.length ∧ y = x) := by
  rw [List.getElem?_append] at h
  split at h
  · exact .inl h
  · by_cases e : i = l.length
    · refine .inr ⟨e, ?_⟩
      rw [e] at h
      simpa using h.symm
    · rw [List.getElem?_eq_none (by simp; omega)] at h
      cases h
theorem get_len {α : Type} {l : List α} {y : α} {i : Nat} (h : l[i]? = some y) : i < l.length := (List.getElem?_eq_some_iff.mp h).1
theorem FNs.snoc {C : Addr} {H : Hp} {p : Int} {ys : List V} {prs : List (Int × Int)} {y : V} {pr : Int × Int} (h : FNs C H p ys prs) (a : FN C H p y pr.1 pr.2) : FNs C H p (ys ++ [y]) (prs ++ [pr]) := by
  refine ⟨by rw [List.length_append, List.length_append, h.len]; rfl, fun i z qr e1 e2 => ?_⟩
  rcases get_snoc e1 with e1 | ⟨i1, rfl⟩
  · rcases get_snoc e2 with e2 | ⟨i2, rfl⟩
    · exact h.at_ i z qr e1 e2
    · have := get_len e1
      have := h.len
      omega
  · rcases get_snoc e2 with e2 | ⟨i2, rfl⟩
    · have := get_len e2
      have := h.len
      omega
    · exact a
theorem FNs.upd {C : Addr} {H : Hp} {p : Int} {ys : List V} {prs : List (Int × Int)} {q : Addr} {xs : List V} {o : HO} (hq : H q = some (.lst xs)) (h : FNs C H p ys prs) : FNs C (L2.upd H q o) p ys prs := ⟨h.len, fun i y pr a b => (h.at_ i y pr a b).upd hq⟩
theorem FNs.take {C : Addr} {H : Hp} {p : Int} {ys : List V} {prs : List (Int × Int)} (h : FNs C H p ys prs) (n : Nat) : FNs C H p (ys.take n) (prs.take n) := by
  refine ⟨by rw [List.length_take, List.length_take, h.len], fun i y pr a b => ?_⟩
  rw [List.getElem?_take] at a b
  split at a
  · rename_i c
    rw [if_pos c] at b
    exact h.at_ i y pr a b
  · cases a
/-- what is given for a number of the field: its pair, or none if it is refused -/
def Giv (K : PySem.W.Frag) (C : Addr) (H : Hp) (p : Int) (v : V) : Option (Int × Int) → Prop
  | none => NmTy K C H v false ∨ ∃ t u, NumAt C H v t u ∧ 1 ≤ u ∧ Fit t ∧ Fit u ∧ p ≠ 0 ∧ u % p = 0
  | some a => ∃ t u, NumAt C H v t u ∧ 1 ≤ u ∧ Fit t ∧ Fit u ∧ (p = 0 → a = (t, u) ∧ Int.gcd t u = 1) ∧ (p ≠ 0 → u % p ≠ 0 ∧ a.2 = 1 ∧ 0 ≤ a.1 ∧ a.1 < p ∧ ∃ k, a.1 * u = t + k * p)
theorem Giv.same {K : PySem.W.Frag} {C : Addr} {H H' : Hp} {p : Int} {v : V} {o : Option (Int × Int)} (s : Same H H') (h : Giv K C H p v o) : Giv K C H' p v o := by
  cases o with
  | none =>
    rcases h with h | ⟨t, u, n, r⟩
    · exact .inl (h.same s)
    · exact .inr ⟨t, u, n.same s, r⟩
  | some a =>
    obtain ⟨t, u, n, r⟩ := h
    exact ⟨t, u, n.same s, r⟩
theorem num_uniq {p r r' t u k k' : Int} (hg : goodP p = true) (p0 : p ≠ 0) (up : u % p ≠ 0) (a0 : 0 ≤ r) (a1 : r < p) (b0 : 0 ≤ r') (b1 : r' < p) (e : r * u = t + k * p) (e' : r' * u = t + k' * p) : r = r' := by
  obtain ⟨p2, p3, hp⟩ := goodP_pos hg p0
  by_cases c : r = r'
  · exact c
  exfalso
  have key : ∀ x y kx ky : Int, 0 ≤ x → x < p → 0 ≤ y → y < p → y < x → x * u = t + kx * p → y * u = t + ky * p → False := by
    intro x y kx ky x0 x1 y0 y1 h ex ey
    have d : p ∣ (x - y) * u := ⟨kx - ky, by rw [Int.sub_mul, ex, ey, Int.mul_sub, Int.mul_comm p kx, Int.mul_comm p ky]; omega⟩
    have g := gcd_prime p2 p3 hp (show 1 ≤ x - y by omega) (by omega)
    have dn : p.natAbs ∣ (x - y).natAbs * u.natAbs := by
      rw [← Int.natAbs_mul]
      exact Int.natAbs_dvd_natAbs.mpr d
    have du : p.natAbs ∣ u.natAbs := Nat.Coprime.dvd_of_dvd_mul_left (show Nat.Coprime p.natAbs (x - y).natAbs from g) dn
    exact up (Int.emod_eq_zero_of_dvd (Int.natAbs_dvd_natAbs.mp du))
  rcases Int.lt_or_gt_of_ne c with h | h
  · exact key r' r k' k b0 b1 a0 a1 h e' e
  · exact key r r' k k' a0 a1 b0 b1 h e e'
def pre : List (Option (Int × Int)) → List (Int × Int)
  | some a :: r => a :: pre r
  | _ => []
theorem pre_app (prs : List (Int × Int)) (r : List (Option (Int × Int))) : pre (prs.map some ++ r) = prs ++ pre r := by
  induction prs with
  | nil => rfl
  | cons a l ih =>
    show a :: pre (l.map some ++ r) = _
    rw [ih]
    rfl
theorem pre_stop {os : List (Option (Int × Int))} {prs : List (Int × Int)} {i : Nat} (h : os.take i = prs.map some) (e : os[i]? = some none) : pre os = prs := by
  have s : os = os.take i ++ os.drop i := (List.take_append_drop i os).symm
  have d : os.drop i = none :: os.drop (i + 1) := by
    have hi := get_len e
    rw [List.drop_eq_getElem_cons hi]
    congr 1
    exact Option.some.inj ((List.getElem?_eq_getElem hi).symm.trans e)
  rw [s, h, d, pre_app]
  show prs ++ [] = prs
  rw [List.append_nil]
theorem pre_all {os : List (Option (Int × Int))} {prs : List (Int × Int)} (h : os = prs.map some) : pre os = prs := by
  have := pre_app prs []
  rw [List.append_nil] at this
  rw [h, this]
  show prs ++ [] = prs
  rw [List.append_nil]
structure Givs (K : PySem.W.Frag) (C : Addr) (H : Hp) (p : Int) (xs : List V) (os : List (Option (Int × Int))) : Prop where
  len : xs.length = os.length
  at_ : ∀ (i : Nat) (x : V) (o : Option (Int × Int)), xs[i]? = some x → os[i]? = some o → Giv K C H p x o
theorem Givs.same {K : PySem.W.Frag} {C : Addr} {H H' : Hp} {p : Int} {xs : List V} {os : List (Option (Int × Int))} (s : Same H H') (h : Givs K C H p xs os) : Givs K C H' p xs os := ⟨h.len, fun i x o a b => (h.at_ i x o a b).same s⟩
end Sq

-- needs HandS.ClsMeth
-- needs HandS.Conv
namespace Sq
open PySem L2 PyProof.Rows
abbrev s_isseq : Stmt := top 13
abbrev s_taken : Stmt := top 20
/-- is it a list or a tuple -/
def IsQ (K : PySem.W.Frag) (H : Hp) (v : V) (b : Bool) : Prop := ∃ t, TyX K H v t ∧ PySem.W.kitAny K t [.type "list", .type "tuple"] = some b
theorem IsQ.same {K : PySem.W.Frag} {H H' : Hp} {v : V} {b : Bool} (s : Same H H') (h : IsQ K H v b) : IsQ K H' v b := by
  obtain ⟨t, ty, k⟩ := h
  exact ⟨t, tyX_same s ty, k⟩
theorem kitQ {K : PySem.W.Frag} {t : Value} {a b : Bool} (h1 : PySem.W.kitOne K t (.type "list") = some a) (h2 : PySem.W.kitOne K t (.type "tuple") = some b) : PySem.W.kitAny K t [.type "list", .type "tuple"] = some (a || b) := by
  unfold PySem.W.kitAny
  rw [h1]
  cases a with
  | true => rfl
  | false =>
    show PySem.W.kitAny K t [.type "tuple"] = _
    unfold PySem.W.kitAny
    rw [h2]
    cases b with
    | true => rfl
    | false => rfl
def LT (H : Hp) (l : Addr) (xs : List V) : Prop := H l = some (.lst xs) ∨ H l = some (.tup xs)
theorem LT.same {H H' : Hp} {l : Addr} {xs : List V} (s : Same H H') (h : LT H l xs) : LT H' l xs := h.imp (s _ _) (s _ _)
theorem LT.isQ {K : PySem.W.Frag} {H : Hp} {l : Addr} {xs : List V} (h : LT H l xs) : IsQ K H (.ref l) true := by
  rcases h with h | h
  · exact ⟨.type "list", .base (.lst h), kitQ (a := true) (b := false) (kit_ty (by decide +kernel)) (kit_ty (by decide +kernel))⟩
  · exact ⟨.type "tuple", .base (.tup h), kitQ (a := false) (b := true) (kit_ty (by decide +kernel)) (kit_ty (by decide +kernel))⟩
theorem IsQ.ty {K : PySem.W.Frag} {H : Hp} {v : V} {T : String} (h : TyX K H v (.type T)) (h1 : PySem.W.kitOne K (.type T) (.type "list") = some false) (h2 : PySem.W.kitOne K (.type T) (.type "tuple") = some false) : IsQ K H v false := ⟨_, h, kitQ (a := false) (b := false) h1 h2⟩
def spSeq (K : PySem.W.Frag) : Sp := fun vs H Q _ => ∃ (v : V) (b : Bool), vs = [v] ∧ IsQ K H v b ∧ ∀ H', Same H H' → Q (.bl b) H'
def spTaken (K : PySem.W.Frag) (C CF : Addr) : Sp := fun vs H Q _ => ∃ (x l : Addr) (p : Int) (xs : List V) (os : List (Option (Int × Int))), vs = [.ref x, .ref l] ∧ FldAt CF H x p ∧ goodP p = true ∧ LT H l xs ∧ xs.length ≤ 200 ∧ Givs K C H p xs os ∧
  ∀ q ys H', Same H H' → H' q = some (.lst ys) → FNs C H' p ys (pre os) → Q (.ref q) H'
structure QTx (mg : Str → Option Value) : Prop where
  b_isinstance : mg "isinstance" = none
  b_list : mg "list" = none
  b_tuple : mg "tuple" = none
  b_len : mg "len" = none
section
variable {P : Program} {w : World} {K : PySem.W.Frag} {mg : Str → Option Value} {base : Heap}
theorem sc_isseq : FnScope ["value"] ["value"] (defScope s_isseq) := ⟨rfl, rfl, rfl, by decide +kernel, rfl, by decide +kernel, by decide +kernel⟩
theorem ok_isseq {f : Addr} {fd : FuncData} (F : Fun K "is_a_sequence" "is_a_sequence" s_isseq f fd) (B : QTx mg) : FnOk P w K mg base CX0 1 f fd ["value"] (spSeq K) := by
  refine F.ok sc_isseq (fun vs H Q E h => ?_) (fun cdv A outer s H vs Q E hr h => ?_)
  · obtain ⟨x, b, rfl, _⟩ := h
    rfl
  · obtain ⟨v, b, rfl, ⟨t, ty, kk⟩, k⟩ := h
    refine ⟨_, pss_one (ps_ret (pe_callB call_isiT (by rfl) B.b_isinstance (by decide +kernel) (pa_cons (pv 0) (pa_cons (pe_tup (pa_cons (pe_bltn (v := .ty "list") (by rfl) B.b_list (by decide +kernel) rfl) (pa_cons (pe_bltn (v := .ty "tuple") (by rfl) B.b_tuple (by decide +kernel) rfl) pa_nil))) pa_nil)))), ?_⟩
    refine ⟨_, rfl, (by show 2 ≤ sizeLine; decide), fun tp htp => ?_⟩
    have s1 : Same H (upd H tp (.tup [.ty "list", .ty "tuple"])) := same_new (Same.refl H) htp
    exact ⟨_, tp, _, t, _, b, rfl, upd_same, .cons (.ty _) (.cons (.ty _) .nil), tyX_same s1 ty, kk, k _ s1⟩
theorem sc_taken : FnScope ["field", "values", "numbers", "value"] ["field", "values"] (defScope s_taken) := ⟨rfl, rfl, rfl, by decide +kernel, rfl, by decide +kernel, by decide +kernel⟩
theorem ok_taken {f C CF CNN fnum : Addr} {fd fdnum : FuncData} (F : Fun K "taken" "taken" s_taken f fd) (TF : FTx K CF) (m_NN : mg "NoNumber" = some (.ref CNN)) (te : PySem.W.exmOne K (.ref CNN) (.ref CNN) = some true)
    (Me_num : Meth K CF "number" fnum) (G_num : FnOk P w K mg base (L2.CX P w) 8 fnum fdnum ["self", "value"] (spNum K C CF CNN)) (b_num : Binds K fdnum ["self", "value"] []) :
    FnOk P w K mg base CX0 9 f fd ["field", "values"] (spTaken K C CF) := by
  refine F.ok sc_taken (fun vs H Q E h => ?_) (fun cdv A outer s H vs Q E hr h => ?_)
  · obtain ⟨x, l, p, xs, os, rfl, _⟩ := h
    rfl
  · obtain ⟨x, l, p, xs, os, rfl, hx, hg, hl, hn, gv, k⟩ := h
    rcases hl with hl | hl
    · refine ⟨_, (pss_cons (ps_set (i := 2) sc_taken.nd rfl (Or.inl rfl) (pe_lst pa_nil))
        (pss_cons (ps_for PassesOwn.never rfl (pi_list (pv 1)) (pg_name (i := 3) sc_taken.nd rfl (Or.inl rfl))
          (pss_one (ps_try_only (tb := fun W => tDrop (tBM K "list" rAppend (tVar 2) (tCons (tMtS CF "number" (spNum K C CF CNN) (WE W) (tVar 0) (tCons (tVar 3) tNil)) tNil))) (Wout := fun _ _ _ _ => False) rfl rfl ⟨rfl, by decide, Or.inl m_NN⟩ takes0
            (fun W pn xe tk _ => pss_one (ps_expr (pe_bm PySem.F.plainAttrs_list PySem.F.slot_list_append PySem.F.type_list_append mt_append (pv 2) (pa_cons (pe_mtS (pv 0) TF.cl Me_num G_num (hr.mono (by decide)) b_num (fun σ => passAt tk σ) (pa_cons (pv 3) pa_nil)) pa_nil))))
            (fun a oe cls d pn hz hf => pss_one (ps_ret (pv 2))))))
        (pss_one (ps_ret (pv 2))))), ?_⟩
      refine ⟨(by show 0 ≤ sizeLine; decide), fun q hq => ?_⟩
      have sq := same_new (o := .lst []) (Same.refl H) hq
      refine ⟨_, rfl, l, rfl, ⟨xs, SqL.of (sq _ _ hl)⟩, ?_⟩
      refine for_list (xs := xs) (tb := fun D => (fun W => tDrop (tBM K "list" rAppend (tVar 2) (tCons (tMtS CF "number" (spNum K C CF CNN) (WE W) (tVar 0) (tCons (tVar 3) tNil)) tNil))) (wOnly K (.ref CNN) (fun a cls d => tRet (tVar 2)) (fun _ _ _ _ => False) D) D) (fun i σ H' => ∃ (v : Option V) (ys : List V) (prs : List (Int × Int)), σ = [some (.ref x), some (.ref l), some (.ref q), v] ∧ Same H H' ∧ H' q = some (.lst ys) ∧ os.take i = prs.map some ∧ FNs C H' p ys prs)
        ⟨none, [], [], rfl, sq, upd_same, rfl, FNs.nil⟩ (fun i σ H' _ h => ?_) ?_ ?_
      · obtain ⟨_, _, _, _, s1, _⟩ := h
        exact SqL.of (s1 _ _ hl)
      · rintro i z σ H2 hi ⟨v, ys, prs, rfl, s2, hq2, ho, fn⟩
        obtain ⟨dx, hx0⟩ := id hx
        have li : i < xs.length := get_len hi
        have lo : i < os.length := by rw [← gv.len]; exact li
        have ly : ys.length = i := by
          have h1 := congrArg List.length ho
          rw [List.length_take, List.length_map] at h1
          rw [fn.len]
          omega
        have ei : os[i]? = some os[i] := List.getElem?_eq_getElem lo
        have g0 := gv.at_ i z _ hi ei
        generalize os[i] = o at *
        refine ⟨_, rfl, .inl ⟨rfl, _, SqL.of hq2⟩, _, rfl, x, dx, _, rfl, s2 _ _ hx0, pf_no _ (by decide +kernel), _, rfl, x, z, p, rfl, hx.same s2, hg, ?_⟩
        have stop : o = none → WE (wOnly K (.ref CNN) (fun a cls d => tRet (tVar 2)) (fun _ _ _ _ => False) { nx := fun σ H' => ∃ (v : Option V) (ys : List V) (prs : List (Int × Int)), σ = [some (.ref x), some (.ref l), some (.ref q), v] ∧ Same H H' ∧ H' q = some (.lst ys) ∧ os.take (i + 1) = prs.map some ∧ FNs C H' p ys prs, rt := Q }) [some (.ref x), some (.ref l), some (.ref q), some z] (.ref CNN) none H2 := fun e => by
          subst e
          refine ⟨true, te, fun _ a ha => ⟨_, rfl, ?_⟩, fun q => Bool.noConfusion q⟩
          exact k q ys _ s2 hq2 (by rw [pre_stop ho ei]; exact fn)
        cases o with
        | none =>
          rcases g0 with g0 | ⟨t, u, n, pu, st, su, p0, um⟩
          · exact .inl ⟨g0.same s2, stop rfl⟩
          · exact .inr ⟨t, u, n.same s2, pu, fit_up st, fit_up su, fun h => absurd h p0, fun _ _ => stop rfl, fun _ h => absurd um h⟩
        | some a =>
          obtain ⟨t, u, n, pu, st, su, h0, hp⟩ := g0
          have ot : os.take (i + 1) = (prs ++ [a]).map some := by
            rw [take_more ei, ho, List.map_append]
            rfl
          have go : ∀ y H3, Same H2 H3 → FN C H3 p y a.1 a.2 → ∃ l' xs' y', V.ref q = .ref l' ∧ [y] = [y'] ∧ H3 l' = some (.lst xs') ∧ xs'.length < sizeLine ∧ (∃ (v : Option V) (ys : List V) (prs : List (Int × Int)), [some (V.ref x), some (.ref l), some (.ref q), some z] = [some (.ref x), some (.ref l), some (.ref q), v] ∧ Same H (upd H3 l' (.lst (xs' ++ [y']))) ∧ (upd H3 l' (.lst (xs' ++ [y']))) q = some (.lst ys) ∧ os.take (i + 1) = prs.map some ∧ FNs C (upd H3 l' (.lst (xs' ++ [y']))) p ys prs) := fun y H3 s3 f => by
            have hq3 := s3 _ _ hq2
            refine ⟨q, ys, y, rfl, rfl, hq3, ?_, some z, ys ++ [y], prs ++ [a], rfl, same_at (s2.trans s3) hq, upd_same, ot, ((fn.same s3).snoc f).upd hq3⟩
            have e : (sizeLine : Nat) = 16777216 := sizeLine_eq
            omega
          refine .inr ⟨t, u, n.same s2, pu, fit_up st, fit_up su, fun p0 r H3 R s3 => ?_, fun p0 up => absurd up (hp p0).1, fun p0 up r H3 r0 r1 ⟨kk, hk⟩ s3 => ?_⟩
          · obtain ⟨rfl, cop⟩ := h0 p0
            exact go (.ref r) H3 s3 (.inl ⟨p0, ⟨r, rfl, R⟩, pu, cop⟩)
          · obtain ⟨_, a2, a0, a1, k2, hk2⟩ := hp p0
            have e := num_uniq hg p0 up r0 r1 a0 a1 hk hk2
            exact go (.int r) H3 s3 (.inr ⟨p0, by rw [e], a2, a0, a1⟩)
      · rintro σ H2 ⟨v, ys, prs, rfl, s2, hq2, ho, fn⟩
        refine ⟨_, rfl, k q ys _ s2 hq2 ?_⟩
        rw [gv.len, List.take_length] at ho
        rw [pre_all ho]
        exact fn
    · refine ⟨_, (pss_cons (ps_set (i := 2) sc_taken.nd rfl (Or.inl rfl) (pe_lst pa_nil))
        (pss_cons (ps_for PassesOwn.never rfl (pi_tup (pv 1)) (pg_name (i := 3) sc_taken.nd rfl (Or.inl rfl))
          (pss_one (ps_try_only (tb := fun W => tDrop (tBM K "list" rAppend (tVar 2) (tCons (tMtS CF "number" (spNum K C CF CNN) (WE W) (tVar 0) (tCons (tVar 3) tNil)) tNil))) (Wout := fun _ _ _ _ => False) rfl rfl ⟨rfl, by decide, Or.inl m_NN⟩ takes0
            (fun W pn xe tk _ => pss_one (ps_expr (pe_bm PySem.F.plainAttrs_list PySem.F.slot_list_append PySem.F.type_list_append mt_append (pv 2) (pa_cons (pe_mtS (pv 0) TF.cl Me_num G_num (hr.mono (by decide)) b_num (fun σ => passAt tk σ) (pa_cons (pv 3) pa_nil)) pa_nil))))
            (fun a oe cls d pn hz hf => pss_one (ps_ret (pv 2))))))
        (pss_one (ps_ret (pv 2))))), ?_⟩
      refine ⟨(by show 0 ≤ sizeLine; decide), fun q hq => ?_⟩
      have sq := same_new (o := .lst []) (Same.refl H) hq
      refine ⟨_, rfl, l, rfl, ⟨xs, SqT.of (sq _ _ hl)⟩, ?_⟩
      refine for_tup (xs := xs) (tb := fun D => (fun W => tDrop (tBM K "list" rAppend (tVar 2) (tCons (tMtS CF "number" (spNum K C CF CNN) (WE W) (tVar 0) (tCons (tVar 3) tNil)) tNil))) (wOnly K (.ref CNN) (fun a cls d => tRet (tVar 2)) (fun _ _ _ _ => False) D) D) (fun i σ H' => ∃ (v : Option V) (ys : List V) (prs : List (Int × Int)), σ = [some (.ref x), some (.ref l), some (.ref q), v] ∧ Same H H' ∧ H' q = some (.lst ys) ∧ os.take i = prs.map some ∧ FNs C H' p ys prs)
        ⟨none, [], [], rfl, sq, upd_same, rfl, FNs.nil⟩ (fun i σ H' _ h => ?_) ?_ ?_
      · obtain ⟨_, _, _, _, s1, _⟩ := h
        exact SqT.of (s1 _ _ hl)
      · rintro i z σ H2 hi ⟨v, ys, prs, rfl, s2, hq2, ho, fn⟩
        obtain ⟨dx, hx0⟩ := id hx
        have li : i < xs.length := get_len hi
        have lo : i < os.length := by rw [← gv.len]; exact li
        have ly : ys.length = i := by
          have h1 := congrArg List.length ho
          rw [List.length_take, List.length_map] at h1
          rw [fn.len]
          omega
        have ei : os[i]? = some os[i] := List.getElem?_eq_getElem lo
        have g0 := gv.at_ i z _ hi ei
        generalize os[i] = o at *
        refine ⟨_, rfl, .inl ⟨rfl, _, SqL.of hq2⟩, _, rfl, x, dx, _, rfl, s2 _ _ hx0, pf_no _ (by decide +kernel), _, rfl, x, z, p, rfl, hx.same s2, hg, ?_⟩
        have stop : o = none → WE (wOnly K (.ref CNN) (fun a cls d => tRet (tVar 2)) (fun _ _ _ _ => False) { nx := fun σ H' => ∃ (v : Option V) (ys : List V) (prs : List (Int × Int)), σ = [some (.ref x), some (.ref l), some (.ref q), v] ∧ Same H H' ∧ H' q = some (.lst ys) ∧ os.take (i + 1) = prs.map some ∧ FNs C H' p ys prs, rt := Q }) [some (.ref x), some (.ref l), some (.ref q), some z] (.ref CNN) none H2 := fun e => by
          subst e
          refine ⟨true, te, fun _ a ha => ⟨_, rfl, ?_⟩, fun q => Bool.noConfusion q⟩
          exact k q ys _ s2 hq2 (by rw [pre_stop ho ei]; exact fn)
        cases o with
        | none =>
          rcases g0 with g0 | ⟨t, u, n, pu, st, su, p0, um⟩
          · exact .inl ⟨g0.same s2, stop rfl⟩
          · exact .inr ⟨t, u, n.same s2, pu, fit_up st, fit_up su, fun h => absurd h p0, fun _ _ => stop rfl, fun _ h => absurd um h⟩
        | some a =>
          obtain ⟨t, u, n, pu, st, su, h0, hp⟩ := g0
          have ot : os.take (i + 1) = (prs ++ [a]).map some := by
            rw [take_more ei, ho, List.map_append]
            rfl
          have go : ∀ y H3, Same H2 H3 → FN C H3 p y a.1 a.2 → ∃ l' xs' y', V.ref q = .ref l' ∧ [y] = [y'] ∧ H3 l' = some (.lst xs') ∧ xs'.length < sizeLine ∧ (∃ (v : Option V) (ys : List V) (prs : List (Int × Int)), [some (V.ref x), some (.ref l), some (.ref q), some z] = [some (.ref x), some (.ref l), some (.ref q), v] ∧ Same H (upd H3 l' (.lst (xs' ++ [y']))) ∧ (upd H3 l' (.lst (xs' ++ [y']))) q = some (.lst ys) ∧ os.take (i + 1) = prs.map some ∧ FNs C (upd H3 l' (.lst (xs' ++ [y']))) p ys prs) := fun y H3 s3 f => by
            have hq3 := s3 _ _ hq2
            refine ⟨q, ys, y, rfl, rfl, hq3, ?_, some z, ys ++ [y], prs ++ [a], rfl, same_at (s2.trans s3) hq, upd_same, ot, ((fn.same s3).snoc f).upd hq3⟩
            have e : (sizeLine : Nat) = 16777216 := sizeLine_eq
            omega
          refine .inr ⟨t, u, n.same s2, pu, fit_up st, fit_up su, fun p0 r H3 R s3 => ?_, fun p0 up => absurd up (hp p0).1, fun p0 up r H3 r0 r1 ⟨kk, hk⟩ s3 => ?_⟩
          · obtain ⟨rfl, cop⟩ := h0 p0
            exact go (.ref r) H3 s3 (.inl ⟨p0, ⟨r, rfl, R⟩, pu, cop⟩)
          · obtain ⟨_, a2, a0, a1, k2, hk2⟩ := hp p0
            have e := num_uniq hg p0 up r0 r1 a0 a1 hk hk2
            exact go (.int r) H3 s3 (.inr ⟨p0, by rw [e], a2, a0, a1⟩)
      · rintro σ H2 ⟨v, ys, prs, rfl, s2, hq2, ho, fn⟩
        refine ⟨_, rfl, k q ys _ s2 hq2 ?_⟩
        rw [gv.len, List.take_length] at ho
        rw [pre_all ho]
        exact fn
end
end Sq

namespace Sq
open PySem L2 PyProof.Rows ClX
abbrev s_row : Stmt := top 37
abbrev s_pinit : Stmt := inClass (top 41) 1
theorem while_go {c : TT} {tb : TS} {D : Ends} {σ : L2.St} {H : Hp} (Pv : L2.St → Hp → Prop) (μ : L2.St → Hp → Nat) (h0 : Pv σ H)
    (hs : ∀ σ H, Pv σ H → c σ H fun b H1 => if b = true then ∃ N : L2.St → Hp → Prop, (∀ σ' H', N σ' H' → ∃ m', m' < μ σ H ∧ m' = μ σ' H' ∧ Pv σ' H') ∧ tb { D with nx := N, ct := N, bk := D.nx } σ H1 else D.nx σ H1) : tWhile c tb D σ H :=
  ⟨fun m σ H => m = μ σ H ∧ Pv σ H, ⟨_, rfl, h0⟩, fun m σ H ⟨e, p⟩ => by
    subst e
    exact hs σ H p⟩
def NotC (K : PySem.W.Frag) (H : Hp) (v : V) (D : Addr) : Prop := ∃ t, TyX K H v t ∧ PySem.W.kitOne K t (.ref D) = some false
theorem NotC.same {K : PySem.W.Frag} {H H' : Hp} {v : V} {D : Addr} (s : Same H H') (h : NotC K H v D) : NotC K H' v D := by
  obtain ⟨t, ty, k⟩ := h
  exact ⟨t, tyX_same s ty, k⟩
/-- what is passed as a row: no sequence, a sequence that is too long, or a row of things -/
inductive RowIn (K : PySem.W.Frag) (C : Addr) (H : Hp) (p : Int) (most : Nat) : V → Option (List (Option (Int × Int))) → Prop where
  | no {v : V} (h : IsQ K H v false) : RowIn K C H p most v none
  | long {l : Addr} {xs : List V} (h : LT H l xs) (n : most < xs.length) : RowIn K C H p most (.ref l) none
  | row {l : Addr} {xs : List V} {os : List (Option (Int × Int))} (h : LT H l xs) (n : xs.length ≤ most) (g : Givs K C H p xs os) : RowIn K C H p most (.ref l) (some os)
def spRow (K : PySem.W.Frag) (C CF CRd CNP : Addr) : Sp := fun vs H Q E => ∃ (x : Addr) (p : Int) (v : V) (o : Option (List (Option (Int × Int)))), vs = [.ref x, v] ∧ FldAt CF H x p ∧ goodP p = true ∧ NotC K H v CRd ∧ RowIn K C H p 100 v o ∧
  (o = none → ∀ H', Same H H' → ∀ d, H' d = none → E (.ref CNP) (some d) (upd H' d (fldAt "place" (.int (-1))))) ∧
  (∀ os, o = some os → (pre os).length < os.length → ∀ H', Same H H' → ∀ d, H' d = none → E (.ref CNP) (some d) (upd H' d (fldAt "place" (.int ((pre os).length : Nat))))) ∧
  (∀ os, o = some os → (pre os).length = os.length → ∀ q ys H', Same H H' → H' q = some (.lst ys) → FNs C H' p ys (pre os) → Q (.ref q) H')
theorem pre_le : ∀ os : List (Option (Int × Int)), (pre os).length ≤ os.length
  | [] => Nat.le_refl _
  | none :: r => Nat.zero_le _
  | some a :: r => Nat.succ_le_succ (pre_le r)
/-- without the zeros at the end -/
def trimP (l : List (Int × Int)) : List (Int × Int) := (l.reverse.dropWhile fun a => a.1 == 0).reverse
theorem trimP_nil : trimP [] = [] := rfl
theorem trimP_zero {l : List (Int × Int)} {a : Int × Int} (h : a.1 = 0) : trimP (l ++ [a]) = trimP l := by
  unfold trimP
  rw [List.reverse_append, List.reverse_cons, List.reverse_nil, List.nil_append, List.singleton_append, List.dropWhile_cons, if_pos (by rw [h]; rfl)]
theorem trimP_keep {l : List (Int × Int)} {a : Int × Int} (h : a.1 ≠ 0) : trimP (l ++ [a]) = l ++ [a] := by
  unfold trimP
  rw [List.reverse_append, List.reverse_cons, List.reverse_nil, List.nil_append, List.singleton_append, List.dropWhile_cons, if_neg (by simpa using h), List.reverse_cons, List.reverse_reverse]
def plf (fx ct : Addr) (n : Int) : List (Str × V) := putF "degree" (.int n) (putF "coefficients" (.ref ct) (putF "field" (.ref fx) []))
theorem plf_field (fx ct : Addr) (n : Int) : (plf fx ct n).lookup ("field" : Str) = some (.ref fx) := by
  unfold plf
  rw [lookup_putF, if_neg (by decide +kernel), lookup_putF, if_neg (by decide +kernel), lookup_putF, if_pos rfl]
theorem plf_coef (fx ct : Addr) (n : Int) : (plf fx ct n).lookup ("coefficients" : Str) = some (.ref ct) := by
  unfold plf
  rw [lookup_putF, if_neg (by decide +kernel), lookup_putF, if_pos rfl]
theorem plf_deg (fx ct : Addr) (n : Int) : (plf fx ct n).lookup ("degree" : Str) = some (.int n) := by
  unfold plf
  rw [lookup_putF, if_pos rfl]
theorem plf_no (fx ct : Addr) (n : Int) {m : Str} (h1 : ¬ m = "degree") (h2 : ¬ m = "coefficients") (h3 : ¬ m = "field") : (plf fx ct n).lookup m = none := by
  unfold plf
  rw [lookup_putF, if_neg h1, lookup_putF, if_neg h2, lookup_putF, if_neg h3]
  rfl
structure PolAt (C CP CF : Addr) (H : Hp) (x : Addr) (p : Int) (prs : List (Int × Int)) (dx fx ct : Addr) (ys : List V) : Prop where
  ob : H x = some (.ins CP dx (plf fx ct ((prs.length : Int) - 1)))
  fl : FldAt CF H fx p
  co : H ct = some (.tup ys)
  nu : FNs C H p ys prs
def Pol (C CP CF : Addr) (H : Hp) (x : Addr) (p : Int) (prs : List (Int × Int)) : Prop := ∃ dx fx ct ys, PolAt C CP CF H x p prs dx fx ct ys
theorem PolAt.same {C CP CF : Addr} {H H' : Hp} {x : Addr} {p : Int} {prs : List (Int × Int)} {dx fx ct : Addr} {ys : List V} (s : Same H H') (h : PolAt C CP CF H x p prs dx fx ct ys) : PolAt C CP CF H' x p prs dx fx ct ys := ⟨s _ _ h.ob, h.fl.same s, s _ _ h.co, h.nu.same s⟩
theorem Pol.same {C CP CF : Addr} {H H' : Hp} {x : Addr} {p : Int} {prs : List (Int × Int)} (s : Same H H') (h : Pol C CP CF H x p prs) : Pol C CP CF H' x p prs := by
  obtain ⟨dx, fx, ct, ys, h⟩ := h
  exact ⟨dx, fx, ct, ys, h.same s⟩
structure PTx (K : PySem.W.Frag) (CP : Addr) : Prop where
  cl : Cls K CP
  nF : NoAttr K CP "field"
  nC : NoAttr K CP "coefficients"
  nD : NoAttr K CP "degree"
/-- y == 0, y a number of the field -/
theorem fn_eq0 {K : PySem.W.Frag} {C : Addr} {H : Hp} {p t u : Int} {y : V} {Q : VK} {E : XK} (nf1 : PySem.W.notFirst K C (.type "int") = true) (h : FN C H p y t u) (k : Q (.bl (decide (t = 0))) H) : rEq y (.int 0) H Q ∨ rOwnEq K C (spR_eq K C) E y (.int 0) H Q := by
  rcases h with ⟨_, ⟨r, rfl, R⟩, pu, cop⟩ | ⟨_, rfl, _, _⟩
  · obtain ⟨dr, hr⟩ := id R
    refine .inr ⟨r, dr, _, _, rfl, hr, .base (.int _), nf1, r, .int 0, t, u, rfl, R, .inr (.inl ⟨0, rfl, ?_⟩)⟩
    have e : decide (u = 1 ∧ t = 0) = decide (t = 0) := by
      by_cases c : t = 0
      · have u1 : u = 1 := by
          rw [c] at cop
          simp at cop
          omega
        rw [decide_eq_true c, decide_eq_true ⟨u1, c⟩]
      · rw [decide_eq_false c, decide_eq_false fun e => c e.2]
    rw [e]
    exact k
  · refine .inl ⟨rfl, ?_⟩
    have e : decide (V.int t = V.int 0) = decide (t = 0) := by
      by_cases c : t = 0
      · rw [decide_eq_true c, c, decide_eq_true rfl]
      · rw [decide_eq_false c, decide_eq_false fun e => c (V.int.inj e)]
    rw [e]
    exact k
theorem take_cut (ys : List V) (n : Nat) : cutV ys none (some ((n : Nat) : Int)) = ys.take n := by
  unfold cutV
  rw [HT.sIx_none, HT.sIx_nat, List.drop_zero, Nat.sub_zero]
  by_cases h : n ≤ ys.length
  · rw [Nat.min_eq_left h]
  · rw [Nat.min_eq_right (by omega), List.take_of_length_le (by simp), List.take_of_length_le (by omega)]
theorem RatAt.but {C D : Addr} {H H' : Hp} {x y dy : Addr} {t u : Int} (hy : H y = some (.ins D dy [])) (b : But y H H') (h : RatAt C H x t u) : RatAt C H' x t u := by
  obtain ⟨dx, h⟩ := h
  refine ⟨dx, b _ _ h fun e => ?_⟩
  rw [e, hy] at h
  have e2 : rfl_ t u = [] := by
    injection (Option.some.inj h) with _ _ e3
    exact e3.symm
  have := rf_top t u
  rw [e2] at this
  cases this
theorem FldAt.but {C D : Addr} {H H' : Hp} {x y dy : Addr} {p : Int} (hy : H y = some (.ins D dy [])) (b : But y H H') (h : FldAt C H x p) : FldAt C H' x p := by
  obtain ⟨dx, h⟩ := h
  refine ⟨dx, b _ _ h fun e => ?_⟩
  rw [e, hy] at h
  have e2 : pfl p = [] := by
    injection (Option.some.inj h) with _ _ e3
    exact e3.symm
  have := pf_prime p
  rw [e2] at this
  cases this
theorem FN.but {C D : Addr} {H H' : Hp} {y dy : Addr} {p t u : Int} {v : V} (hy : H y = some (.ins D dy [])) (b : But y H H') (h : FN C H p v t u) : FN C H' p v t u := by
  rcases h with ⟨p0, ⟨r, e, R⟩, a, c⟩ | h
  · exact .inl ⟨p0, ⟨r, e, R.but hy b⟩, a, c⟩
  · exact .inr h
theorem FNs.but {C D : Addr} {H H' : Hp} {y dy : Addr} {p : Int} {ys : List V} {prs : List (Int × Int)} (hy : H y = some (.ins D dy [])) (b : But y H H') (h : FNs C H p ys prs) : FNs C H' p ys prs := ⟨h.len, fun i z pr e1 e2 => (h.at_ i z pr e1 e2).but hy b⟩
def spPolyInit (K : PySem.W.Frag) (C CP CF CRd CNP : Addr) : Sp := fun vs H Q E => ∃ (y dy x : Addr) (p : Int) (v : V) (o : Option (List (Option (Int × Int)))), vs = [.ref y, .ref x, v] ∧ H y = some (.ins CP dy []) ∧ FldAt CF H x p ∧ goodP p = true ∧ NotC K H v CRd ∧ RowIn K C H p 100 v o ∧
  (o = none → ∀ H', Same H H' → ∀ d, H' d = none → E (.ref CNP) (some d) (upd H' d (fldAt "place" (.int (-1))))) ∧
  (∀ os, o = some os → (pre os).length < os.length → ∀ H', Same H H' → ∀ d, H' d = none → E (.ref CNP) (some d) (upd H' d (fldAt "place" (.int ((pre os).length : Nat))))) ∧
  (∀ os, o = some os → (pre os).length = os.length → ∀ H', But y H H' → Pol C CP CF H' y p (trimP (pre os)) → Q .non H')
section
variable {P : Program} {w : World} {K : PySem.W.Frag} {mg : Str → Option Value} {base : Heap}
theorem sc_row : FnScope ["field", "coefficients", "numbers"] ["field", "coefficients"] (defScope s_row) := ⟨rfl, rfl, rfl, by decide +kernel, rfl, by decide +kernel, by decide +kernel⟩
theorem ok_row {f C CF CP CRd CNP fNP fseq ftaken : Addr} {fd fdNP fdseq fdtaken : FuncData} {mc v100 : Value} (F : Fun K "_row" "_row" s_row f fd) (B : QTx mg) (m_Rd : mg "Ready" = some (.ref CRd)) (m_P : mg "Poly" = some (.ref CP)) (m_NP : mg "NoPoly" = some (.ref CNP))
    (NP : NTxF K "place" CNP fNP) (G_NP : FnOk P w K mg base CX0 1 fNP fdNP ["self", "place"] (spFInit "place" CNP)) (b_NP : Binds K fdNP ["self", "place"] []) (rd : CRead K CP mc) (cv : CVal K CP mc "MOST" (.int 100) v100)
    (G_seq : FnOk P w K mg base CX0 1 fseq fdseq ["value"] (spSeq K)) (m_seq : mg "is_a_sequence" = some (.ref fseq)) (k_seq : PySem.W.keepIn K (.ref fseq) = true) (b_seq : Binds K fdseq ["value"] [])
    (G_taken : FnOk P w K mg base CX0 9 ftaken fdtaken ["field", "values"] (spTaken K C CF)) (m_taken : mg "taken" = some (.ref ftaken)) (k_taken : PySem.W.keepIn K (.ref ftaken) = true) (b_taken : Binds K fdtaken ["field", "values"] []) : FnOk P w K mg base (L2.CX P w) 10 f fd ["field", "coefficients"] (spRow K C CF CRd CNP) := by
  refine F.okX sc_row (fun vs H Q E h => ?_) (fun cdv A outer s H vs Q E hr h => ?_)
  · obtain ⟨x, p, v, o, rfl, _⟩ := h
    rfl
  · obtain ⟨x, p, v, o, rfl, hx, hg, ⟨t, ty, kt⟩, hv, kN, kS, kY⟩ := h
    refine ⟨_, (pss_cons (ps_if (pt_val (pe_callB call_isi (by rfl) B.b_isinstance (by decide +kernel) (pa_cons (pv 1) (pa_cons (pe_glob (v := .ref CRd) rfl m_Rd rfl) pa_nil)))) (pss_one ps_never) pss_nil)
      (pss_cons (ps_if (PW.pt (pw_or (pt_not (pt_val (pe_call G_seq (hr.mono (by decide)) rfl m_seq k_seq b_seq .nil pass0 (pa_cons (pv 1) pa_nil)))) (pw_or1 (pt_cmpR op_gt (pe_callB call_len_seq (by rfl) B.b_len (by decide +kernel) (pa_cons (pv 1) pa_nil)) (pe_cval (pe_glob (v := .ref CP) rfl m_P rfl)) (nomark _))))) (pss_one (ps_raise rfl (takes_of rfl rfl rfl rfl) (pmk_oex NP.oex NP.iC NP.tI G_NP (hr.mono (by decide)) b_NP .nil pass0 rfl m_NP (pa_cons (pe_un un_neg pe_int) pa_nil)))) pss_nil)
      (pss_cons (ps_set (i := 2) sc_row.nd rfl (Or.inl rfl) (pe_call G_taken (hr.mono (by decide)) rfl m_taken k_taken b_taken .nil pass0 (pa_cons (pv 0) (pa_cons (pv 1) pa_nil))))
      (pss_cons (ps_if (pt_cmpR op_lt (pe_callB call_len_seq (by rfl) B.b_len (by decide +kernel) (pa_cons (pv 2) pa_nil)) (pe_callB call_len_seq (by rfl) B.b_len (by decide +kernel) (pa_cons (pv 1) pa_nil)) (nomark _)) (pss_one (ps_raise rfl (takes_of rfl rfl rfl rfl) (pmk_oex NP.oex NP.iC NP.tI G_NP (hr.mono (by decide)) b_NP .nil pass0 rfl m_NP (pa_cons (pe_callB call_len_seq (by rfl) B.b_len (by decide +kernel) (pa_cons (pv 2) pa_nil)) pa_nil)))) pss_nil)
      (pss_one (ps_ret (pv 2))))))), ?_⟩
    refine ⟨_, rfl, _, _, _, _, false, rfl, .own CRd, ty, kt, _, rfl, iteF ?_⟩
    cases hv with
    | no h =>
      refine ⟨_, rfl, v, false, rfl, h, fun H1 s1 => ⟨_, rfl, iteT ?_⟩⟩
      exact ⟨_, rfl, by decide, mkO_readF (kN rfl H1 s1)⟩
    | @long l xs h n =>
      refine ⟨_, rfl, _, true, rfl, h.isQ, fun H1 s1 => ⟨_, rfl, iteF ?_⟩⟩
      have h1 := h.same s1
      refine ⟨_, rfl, l, xs, rfl, h1.imp SqL.of SqT.of, CP, mc, _, _, rfl, rd, cv, _, _, rfl, rfl, _, rfl, ?_⟩
      refine itD (decide_eq_true (by omega)) ?_
      exact ⟨_, rfl, by decide, mkO_readF (kN rfl H1 s1)⟩
    | @row l xs os h n g =>
      refine ⟨_, rfl, _, true, rfl, h.isQ, fun H1 s1 => ⟨_, rfl, iteF ?_⟩⟩
      have h1 := h.same s1
      refine ⟨_, rfl, l, xs, rfl, h1.imp SqL.of SqT.of, CP, mc, _, _, rfl, rd, cv, _, _, rfl, rfl, _, rfl, ?_⟩
      refine itDn (by simp; omega) ?_
      refine ⟨_, rfl, _, rfl, x, l, p, xs, os, rfl, hx.same s1, hg, h1, by omega, g.same s1, fun q ys H2 s2 hq fn => ?_⟩
      have h2 := h1.same s2
      refine ⟨_, rfl, q, ys, rfl, .inl (SqL.of hq), _, rfl, l, xs, rfl, h2.imp SqL.of SqT.of, _, _, rfl, rfl, _, rfl, ?_⟩
      have e1 : ys.length = (pre os).length := fn.len
      have e2 := g.len
      have e3 := pre_le os
      by_cases c : (pre os).length = os.length
      · refine itDn (by simp; omega) ⟨_, rfl, kY os rfl c q ys H2 (s1.trans s2) hq fn⟩
      · refine itD (decide_eq_true (by omega)) ?_
        refine ⟨_, rfl, q, ys, rfl, .inl (SqL.of hq), (by show 1 ≤ 1000; decide), mkO_readF ?_⟩
        rw [e1]
        exact kS os rfl (by omega) H2 (s1.trans s2)
theorem sc_pinit : FnScope ["self", "field", "coefficients", "row", "many"] ["self", "field", "coefficients"] (defScope s_pinit) := ⟨rfl, rfl, rfl, by decide +kernel, rfl, by decide +kernel, by decide +kernel⟩
theorem ok_pinit {f C CF CP CRd CNP frow feq : Addr} {fd fdrow fdeq : FuncData} (F : Fun K "__init__" "Poly.__init__" s_pinit f fd) (B : QTx mg) (TP : PTx K CP)
    (O_eq : OwnOp K C feq "__eq__") (nf1 : PySem.W.notFirst K C (.type "int") = true) (G_eq : FnOk P w K mg base CX0 2 feq fdeq ["self", "other"] (spR_eq K C)) (b_eq : Binds K fdeq ["self", "other"] [])
    (G_row : FnOk P w K mg base (L2.CX P w) 10 frow fdrow ["field", "coefficients"] (spRow K C CF CRd CNP)) (m_row : mg "_row" = some (.ref frow)) (k_row : PySem.W.keepIn K (.ref frow) = true) (b_row : Binds K fdrow ["field", "coefficients"] []) : FnOk P w K mg base (L2.CX P w) 11 f fd ["self", "field", "coefficients"] (spPolyInit K C CP CF CRd CNP) := by
  refine F.okX sc_pinit (fun vs H Q E h => ?_) (fun cdv A outer s H vs Q E hr h => ?_)
  · obtain ⟨y, dy, x, p, v, o, rfl, _⟩ := h
    rfl
  · obtain ⟨y, dy, x, p, v, o, rfl, hy0, hx, hg, hv, ri, kN, kS, kY⟩ := h
    refine ⟨_, (pss_cons (ps_set (i := 3) sc_pinit.nd rfl (Or.inl rfl) (pe_call (E := E) G_row (hr.mono (by decide)) rfl m_row k_row b_row .nil (passes_call (takes_of rfl rfl rfl rfl) fun _ _ _ _ h => h) (pa_cons (pv 1) (pa_cons (pv 2) pa_nil))))
      (pss_cons (ps_set (i := 4) sc_pinit.nd rfl (Or.inl rfl) (pe_callB call_len_seq (by rfl) B.b_len (by decide +kernel) (pa_cons (pv 3) pa_nil)))
      (C8.pss_cut (ps_while (passes_of rfl) (PW.pt (pw_and (pt_cmpR op_gt (pv 4) pe_int (nomark _)) (pw_and1 (pt_cmpR (op_or op_eq (op_ownEq O_eq G_eq (hr.mono (by decide)) b_eq pass0)) (pe_ix ix_list (pv 3) (pe_op op_sub (pv 4) pe_int) (fun _ _ => rfl)) pe_int (nomark _)))))
          (pss_one (ps_set (i := 4) sc_pinit.nd rfl (Or.inl rfl) (pe_op op_sub (pv 4) pe_int))))
      (pss_cons (ps_fld (pv 0) (pv 1) rfl)
      (pss_cons (ps_fld (pv 0) (pe_callTy call_tuple_of (by rfl) B.b_tuple (by decide +kernel) (pa_cons (pe_slice sl_list (pv 3) po_none (po_some (pv 4))) pa_nil)) rfl)
      (pss_one (ps_fld (pv 0) (pe_op op_sub (pv 4) pe_int) rfl))))))), ?_⟩
    refine ⟨_, rfl, _, rfl, x, p, v, o, rfl, hx, hg, hv, ri, kN, kS, fun os eo ec q ys H1 s1 hq fn => ?_⟩
    have hy1 := s1 _ _ hy0
    refine ⟨_, rfl, q, ys, rfl, .inl (SqL.of hq), ?_⟩
    refine ⟨fun σ H' => H' = H1 ∧ ∃ n : Nat, σ = [some (.ref y), some (.ref x), some v, some (.ref q), some (.int (n : Int))] ∧ n ≤ ys.length ∧ (pre os).take n = trimP (pre os), ?_, ?_⟩
    · refine while_go (fun σ H' => H' = H1 ∧ ∃ n : Nat, σ = [some (.ref y), some (.ref x), some v, some (.ref q), some (.int (n : Int))] ∧ n ≤ ys.length ∧ trimP ((pre os).take n) = trimP (pre os)) (fun σ _ => match σ with | [_, _, _, _, some (.int n)] => n.natAbs | _ => 0) ⟨rfl, ys.length, rfl, Nat.le_refl _, by rw [fn.len, List.take_length]⟩ ?_
      · rintro σ H' ⟨rfl, n, rfl, hn, ht⟩
        refine ⟨_, rfl, _, _, rfl, rfl, _, rfl, ?_⟩
        refine ite2 (fun c => ?_) (fun c => ?_)
        · have n0 : 0 < n := by
            have := of_decide_eq_true c
            omega
          have li : n - 1 < ys.length := by omega
          have lp : n - 1 < (pre os).length := by rw [← fn.len]; exact li
          have f := fn.at_ (n - 1) _ _ (List.getElem?_eq_getElem li) (List.getElem?_eq_getElem lp)
          have tk : (pre os).take n = (pre os).take (n - 1) ++ [(pre os)[n - 1]] := by
            have := take_more (List.getElem?_eq_getElem lp)
            rw [show n - 1 + 1 = n by omega] at this
            exact this
          refine ⟨_, rfl, _, rfl, _, _, rfl, rfl, q, ys, _, _, rfl, rfl, SqL.of hq, at_of (j := n - 1) (by omega) (List.getElem?_eq_getElem li), fn_eq0 nf1 f ⟨_, rfl, ?_⟩⟩
          generalize (pre os)[n - 1] = a at *
          by_cases z : a.1 = 0
          · refine itD (decide_eq_true z) ?_
            refine ⟨fun σ' H'' => H'' = H' ∧ σ' = [some (.ref y), some (.ref x), some v, some (.ref q), some (.int (((n - 1 : Nat)) : Int))], fun σ' H'' ⟨e1, e2⟩ => ⟨n - 1, ?_, ?_, e1, n - 1, e2, by omega, ?_⟩, ?_⟩
            · show n - 1 < ((n : Int)).natAbs
              omega
            · rw [e2]
              show n - 1 = (((n - 1 : Nat)) : Int).natAbs
              omega
            · rw [← ht, tk, trimP_zero z]
            · have : ((n : Int) - 1) = ((n - 1 : Nat) : Int) := by omega
              refine ⟨_, rfl, _, _, rfl, rfl, rfl, ?_⟩
              rw [← this]
              rfl
          · refine itDn (by simpa using z) ?_
            exact ⟨rfl, n, rfl, hn, by rw [← ht, tk, trimP_keep z]⟩
        · have n0 : n = 0 := by
            have : ¬ ((n : Int) > 0) := fun e => c (decide_eq_true e)
            omega
          subst n0
          exact ⟨rfl, 0, rfl, hn, by rw [← ht]; rfl⟩
    · rintro σ H' ⟨rfl, n, rfl, hn, ht⟩
      refine ⟨_, rfl, _, rfl, y, CP, dy, [], rfl, hy1, TP.cl, TP.nF, (by show 0 < 1000; decide), ?_⟩
      have bt : But y H (upd H' y (.ins CP dy (putF "field" (.ref x) []))) := (Same.but s1).upd
      have hqy : q ≠ y := fun e => by
        rw [e, hy1] at hq
        cases hq
      refine ⟨_, rfl, _, rfl, _, rfl, q, ys, rfl, SqL.of ((upd_ne hqy).trans hq), fun sl hsl => ?_⟩
      rw [take_cut] at *
      have hy2 : upd H' y (.ins CP dy (putF "field" (.ref x) [])) y = some (.ins CP dy (putF "field" (.ref x) [])) := upd_same
      have b2 : But y H' (upd H' y (.ins CP dy (putF "field" (.ref x) []))) := (But.refl y H').upd
      generalize upd H' y (.ins CP dy (putF "field" (.ref x) [])) = H2 at *
      have n1 : y ≠ sl := ne_of_none hy2 hsl
      have hy3 : upd H2 sl (.lst (ys.take n)) y = some (.ins CP dy (putF "field" (.ref x) [])) := (upd_ne n1).trans hy2
      have b3 : But y H' (upd H2 sl (.lst (ys.take n))) := b2.new hsl
      have hs3 : upd H2 sl (.lst (ys.take n)) sl = some (.lst (ys.take n)) := upd_same
      generalize upd H2 sl (.lst (ys.take n)) = H3 at *
      refine ⟨sl, _, rfl, .inl ⟨SqL.of hs3, fun tp htp => ?_⟩⟩
      have n2 : y ≠ tp := ne_of_none hy3 htp
      have hy4 : upd H3 tp (.tup (ys.take n)) y = some (.ins CP dy (putF "field" (.ref x) [])) := (upd_ne n2).trans hy3
      have b4 : But y H' (upd H3 tp (.tup (ys.take n))) := b3.new htp
      have ht4 : upd H3 tp (.tup (ys.take n)) tp = some (.tup (ys.take n)) := upd_same
      generalize upd H3 tp (.tup (ys.take n)) = H4 at *
      refine ⟨_, rfl, y, CP, dy, _, rfl, hy4, TP.cl, TP.nC, (by show 1 < 1000; decide), ?_⟩
      refine ⟨_, rfl, _, _, rfl, rfl, _, rfl, y, CP, dy, _, rfl, upd_same, TP.cl, TP.nD, (by show 2 < 1000; decide), ?_⟩
      have ln : (trimP (pre os)).length = n := by
        rw [← ht, List.length_take, ← fn.len]
        omega
      have bF := (b4.upd (o := .ins CP dy (putF "coefficients" (.ref tp) (putF "field" (.ref x) [])))).upd (o := .ins CP dy (putF "degree" (.int ((n : Int) - 1)) (putF "coefficients" (.ref tp) (putF "field" (.ref x) []))))
      refine kY os eo ec _ ((Same.but s1).trans bF) ⟨dy, x, tp, ys.take n, ?_, ?_, ?_, ?_⟩
      · rw [ln]
        exact upd_same
      · exact (hx.same s1).but hy1 bF
      · exact (upd_ne n2.symm).trans ((upd_ne n2.symm).trans ht4)
      · rw [← ht]
        exact (fn.take n).but hy1 bF
end
end Sq

namespace Sq
open PySem L2 PyProof.Rows
/-! ### arithmetic of pairs -/
def shr (t u : Int) : Int := if u < 0 then -((Int.gcd t u : Nat) : Int) else ((Int.gcd t u : Nat) : Int)
def lowp (t u : Int) : Int × Int := (t.fdiv (shr t u), u.fdiv (shr t u))
theorem low_lowp (t : Int) {u : Int} (h : u ≠ 0) : Low t u (lowp t u).1 (lowp t u).2 := by
  unfold lowp shr
  by_cases c : u < 0
  · rw [if_pos c]
    exact low_of h (.inr ⟨rfl, c⟩)
  · rw [if_neg c]
    exact low_of h (.inl ⟨rfl, by omega⟩)
theorem low_is {a b t u : Int} (hb : b ≠ 0) (L : Low a b t u) : (t, u) = lowp a b := by
  have := (low_eq hb hb L (low_lowp a hb)).mpr rfl
  rw [this.1, this.2]
def npair (p t u : Int) : Int × Int := if p = 0 then lowp t u else (t % p, 1)
def timesP (p : Int) (a b : Int × Int) : Int × Int := npair p (a.1 * b.1) (a.2 * b.2)
def plusP (p : Int) (a b : Int × Int) : Int × Int := npair p (a.1 * b.2 + b.1 * a.2) (a.2 * b.2)
def horner (p : Int) (x : Int × Int) (prs : List (Int × Int)) : Int × Int := prs.foldr (fun c acc => plusP p (timesP p acc x) c) (0, 1)
def Bd (n : Nat) (a : Int × Int) : Prop := a.1.natAbs < 2 ^ n ∧ a.2.natAbs < 2 ^ n
theorem Bd.le {n m : Nat} {a : Int × Int} (h : Bd n a) (l : n ≤ m) : Bd m a := ⟨Nat.lt_of_lt_of_le h.1 (Nat.pow_le_pow_right (by decide) l), Nat.lt_of_lt_of_le h.2 (Nat.pow_le_pow_right (by decide) l)⟩
theorem Bd.fit {n : Nat} {a : Int × Int} (h : Bd n a) (l : n ≤ 1500) : Fit a.1 ∧ Fit a.2 := h.le l
theorem npair_bd {n : Nat} {t u : Int} (hu : u ≠ 0) (ht : t.natAbs < 2 ^ n) (hv : u.natAbs < 2 ^ n) : Bd n (npair 0 t u) := by
  unfold npair
  rw [if_pos rfl]
  have L := low_lowp t hu
  exact ⟨Nat.lt_of_le_of_lt L.lt ht, Nat.lt_of_le_of_lt L.lu hv⟩
theorem npair_pos {t u : Int} (hu : u ≠ 0) : 1 ≤ (npair 0 t u).2 := by
  unfold npair
  rw [if_pos rfl]
  exact (low_lowp t hu).pos
theorem times_bd {n m : Nat} {a b : Int × Int} (ha : Bd n a) (hb : Bd m b) (pa : 1 ≤ a.2) (pb : 1 ≤ b.2) : Bd (n + m) (timesP 0 a b) := npair_bd (mul_ne (by omega) (by omega)) (wide_lt ha.1 hb.1) (wide_lt ha.2 hb.2)
theorem plus_bd {n m : Nat} {a b : Int × Int} (ha : Bd n a) (hb : Bd m b) (pa : 1 ≤ a.2) (pb : 1 ≤ b.2) : Bd (n + m + 1) (plusP 0 a b) := by
  have h1 : (a.1 * b.2).natAbs < 2 ^ (n + m) := wide_lt ha.1 hb.2
  have h2 : (b.1 * a.2).natAbs < 2 ^ (n + m) := by
    rw [Nat.add_comm]
    exact wide_lt hb.1 ha.2
  refine npair_bd (mul_ne (by omega) (by omega)) ?_ (Nat.lt_of_lt_of_le (wide_lt ha.2 hb.2) (Nat.pow_le_pow_right (by decide) (by omega)))
  rw [Nat.pow_succ]
  omega
/-- a number before it is taken into the field -/
def Raw (C : Addr) (H : Hp) (p : Int) (v : V) (s : Int × Int) : Prop := (p = 0 ∧ FN C H p v s.1 s.2) ∨ (p ≠ 0 ∧ ∃ n, v = .int n ∧ n % p = s.1 ∧ s.2 = 1 ∧ n.natAbs < 2 ^ 60)
theorem Raw.same {C : Addr} {H H' : Hp} {p : Int} {v : V} {a : Int × Int} (s : Same H H') (h : Raw C H p v a) : Raw C H' p v a := h.imp (fun ⟨a, b⟩ => ⟨a, b.same s⟩) id
theorem fit60 {n : Int} (h : n.natAbs < 2 ^ 60) : Fit n := Nat.lt_of_lt_of_le h (Nat.pow_le_pow_right (by decide) (by decide))
def nrm (p i : Int) : Int := if p = 0 then i else i % p
theorem giv_int {K : PySem.W.Frag} {C : Addr} {H : Hp} {p i : Int} (hg : goodP p = true) (h : Fit i) : Giv K C H p (.int i) (some (nrm p i, 1)) := by
  refine ⟨i, 1, .inr ⟨rfl, rfl⟩, by decide, h, fit_one, fun p0 => ⟨by unfold nrm; rw [if_pos p0], Int.gcd_one_right _⟩, fun p0 => ?_⟩
  obtain ⟨p2, _, _⟩ := goodP_pos hg p0
  have e : nrm p i = i % p := if_neg p0
  refine ⟨by rw [Int.emod_eq_of_lt (by decide) (by omega)]; decide, rfl, ?_, ?_, ?_⟩
  · show 0 ≤ nrm p i
    rw [e]
    exact Int.emod_nonneg _ p0
  · show nrm p i < p
    rw [e]
    exact Int.emod_lt_of_pos _ (by omega)
  · show ∃ k, nrm p i * 1 = i + k * p
    rw [e, Int.mul_one]
    refine ⟨-(i / p), ?_⟩
    have := Int.emod_def i p
    rw [this, Int.neg_mul, Int.mul_comm p]
    omega
theorem giv_fn {K : PySem.W.Frag} {C : Addr} {H : Hp} {p t u : Int} {v : V} (hg : goodP p = true) (h : FN C H p v t u) (ht : Fit t) (hu : Fit u) : Giv K C H p v (some (t, u)) := by
  refine ⟨t, u, h.num, h.pos, ht, hu, fun p0 => ?_, fun p0 => ?_⟩
  · rcases h with ⟨_, _, _, c⟩ | ⟨q, _⟩
    · exact ⟨rfl, c⟩
    · exact absurd p0 q
  · rcases h with ⟨q, _⟩ | ⟨_, _, u1, a, b⟩
    · exact absurd q p0
    · obtain ⟨p2, _, _⟩ := goodP_pos hg p0
      refine ⟨by rw [u1, Int.emod_eq_of_lt (by decide) (by omega)]; decide, u1, a, b, 0, ?_⟩
      rw [u1]
      omega
theorem giv_raw {K : PySem.W.Frag} {C : Addr} {H : Hp} {p : Int} {v : V} {a : Int × Int} (hg : goodP p = true) (h : Raw C H p v a) (f : p = 0 → Fit a.1 ∧ Fit a.2) : Giv K C H p v (some a) := by
  rcases h with ⟨p0, h⟩ | ⟨p0, n, rfl, e, e1, b⟩
  · exact giv_fn hg h (f p0).1 (f p0).2
  · have := giv_int (K := K) (C := C) (H := H) hg (fit60 b)
    have e2 : nrm p n = a.1 := by
      unfold nrm
      rw [if_neg p0]
      exact e
    rw [e2] at this
    have e3 : a = (a.1, 1) := by rw [← e1]
    rw [e3]
    exact this
theorem num_go {K : PySem.W.Frag} {C CF CNN x : Addr} {H : Hp} {p : Int} {v : V} {a : Int × Int} {Q : VK} {E : XK} (hx : FldAt CF H x p) (hg : goodP p = true) (gv : Giv K C H p v (some a)) (k : ∀ y H', Same H H' → FN C H' p y a.1 a.2 → Q y H') : spNum K C CF CNN [.ref x, v] H Q E := by
  obtain ⟨t, u, n, pu, st, su, h0, hp⟩ := gv
  refine ⟨x, v, p, rfl, hx, hg, .inr ⟨t, u, n, pu, fit_up st, fit_up su, fun p0 r H3 R s3 => ?_, fun p0 up => absurd up (hp p0).1, fun p0 up r H3 r0 r1 ⟨kk, hk⟩ s3 => ?_⟩⟩
  · obtain ⟨rfl, cop⟩ := h0 p0
    exact k (.ref r) H3 s3 (.inl ⟨p0, ⟨r, rfl, R⟩, pu, cop⟩)
  · obtain ⟨_, a2, a0, a1, k2, hk2⟩ := hp p0
    have e := num_uniq hg p0 up r0 r1 a0 a1 hk hk2
    exact k (.int r) H3 s3 (.inr ⟨p0, by rw [e], a2, a0, a1⟩)
theorem num_no {K : PySem.W.Frag} {C CF CNN x : Addr} {H : Hp} {p : Int} {v : V} {Q : VK} {E : XK} (hx : FldAt CF H x p) (hg : goodP p = true) (gv : Giv K C H p v none) (k : E (.ref CNN) none H) : spNum K C CF CNN [.ref x, v] H Q E := by
  rcases gv with g | ⟨t, u, n, pu, st, su, p0, um⟩
  · exact ⟨x, v, p, rfl, hx, hg, .inl ⟨g, k⟩⟩
  · exact ⟨x, v, p, rfl, hx, hg, .inr ⟨t, u, n, pu, fit_up st, fit_up su, fun h => absurd h p0, fun _ _ => k, fun _ h => absurd um h⟩⟩
theorem prime_lt {p : Int} (hg : goodP p = true) (p0 : p ≠ 0) : 2 ≤ p ∧ p ≤ 9973 := ⟨(goodP_pos hg p0).1, (goodP_pos hg p0).2.1⟩
theorem mul_lt60 {p a b : Int} (hg : goodP p = true) (p0 : p ≠ 0) (a0 : 0 ≤ a) (a1 : a < p) (b0 : 0 ≤ b) (b1 : b < p) : 0 ≤ a * b ∧ a * b < 100000000 := by
  have := prime_lt hg p0
  refine ⟨Int.mul_nonneg a0 b0, ?_⟩
  have h1 : a * b ≤ 9973 * b := Int.mul_le_mul_of_nonneg_right (by omega) b0
  omega
/-- a * b of two numbers of the field -/
theorem mul_fn {C : Addr} {H : Hp} {p : Int} {v w : V} {a b : Int × Int} {Q : VK} {E : XK} (hg : goodP p = true) (ha : FN C H p v a.1 a.2) (hb : FN C H p w b.1 b.2) (f : p = 0 → (Fit a.1 ∧ Fit a.2) ∧ (Fit b.1 ∧ Fit b.2))
    (k : ∀ y H', Same H H' → Raw C H' p y (timesP p a b) → (p ≠ 0 → ∀ n, y = .int n → n.natAbs < 2 ^ 50) → Q y H') : (rI CMul fun i j => .int (i * j)) v w H Q ∨ rOwn2 C (spR_mul C) E v w H Q := by
  rcases ha with ⟨p0, ⟨r, rfl, R⟩, pu, cop⟩ | ⟨p0, rfl, a2, a0, a1⟩
  · rcases hb with ⟨_, ⟨r', rfl, R'⟩, pu', cop'⟩ | ⟨q, _⟩
    · obtain ⟨d, hr⟩ := id R
      obtain ⟨d', hr'⟩ := id R'
      obtain ⟨⟨f1, f2⟩, f3, f4⟩ := f p0
      refine .inr ⟨r, r', d, d', _, _, rfl, rfl, hr, hr', r, .ref r', a.1, a.2, b.1, b.2, rfl, R, .inl ⟨r', rfl, R'⟩, pu, pu', f1, f2, f3, f4, fun z T U H' L Rz s => ?_⟩
      have e : (T, U) = timesP p a b := by
        unfold timesP npair
        rw [if_pos p0]
        exact low_is (mul_ne (by omega) (by omega)) L
      refine k _ _ s (.inl ⟨p0, ?_⟩) (fun h => absurd p0 h)
      rw [← e]
      exact .inl ⟨p0, ⟨z, rfl, Rz⟩, L.pos, L.cop⟩
    · exact absurd p0 q
  · rcases hb with ⟨q, _⟩ | ⟨_, rfl, b2, b0, b1⟩
    · exact absurd q p0
    · have m := mul_lt60 hg p0 a0 a1 b0 b1
      have := prime_lt hg p0
      refine .inl ⟨_, _, rfl, rfl, .inl ⟨by omega, by omega⟩, k _ _ (Same.refl H) (.inr ⟨p0, _, rfl, ?_, ?_, by omega⟩) (fun _ n e => by rw [← V.int.inj e]; omega)⟩
      · unfold timesP npair
        rw [if_neg p0]
      · unfold timesP npair
        rw [if_neg p0]
/-- a raw number + a number of the field -/
theorem add_fn {C : Addr} {H : Hp} {p : Int} {v w : V} {a b : Int × Int} {Q : VK} {E : XK} (hg : goodP p = true) (hv : Raw C H p v a) (hb : FN C H p w b.1 b.2) (sm : p ≠ 0 → ∀ n, v = .int n → n.natAbs < 2 ^ 50) (f : p = 0 → (Fit a.1 ∧ Fit a.2) ∧ (Fit b.1 ∧ Fit b.2))
    (k : ∀ y H', Same H H' → Raw C H' p y (plusP p a b) → Q y H') : (rI0 fun i j => .int (i + j)) v w H Q ∨ rOwn2 C (spR_add C) E v w H Q := by
  rcases hv with ⟨p0, ha⟩ | ⟨p0, n, rfl, e, e1, sb⟩
  · rcases ha with ⟨_, ⟨r, rfl, R⟩, pu, cop⟩ | ⟨q, _⟩
    · rcases hb with ⟨_, ⟨r', rfl, R'⟩, pu', cop'⟩ | ⟨q, _⟩
      · obtain ⟨d, hr⟩ := id R
        obtain ⟨d', hr'⟩ := id R'
        obtain ⟨⟨f1, f2⟩, f3, f4⟩ := f p0
        refine .inr ⟨r, r', d, d', _, _, rfl, rfl, hr, hr', r, .ref r', a.1, a.2, b.1, b.2, rfl, R, .inl ⟨r', rfl, R'⟩, pu, pu', f1, f2, f3, f4, fun z T U H' L Rz s => ?_⟩
        have e : (T, U) = plusP p a b := by
          unfold plusP npair
          rw [if_pos p0]
          exact low_is (mul_ne (by omega) (by omega)) L
        refine k _ _ s (.inl ⟨p0, ?_⟩)
        rw [← e]
        exact .inl ⟨p0, ⟨z, rfl, Rz⟩, L.pos, L.cop⟩
      · exact absurd p0 q
    · exact absurd p0 q
  · rcases hb with ⟨q, _⟩ | ⟨_, rfl, b2, b0, b1⟩
    · exact absurd q p0
    · have := prime_lt hg p0
      have s50 := sm p0 n rfl
      refine .inl ⟨_, _, rfl, rfl, k _ _ (Same.refl H) (.inr ⟨p0, _, rfl, ?_, ?_, ?_⟩)⟩
      · unfold plusP npair
        rw [if_neg p0, e1, b2, Int.mul_one, Int.mul_one]
        show (n + b.1) % p = (a.1 + b.1) % p
        rw [← e, Int.emod_add_emod]
      · unfold plusP npair
        rw [if_neg p0]
      · omega
end Sq

-- needs KE.KCallOwn
namespace Sq
open PySem L2 PyProof.Rows PySem.Calls
section
variable {M : Model} {A : Around} {E : Value → Shared → Prop} {s : Shared} {K : PySem.W.Frag} {pos : Pos} {a C : Addr} {Q : Value → Shared → Prop}
/-- an instance is called: what stands behind the arguments -/
theorem ic_with {ars : List (Bool × Sem Value)} (np : ars.any (·.1) = false)
    (h : wpAny M A (evalArgs (.ref a) true ars []) (fun w s1 => (∃ ox od, ox.data = .plain ∧ PySem.W.kco_P K a C ox od s1.heap) ∧ wpAny M A (call (.ref a) ([] ++ w.pos) w.kw) Q E s1) E s) : wpAny M A (callWith pos (.ref a) [] ars []) Q E s := by
  have hp : (ars.any (·.1) || ([] : List (Option Str × Sem Value)).any (·.1.isNone)) = false := by
    rw [np]
    rfl
  unfold callWith
  refine wpAny_bind (wpAny_holding (wpAny_mono h (fun w s1 h1 => wpAny_bind (wpAny_standAt ?_)) fun _ _ z => z))
  obtain ⟨⟨ox, od, hd, hP⟩, h2⟩ := h1
  have lk := PySem.W.kco_keeper (M := M) hP.2 hd
  simp only [hp]
  refine wpAny_bind (lk.here ?_)
  have fin : ∀ {t : Sem Value}, wpAny M A t Q E s1 → wpAny M A (t >>= fun r => holding [r] point >>= fun _ => pure r) Q E s1 := fun ht =>
    wpAny_bind (wpAny_mono ht (fun r s2 hr => wpAny_bind (wpAny_holding (wpAny_point (wpAny_pure hr)))) fun _ _ z => z)
  exact fin (wpAny_operateT h2)
end
/-- a's class answers a call by the def at f -/
structure ICall (K : PySem.W.Frag) (C f : Addr) : Prop where
  at_ : PySem.W.findIn K (.ref C) "__call__" = some (some (.ref f))
  fn : PySem.W.isFn K (.ref f) = true
  fi : PySem.W.fnIn K f = true
def tIcS (i : Nat) (C : Addr) (sp : Sp) (W : L2.St → XK) (t : TA) : TE := fun σ H Q => ∃ a, σ[i]? = some (some (.ref a)) ∧ t σ H fun vs H1 => (∃ dx fs, H1 a = some (.ins C dx fs)) ∧ sp (.ref a :: vs) H1 Q (W σ)
/-- x(..), x a local that holds an instance; what is raised is wished for at the slots -/
theorem pe_icS {X : Cx} {CX : CXT} {k i : Nat} {f C : Addr} {fd : FuncData} {ps : List Str} {sp : Sp} {W : L2.St → XK} {x : Str} {p pos : Pos} {e : Expr} {es : List Expr} {t : TA}
    (hN : X.N[i]? = some x) (hv : Vis X.env.scope x) (ic : ICall X.K C f) (G : FnOk X.prog X.w X.K X.mg X.base CX k f fd ps sp) (room : Room k X.A) (bi : Binds X.K fd ps []) (ok : ∀ σ, PassesAt CX X σ (W σ)) (ha : PA X (e :: es) t)
    (nd : (x == ("__debug__" : Str)) = false := by decide) (ncd : (x == ("__classdict__" : Str)) = false := by decide)
    (st : starEach (e :: es) X.env = (false, eval e X.env) :: starEach es X.env := by rfl) (np : (backTo pos (starEach es X.env)).any (·.1) = false := by rfl) :
    PE X (.Call (.Name x p) (e :: es) [] pos) (tIcS i C sp W t) := by
  refine ⟨fun pins s σ H Q I h => ?_⟩
  obtain ⟨a, hs, ht⟩ := h
  refine wpAny_Call_Name_kw (thn ((pe_var (pos := p) hN hv nd ncd).run pins s σ H (fun v H1 => v = .ref a ∧ H1 = H) I ⟨.ref a, hs, rfl, rfl⟩) fun u s1 ⟨v, H1, I1, r1, q1⟩ => ?_)
  obtain ⟨rfl, rfl⟩ := q1
  obtain rfl : u = Value.ref a := r1
  have args := ha.run pos pins s1 σ _ _ I1 ht
  rw [st] at args ⊢
  refine ic_with (K := X.K) (C := C) (by show (false || (backTo pos (starEach es X.env)).any (·.1)) = false; rw [np]; rfl) (evalArgs_plain (thn args fun us s2 ⟨vs, H2, I2, r, ⟨dx, fs, hi⟩, q⟩ => ?_))
  obtain ⟨od, J⟩ := inst_at I2 hi
  refine ⟨⟨_, some od, rfl, I2.kIn, J⟩, ?_⟩
  have rr : Vals (V.ref a :: vs) (Value.ref a :: us) := Paired.cons rfl r
  have hl : (Value.ref a :: us).length = ps.length := by
    rw [← rr.length]
    exact G.len _ _ _ _ q
  have b := bi s2 (Value.ref a :: us) I2.kIn (by rw [List.append_nil]; exact hl)
  rw [List.append_nil] at b
  refine wpAny_call (PySem.W.kco_code I2.kIn J rfl ic.at_ ic.fn ic.fi (codeAny_mono (G.run X.A X.stack s2 _ ⟨Value.ref a :: us, []⟩ (Value.ref a :: us) (V.ref a :: vs) Q (W σ) room I2.env0 b rr q) fun res s3 hq => ?_))
  cases res with
  | error er => exact ok σ pins _ _ er s3 I2 hq
  | ok fl =>
    cases fl with
    | ret val => exact I2.after hq
    | next => cases hq
    | brk => cases hq
    | cont => cases hq
end Sq

-- needs HandS.Rev
namespace Sq
open PySem L2 PyProof.Rows
abbrev s_pcoef : Stmt := inClass (top 41) 3
abbrev s_pat : Stmt := inClass (top 41) 4
abbrev s_pcall : Stmt := inClass (top 41) 5
/-- the coefficient of the power k -/
def pget (prs : List (Int × Int)) (k : Int) : Int × Int := prs.getD k.toNat (0, 1)
def spPCoef (K : PySem.W.Frag) (C CP CF CNC : Addr) : Sp := fun vs H Q E => ∃ (x : Addr) (p : Int) (prs : List (Int × Int)) (v : V), vs = [.ref x, v] ∧ Pol C CP CF H x p prs ∧ goodP p = true ∧ prs.length ≤ 1000000 ∧ IsTy K H v ∧ ((∀ k, v = .int k → k < 0) → E (.ref CNC) none H) ∧
  (∀ k, v = .int k → 0 ≤ k → ∀ y H', Same H H' → FN C H' p y (pget prs k).1 (pget prs k).2 → Q y H')
/-- small numbers: what the sizes ask -/
def Sml (p : Int) (prs : List (Int × Int)) : Prop := prs.length ≤ 100 ∧ (p = 0 → ∀ a ∈ prs, Bd 5 a)
def spPAt (K : PySem.W.Frag) (C CP CF CNN : Addr) : Sp := fun vs H Q E => ∃ (x : Addr) (p : Int) (prs : List (Int × Int)) (v : V) (o : Option (Int × Int)), vs = [.ref x, v] ∧ Pol C CP CF H x p prs ∧ goodP p = true ∧ Giv K C H p v o ∧ (o = none → E (.ref CNN) none H) ∧
  (∀ a, o = some a → Sml p prs ∧ (p = 0 → Bd 5 a) ∧ ∀ y H', Same H H' → FN C H' p y (horner p a prs).1 (horner p a prs).2 → Q y H')
theorem FN.in_ {C : Addr} {H : Hp} {p t u : Int} {v : V} (h : FN C H p v t u) (p0 : p ≠ 0) : v = .int t ∧ u = 1 ∧ 0 ≤ t ∧ t < p := by
  rcases h with ⟨q, _⟩ | ⟨_, r⟩
  · exact absurd q p0
  · exact r
theorem num_goT {K : PySem.W.Frag} {C CF CNN x : Addr} {H : Hp} {p : Int} {v : V} {a : Int × Int} {Q : VK} {E : XK} {σ : L2.St} (hx : FldAt CF H x p) (hg : goodP p = true) (gv : Giv K C H p v (some a)) (k : ∀ y H', Same H H' → FN C H' p y a.1 a.2 → Q y H') :
    tNil σ H fun xs H2 => (fun vs H3 => spNum K C CF CNN (.ref x :: (vs ++ [])) H3 Q E) (v :: xs) H2 := num_go hx hg gv k
theorem num_goC {K : PySem.W.Frag} {C CF CNN x : Addr} {H : Hp} {p : Int} {v : V} {a : Int × Int} {Q : VK} {E : XK} {σ : L2.St} (hx : FldAt CF H x p) (hg : goodP p = true) (gv : Giv K C H p v (some a)) (k : ∀ y H', Same H H' → FN C H' p y a.1 a.2 → Q y H') :
    tCons (tC v) tNil σ H fun vs H2 => spNum K C CF CNN (.ref x :: (vs ++ [])) H2 Q E := num_go hx hg gv k
theorem num_noT {K : PySem.W.Frag} {C CF CNN x : Addr} {H : Hp} {p : Int} {v : V} {Q : VK} {E : XK} {σ : L2.St} (hx : FldAt CF H x p) (hg : goodP p = true) (gv : Giv K C H p v none) (k : E (.ref CNN) none H) :
    tNil σ H fun xs H2 => (fun vs H3 => spNum K C CF CNN (.ref x :: (vs ++ [])) H3 Q E) (v :: xs) H2 := num_no hx hg gv k
theorem fit01 : Fit 0 := Nat.lt_of_lt_of_le (show (0 : Int).natAbs < 2 ^ 1 from by decide) (Nat.pow_le_pow_right (by decide) (by decide))
theorem nrm0 {p : Int} : nrm p 0 = 0 := by
  unfold nrm
  split
  · rfl
  · exact Int.zero_emod p
section
variable {P : Program} {w : World} {K : PySem.W.Frag} {mg : Str → Option Value} {base : Heap}
theorem sc_pcoef : FnScope ["self", "k"] ["self", "k"] (defScope s_pcoef) := ⟨rfl, rfl, rfl, by decide +kernel, rfl, by decide +kernel, by decide +kernel⟩
theorem ok_pcoef {f C CF CP CNC CNN fnum fII : Addr} {fd fdnum fdII : FuncData} (F : Fun K "coefficient" "Poly.coefficient" s_pcoef f fd) (TF : FTx K CF) (TP : PTx K CP) (RN : RNx K mg "NoCount" CNC)
    (Me_num : Meth K CF "number" fnum) (G_num : FnOk P w K mg base (L2.CX P w) 8 fnum fdnum ["self", "value"] (spNum K C CF CNN)) (b_num : Binds K fdnum ["self", "value"] [])
    (G_II : FnOk P w K mg base CX0 1 fII fdII ["value"] (spIsInt K)) (m_II : mg "is_an_integer" = some (.ref fII)) (k_II : PySem.W.keepIn K (.ref fII) = true) (b_II : Binds K fdII ["value"] []) : FnOk P w K mg base (L2.CX P w) 9 f fd ["self", "k"] (spPCoef K C CP CF CNC) := by
  refine F.okX sc_pcoef (fun vs H Q E h => ?_) (fun cdv A outer s H vs Q E hr h => ?_)
  · obtain ⟨x, p, prs, v, rfl, _⟩ := h
    rfl
  · obtain ⟨x, p, prs, v, rfl, ⟨dx, fx, ct, ys, PO⟩, hg, hl, tv, kE, kQ⟩ := h
    refine ⟨_, (pss_cons (ps_if (PW.pt (pw_or (pt_not (pt_val (pe_call G_II (hr.mono (by decide)) rfl m_II k_II b_II .nil pass0 (pa_cons (pv 1) pa_nil)))) (pw_or1 (pt_cmpR op_lt (pv 1) pe_int (nomark _))))) (pss_one (ps_raise rfl (takes_of rfl rfl rfl rfl) (pmk_own0 PySem.F.excBase_ValueError RN.q RN.m RN.k (raises_own RN.ex RN.ty) rfl))) pss_nil)
      (pss_cons (ps_if (pt_cmpR op_gt (pv 1) (pe_fld (pv 0) rfl) (nomark _)) (pss_one (ps_ret (pe_meth (E := fun _ _ _ => False) (pe_fld (pv 0) rfl) TF.cl Me_num G_num (hr.mono (by decide)) b_num .nil passL (pa_cons pe_int pa_nil)))) pss_nil)
      (pss_one (ps_ret (pe_ix ix_tup (pe_fld (pv 0) rfl) (pv 1) (fun _ _ => rfl)))))), ?_⟩
    refine ⟨_, rfl, v, rfl, tv, _, rfl, ?_⟩
    cases ev : isI v with
    | false => exact iteT (kE fun k e => by rw [e] at ev; cases ev)
    | true =>
      obtain ⟨k, rfl⟩ := isI_int ev
      refine iteF ⟨_, rfl, _, _, rfl, rfl, _, rfl, ?_⟩
      by_cases c0 : k < 0
      · exact itD (decide_eq_true c0) (kE fun k' e => by cases e; exact c0)
      · refine itDn (by simpa using c0) ?_
        refine ⟨_, rfl, _, rfl, x, CP, dx, _, _, rfl, PO.ob, TP.cl, TP.nD, plf_deg _ _ _, _, _, rfl, rfl, _, rfl, ?_⟩
        by_cases c1 : k > (prs.length : Int) - 1
        · refine itD (decide_eq_true c1) ?_
          obtain ⟨df, hf⟩ := id PO.fl
          refine ⟨_, rfl, x, CP, dx, _, _, rfl, PO.ob, TP.cl, TP.nF, plf_field _ _ _, fx, df, _, rfl, hf, pf_no _ (by decide +kernel), num_goC PO.fl hg (giv_int hg fit01) fun y H1 s1 fn => ?_⟩
          refine kQ k rfl (by omega) y H1 s1 ?_
          have e : pget prs k = (0, 1) := by
            unfold pget
            rw [List.getD_eq_getElem?_getD, List.getElem?_eq_none (by omega)]
            rfl
          rw [e]
          rw [nrm0] at fn
          exact fn
        · refine itDn (by simpa using c1) ?_
          have lk : k.toNat < prs.length := by omega
          have ly : k.toNat < ys.length := by rw [PO.nu.len]; exact lk
          refine ⟨_, rfl, x, CP, dx, _, _, rfl, PO.ob, TP.cl, TP.nC, plf_coef _ _ _, _, rfl, _, _, _, _, rfl, rfl, SqT.of PO.co, at_of (j := k.toNat) (by omega) (List.getElem?_eq_getElem ly), ?_⟩
          refine kQ k rfl (by omega) _ _ (Same.refl H) ?_
          have e : pget prs k = prs[k.toNat] := by
            unfold pget
            rw [List.getD_eq_getElem?_getD, List.getElem?_eq_getElem lk]
            rfl
          rw [e]
          exact PO.nu.at_ _ _ _ (List.getElem?_eq_getElem ly) (List.getElem?_eq_getElem lk)
theorem sc_pat : FnScope ["self", "x", "number", "value", "coefficient"] ["self", "x"] (defScope s_pat) := ⟨rfl, rfl, rfl, by decide +kernel, rfl, by decide +kernel, by decide +kernel⟩
theorem ok_pat {f C CF CP CNN fnum fmul fadd : Addr} {fd fdnum fdmul fdadd : FuncData} (F : Fun K "at" "Poly.at" s_pat f fd) (TF : FTx K CF) (TP : PTx K CP) (b_reversed : mg "reversed" = none)
    (Me_num : Meth K CF "number" fnum) (G_num : FnOk P w K mg base (L2.CX P w) 8 fnum fdnum ["self", "value"] (spNum K C CF CNN)) (b_num : Binds K fdnum ["self", "value"] []) (sf0 : PySem.W.selfFirst K C = true)
    (O_mul : OwnOp K C fmul (PySem.dunder Operator.Mult.info.2)) (G_mul : FnOk P w K mg base CX0 6 fmul fdmul ["self", "other"] (spR_mul C)) (b_mul : Binds K fdmul ["self", "other"] [])
    (O_add : OwnOp K C fadd (PySem.dunder Operator.Add.info.2)) (G_add : FnOk P w K mg base CX0 6 fadd fdadd ["self", "other"] (spR_add C)) (b_add : Binds K fdadd ["self", "other"] []) : FnOk P w K mg base (L2.CX P w) 9 f fd ["self", "x"] (spPAt K C CP CF CNN) := by
  refine F.okX sc_pat (fun vs H Q E h => ?_) (fun cdv A outer s H vs Q E hr h => ?_)
  · obtain ⟨x, p, prs, v, o, rfl, _⟩ := h
    rfl
  · obtain ⟨x, p, prs, v, o, rfl, ⟨dx, fx, ct, ys, PO⟩, hg, gv, kE, kQ⟩ := h
    refine ⟨_, (pss_cons (ps_set (i := 2) sc_pat.nd rfl (Or.inl rfl) (pe_meth (E := E) (pe_fld (pv 0) rfl) TF.cl Me_num G_num (hr.mono (by decide)) b_num .nil (passes_call (takes_of rfl rfl rfl rfl) fun _ _ _ _ h => h) (pa_cons (pv 1) pa_nil)))
      (pss_cons (ps_set (i := 3) sc_pat.nd rfl (Or.inl rfl) (pe_meth (E := fun _ _ _ => False) (pe_fld (pv 0) rfl) TF.cl Me_num G_num (hr.mono (by decide)) b_num .nil passL (pa_cons pe_int pa_nil)))
      (pss_cons (ps_for (passes_of rfl) rfl (RT.pi_revA (by rfl) b_reversed (pe_fld (pv 0) rfl)) (pg_name (i := 4) sc_pat.nd rfl (Or.inl rfl)) (pss_one (ps_set (i := 3) sc_pat.nd rfl (Or.inl rfl) (pe_meth (E := fun _ _ _ => False) (pe_fld (pv 0) rfl) TF.cl Me_num G_num (hr.mono (by decide)) b_num .nil passL (pa_cons (pe_op (op_or op_add (op_own2 (op := .Add) sf0 O_add G_add (hr.mono (by decide)) b_add pass0)) (pe_op (op_or op_mul (op_own2 (op := .Mult) sf0 O_mul G_mul (hr.mono (by decide)) b_mul pass0)) (pv 3) (pv 2)) (pv 4)) pa_nil)))))
      (pss_one (ps_ret (pv 3)))))), ?_⟩
    obtain ⟨df, hf⟩ := id PO.fl
    refine ⟨_, rfl, x, CP, dx, _, _, rfl, PO.ob, TP.cl, TP.nF, plf_field _ _ _, fx, df, _, rfl, hf, pf_no _ (by decide +kernel), _, rfl, ?_⟩
    cases o with
    | none => exact num_noT PO.fl hg gv (kE rfl)
    | some a =>
      obtain ⟨⟨l100, b5⟩, ba, kR⟩ := kQ a rfl
      refine num_goT PO.fl hg gv fun y0 H1 s1 fa => ?_
      have PO1 := PO.same s1
      obtain ⟨df1, hf1⟩ := id PO1.fl
      refine ⟨_, rfl, x, CP, dx, _, _, rfl, PO1.ob, TP.cl, TP.nF, plf_field _ _ _, fx, df1, _, rfl, hf1, pf_no _ (by decide +kernel), num_goC PO1.fl hg (giv_int hg fit01) fun y1 H2 s2 fz => ?_⟩
      rw [nrm0] at fz
      refine ⟨_, rfl, x, CP, dx, _, _, rfl, s2 _ _ PO1.ob, TP.cl, TP.nC, plf_coef _ _ _, ct, ys, rfl, .inr ⟨SqT.of (s2 _ _ PO1.co), ?_⟩⟩
      refine RT.for_ItvT (fun i σ H' => ∃ (yv : V) (z : Option V), σ = [some (.ref x), some v, some y0, some yv, z] ∧ Same H2 H' ∧ FN C H' p yv (horner p a (prs.drop (prs.length - i))).1 (horner p a (prs.drop (prs.length - i))).2 ∧ (p = 0 → Bd (1 + 11 * i) (horner p a (prs.drop (prs.length - i))))) ?_ ?_ ?_ ?_
      · refine ⟨y1, none, rfl, Same.refl _, ?_, fun _ => ?_⟩
        · rw [Nat.sub_zero, List.drop_length]
          exact fz
        · rw [Nat.sub_zero, List.drop_length]
          exact ⟨(by show (0 : Nat) < 2 ^ 1; decide), (by show (1 : Nat) < 2 ^ 1; decide)⟩
      · rintro i σ H' ⟨yv, z, _, s3, _⟩
        exact SqT.of (s3 _ _ (s2 _ _ PO1.co))
      · rintro i cv σ H3 hi hc ⟨yv, z, rfl, s3, fv, bv⟩
        have li : i < prs.length := by rw [← PO.nu.len]; exact hi
        have lj : prs.length - 1 - i < prs.length := by omega
        rw [PO.nu.len] at hc
        have fc := (((PO.nu.same s1).same s2).same s3).at_ _ _ _ hc (List.getElem?_eq_getElem lj)
        have dr : prs.drop (prs.length - (i + 1)) = prs[prs.length - 1 - i] :: prs.drop (prs.length - i) := by
          have e1 : prs.length - (i + 1) = prs.length - 1 - i := by omega
          rw [e1, List.drop_eq_getElem_cons lj]
          congr 2
          omega
        have hstep : horner p a (prs.drop (prs.length - (i + 1))) = plusP p (timesP p (horner p a (prs.drop (prs.length - i))) a) prs[prs.length - 1 - i] := by
          rw [dr]
          rfl
        have bc : p = 0 → Bd 5 prs[prs.length - 1 - i] := fun p0 => b5 p0 _ (List.getElem_mem lj)
        generalize prs[prs.length - 1 - i] = c at *
        generalize horner p a (prs.drop (prs.length - i)) = acc at *
        have fa3 := (fa.same s2).same s3
        have PO3 := (PO1.same s2).same s3
        obtain ⟨df3, hf3⟩ := id PO3.fl
        refine ⟨_, rfl, x, CP, dx, _, _, rfl, PO3.ob, TP.cl, TP.nF, plf_field _ _ _, fx, df3, _, rfl, hf3, pf_no _ (by decide +kernel), _, rfl, _, rfl, mul_fn hg fv fa3 (fun p0 => ⟨(bv p0).fit (by omega), (ba p0).fit (by decide)⟩) fun y4 H4 s4 r4 n4 => ?_⟩
        have bt : p = 0 → Bd (1 + 11 * i + 5) (timesP p acc a) := fun p0 => by
          have := times_bd (bv p0) (ba p0) fv.pos fa3.pos
          rw [p0]
          exact this
        refine ⟨_, rfl, add_fn hg r4 (fc.same s4) n4 (fun p0 => ⟨(bt p0).fit (by omega), (bc p0).fit (by decide)⟩) fun y5 H5 s5 r5 => ?_⟩
        have s35 := (s3.trans s4).trans s5
        have PO5 := (PO3.same s4).same s5
        have bp : p = 0 → Bd (1 + 11 * (i + 1)) (plusP p (timesP p acc a) c) := fun p0 => by
          have h1 := fun pp => plus_bd (bt p0) (bc p0) pp fc.pos
          rw [p0] at h1 ⊢
          refine (h1 ?_).le (by omega)
          exact npair_pos (mul_ne (by have := fv.pos; omega) (by have := fa3.pos; omega))
        refine num_goT PO5.fl hg (giv_raw hg r5 fun p0 => (bp p0).fit (by omega)) fun y6 H6 s6 f6 => ?_
        refine ⟨y6, some cv, rfl, s35.trans s6, ?_, ?_⟩
        · rw [hstep]
          exact f6
        · rw [hstep]
          exact bp
      · rintro σ H3 ⟨yv, z, rfl, s3, fv, _⟩
        rw [PO.nu.len, Nat.sub_self, List.drop_zero] at fv
        exact ⟨_, rfl, kR _ _ ((s1.trans s2).trans s3) fv⟩
theorem sc_pcall : FnScope ["self", "x"] ["self", "x"] (defScope s_pcall) := ⟨rfl, rfl, rfl, by decide +kernel, rfl, by decide +kernel, by decide +kernel⟩
theorem ok_pcall {f C CF CP CNN fat : Addr} {fd fdat : FuncData} (F : Fun K "__call__" "Poly.__call__" s_pcall f fd) (TP : PTx K CP) (Me_at : Meth K CP "at" fat) (G_at : FnOk P w K mg base (L2.CX P w) 9 fat fdat ["self", "x"] (spPAt K C CP CF CNN)) (b_at : Binds K fdat ["self", "x"] []) : FnOk P w K mg base (L2.CX P w) 10 f fd ["self", "x"] (spPAt K C CP CF CNN) := by
  refine F.okX sc_pcall (fun vs H Q E h => ?_) (fun cdv A outer s H vs Q E hr h => ?_)
  · obtain ⟨x, p, prs, v, o, rfl, _⟩ := h
    rfl
  · obtain ⟨x, p, prs, v, o, rfl, PP, r⟩ := h
    refine ⟨_, (pss_one (ps_ret (pe_meth (E := E) (pv 0) TP.cl Me_at G_at (hr.mono (by decide)) b_at .nil (passes_call (takes_of rfl rfl rfl rfl) fun _ _ _ _ h => h) (pa_cons (pv 1) pa_nil)))), ?_⟩
    obtain ⟨dx, fx, ct, ys, PO⟩ := id PP
    exact ⟨_, rfl, x, dx, _, rfl, PO.ob, plf_no _ _ _ (by decide +kernel) (by decide +kernel) (by decide +kernel), _, rfl, x, p, prs, v, o, rfl, PP, r⟩
end
end Sq

namespace Sq
open PySem L2 PyProof.Rows
abbrev s_pair : Stmt := top 48
abbrev s_plus : Stmt := top 49
abbrev s_times : Stmt := top 50
/-- the law's pairs and rows of pairs -/
def PairAt (H : Hp) (q : Addr) (a : Int × Int) : Prop := H q = some (.tup [.int a.1, .int a.2])
theorem PairAt.same {H H' : Hp} {q : Addr} {a : Int × Int} (s : Same H H') (h : PairAt H q a) : PairAt H' q a := s _ _ h
def spPair : Sp := fun vs H Q _ => ∃ p t u : Int, vs = [.int p, .int t, .int u] ∧ goodP p = true ∧ (p ≠ 0 → u = 1) ∧ u ≠ 0 ∧ u.natAbs < 2 ^ 8000 ∧ ∀ q H', Same H H' → PairAt H' q (npair p t u) → Q (.ref q) H'
/-- what a pair of the law keeps -/
def PB (p : Int) (a : Int × Int) : Prop := 1 ≤ a.2 ∧ (p ≠ 0 → a.2 = 1) ∧ Bd 1450 a
def spPlus : Sp := fun vs H Q _ => ∃ (p : Int) (q1 q2 : Addr) (a b : Int × Int), vs = [.int p, .ref q1, .ref q2] ∧ goodP p = true ∧ PairAt H q1 a ∧ PairAt H q2 b ∧ PB p a ∧ PB p b ∧ ∀ q H', Same H H' → PairAt H' q (plusP p a b) → Q (.ref q) H'
def spTimes : Sp := fun vs H Q _ => ∃ (p : Int) (q1 q2 : Addr) (a b : Int × Int), vs = [.int p, .ref q1, .ref q2] ∧ goodP p = true ∧ PairAt H q1 a ∧ PairAt H q2 b ∧ PB p a ∧ PB p b ∧ ∀ q H', Same H H' → PairAt H' q (timesP p a b) → Q (.ref q) H'
theorem pm {x y : Int} (h : x.natAbs < 2 ^ 1450) (h' : y.natAbs < 2 ^ 1450) : CMulW x y := mul_ok (Nat.lt_of_lt_of_le h (Nat.pow_le_pow_right (by decide) (by decide))) (Nat.lt_of_lt_of_le h' (Nat.pow_le_pow_right (by decide) (by decide)))
theorem pm8 {x y : Int} (h : x.natAbs < 2 ^ 1450) (h' : y.natAbs < 2 ^ 1450) : (x * y).natAbs < 2 ^ 8000 := Nat.lt_of_lt_of_le (wide_lt h h') (Nat.pow_le_pow_right (by decide) (by decide))
section
variable {P : Program} {w : World} {K : PySem.W.Frag} {mg : Str → Option Value} {base : Heap}
theorem sc_pair : FnScope ["_law_prime_here", "_law_top", "_law_bottom", "_law_shared"] ["_law_prime_here", "_law_top", "_law_bottom"] (defScope s_pair) := ⟨rfl, rfl, rfl, by decide +kernel, rfl, by decide +kernel, by decide +kernel⟩
theorem ok_pair {f fgcd : Addr} {fd fdgcd : FuncData} (F : Fun K "_law_pair" "_law_pair" s_pair f fd) (D : DTx mg) (G_gcd : FnOk P w K mg base CX0 1 fgcd fdgcd ["_law_one", "_law_other"] spGcd) (m_gcd : mg "_law_gcd" = some (.ref fgcd)) (k_gcd : PySem.W.keepIn K (.ref fgcd) = true) (b_gcd : Binds K fdgcd ["_law_one", "_law_other"] []) : FnOk P w K mg base CX0 2 f fd ["_law_prime_here", "_law_top", "_law_bottom"] spPair := by
  refine F.ok sc_pair (fun vs H Q E h => ?_) (fun cdv A outer s H vs Q E hr h => ?_)
  · obtain ⟨p, t, u, rfl, _⟩ := h
    rfl
  · obtain ⟨p, t, u, rfl, hg, h1, u0, su, k⟩ := h
    refine ⟨_, (pss_cons (ps_if (pt_cmpR op_gt (pv 0) pe_int (nomark _))
        (pss_cons (ps_if (pt_cmpR op_eq (pv 2) pe_int (nomark _)) (pss_one (ps_ret (pe_tup (pa_cons (pe_op op_mod (pe_callTy call_int1 (by rfl) D.b_int (by decide +kernel) (pa_cons (pv 1) pa_nil)) (pv 0)) (pa_cons pe_int pa_nil))))) pss_nil)
        (pss_one ps_never)) pss_nil)
      (pss_cons (ps_set (i := 3) sc_pair.nd rfl (Or.inl rfl) (pe_call G_gcd (hr.mono (by decide)) rfl m_gcd k_gcd b_gcd .nil pass0 (pa_cons (pv 1) (pa_cons (pv 2) pa_nil))))
      (C8.pss_cut (ps_if (pt_cmpR op_lt (pv 2) pe_int (nomark _)) (pss_one (ps_set (i := 3) sc_pair.nd rfl (Or.inl rfl) (pe_un un_neg (pv 3)))) pss_nil)
      (pss_one (ps_ret (pe_tup (pa_cons (pe_op op_fdivZ (pv 1) (pv 3)) (pa_cons (pe_op op_fdivZ (pv 2) (pv 3)) pa_nil)))))))), ?_⟩
    refine ⟨_, rfl, _, _, rfl, rfl, _, rfl, ?_⟩
    by_cases p0 : p = 0
    · refine itDn (by simp [p0]) ?_
      refine ⟨_, rfl, _, rfl, t, u, rfl, ?_⟩
      refine ⟨fun σ H' => σ = [some (.int p), some (.int t), some (.int u), some (.int (shr t u))] ∧ H' = H, ?_, ?_⟩
      · refine ⟨_, rfl, _, _, rfl, rfl, _, rfl, ?_⟩
        unfold shr
        by_cases c : u < 0
        · rw [if_pos c]
          exact itD (decide_eq_true c) ⟨_, rfl, _, rfl, rfl, rfl⟩
        · rw [if_neg c]
          exact itDn (by simpa using c) ⟨rfl, rfl⟩
      · rintro σ H' ⟨rfl, rfl⟩
        have gp : 0 < Int.gcd t u := Int.gcd_pos_of_ne_zero_right t u0
        have gl : Int.gcd t u ≤ u.natAbs := Nat.le_of_dvd (by omega) (Int.gcd_dvd_natAbs_right ..)
        have cz : ∀ i, CDivZ i (shr t u) := fun i => by
          unfold shr
          split
          · exact ⟨by omega, by omega⟩
          · exact ⟨by omega, by omega⟩
        refine ⟨_, rfl, _, rfl, _, _, rfl, rfl, cz _, _, rfl, _, rfl, _, _, rfl, rfl, cz _, (by show 2 ≤ sizeLine; decide), fun q hq => ?_⟩
        refine k q _ (same_new (Same.refl _) hq) ?_
        unfold npair
        rw [if_pos p0]
        exact upd_same
    · have p2 := prime_lt hg p0
      have e1 := h1 p0
      subst e1
      refine itD (by simp; omega) ⟨_, rfl, rfl, _, rfl, iteT ?_⟩
      refine ⟨_, rfl, .inl ⟨_, rfl, _, rfl, _, _, rfl, rfl, (show 0 < p by omega), (by show 2 ≤ sizeLine; decide), fun q hq => ?_⟩⟩
      refine k q _ (same_new (Same.refl _) hq) ?_
      unfold npair
      rw [if_neg p0]
      exact upd_same
theorem sc_plus : FnScope ["_law_prime_here", "_law_one", "_law_other"] ["_law_prime_here", "_law_one", "_law_other"] (defScope s_plus) := ⟨rfl, rfl, rfl, by decide +kernel, rfl, by decide +kernel, by decide +kernel⟩
theorem ok_plus {f fpair : Addr} {fd fdpair : FuncData} (F : Fun K "_law_plus" "_law_plus" s_plus f fd) (G_pair : FnOk P w K mg base CX0 2 fpair fdpair ["_law_prime_here", "_law_top", "_law_bottom"] spPair) (m_pair : mg "_law_pair" = some (.ref fpair)) (k_pair : PySem.W.keepIn K (.ref fpair) = true) (b_pair : Binds K fdpair ["_law_prime_here", "_law_top", "_law_bottom"] []) : FnOk P w K mg base CX0 3 f fd ["_law_prime_here", "_law_one", "_law_other"] spPlus := by
  refine F.ok sc_plus (fun vs H Q E h => ?_) (fun cdv A outer s H vs Q E hr h => ?_)
  · obtain ⟨p, q1, q2, a, b, rfl, _⟩ := h
    rfl
  · obtain ⟨p, q1, q2, a, b, rfl, hg, h1, h2, ⟨pa, ea, ba⟩, ⟨pb, eb, bb⟩, k⟩ := h
    refine ⟨_, (pss_one (ps_ret (pe_call G_pair (hr.mono (by decide)) rfl m_pair k_pair b_pair .nil pass0 (pa_cons (pv 0) (pa_cons (pe_op op_add (pe_op op_mulW (pe_ix ix_tup (pv 1) pe_int (fun _ _ => rfl)) (pe_ix ix_tup (pv 2) pe_int (fun _ _ => rfl))) (pe_op op_mulW (pe_ix ix_tup (pv 2) pe_int (fun _ _ => rfl)) (pe_ix ix_tup (pv 1) pe_int (fun _ _ => rfl)))) (pa_cons (pe_op op_mulW (pe_ix ix_tup (pv 1) pe_int (fun _ _ => rfl)) (pe_ix ix_tup (pv 2) pe_int (fun _ _ => rfl))) pa_nil)))))), ?_⟩
    refine ⟨_, rfl, _, rfl, _, _, _, _, rfl, rfl, SqT.of h1, rfl, _, rfl, _, _, _, _, rfl, rfl, SqT.of h2, rfl, _, _, rfl, rfl, pm ba.1 bb.2, ?_⟩
    refine ⟨_, rfl, _, _, _, _, rfl, rfl, SqT.of h2, rfl, _, rfl, _, _, _, _, rfl, rfl, SqT.of h1, rfl, _, _, rfl, rfl, pm bb.1 ba.2, _, _, rfl, rfl, ?_⟩
    refine ⟨_, rfl, _, _, _, _, rfl, rfl, SqT.of h1, rfl, _, rfl, _, _, _, _, rfl, rfl, SqT.of h2, rfl, _, _, rfl, rfl, pm ba.2 bb.2, ?_⟩
    exact ⟨p, _, _, rfl, hg, fun p0 => by rw [ea p0, eb p0]; rfl, mul_ne (by omega) (by omega), pm8 ba.2 bb.2, k⟩
theorem sc_times : FnScope ["_law_prime_here", "_law_one", "_law_other"] ["_law_prime_here", "_law_one", "_law_other"] (defScope s_times) := ⟨rfl, rfl, rfl, by decide +kernel, rfl, by decide +kernel, by decide +kernel⟩
theorem ok_times {f fpair : Addr} {fd fdpair : FuncData} (F : Fun K "_law_times" "_law_times" s_times f fd) (G_pair : FnOk P w K mg base CX0 2 fpair fdpair ["_law_prime_here", "_law_top", "_law_bottom"] spPair) (m_pair : mg "_law_pair" = some (.ref fpair)) (k_pair : PySem.W.keepIn K (.ref fpair) = true) (b_pair : Binds K fdpair ["_law_prime_here", "_law_top", "_law_bottom"] []) : FnOk P w K mg base CX0 3 f fd ["_law_prime_here", "_law_one", "_law_other"] spTimes := by
  refine F.ok sc_times (fun vs H Q E h => ?_) (fun cdv A outer s H vs Q E hr h => ?_)
  · obtain ⟨p, q1, q2, a, b, rfl, _⟩ := h
    rfl
  · obtain ⟨p, q1, q2, a, b, rfl, hg, h1, h2, ⟨pa, ea, ba⟩, ⟨pb, eb, bb⟩, k⟩ := h
    refine ⟨_, (pss_one (ps_ret (pe_call G_pair (hr.mono (by decide)) rfl m_pair k_pair b_pair .nil pass0 (pa_cons (pv 0) (pa_cons (pe_op op_mulW (pe_ix ix_tup (pv 1) pe_int (fun _ _ => rfl)) (pe_ix ix_tup (pv 2) pe_int (fun _ _ => rfl))) (pa_cons (pe_op op_mulW (pe_ix ix_tup (pv 1) pe_int (fun _ _ => rfl)) (pe_ix ix_tup (pv 2) pe_int (fun _ _ => rfl))) pa_nil)))))), ?_⟩
    refine ⟨_, rfl, _, rfl, _, _, _, _, rfl, rfl, SqT.of h1, rfl, _, rfl, _, _, _, _, rfl, rfl, SqT.of h2, rfl, _, _, rfl, rfl, pm ba.1 bb.1, ?_⟩
    refine ⟨_, rfl, _, _, _, _, rfl, rfl, SqT.of h1, rfl, _, rfl, _, _, _, _, rfl, rfl, SqT.of h2, rfl, _, _, rfl, rfl, pm ba.2 bb.2, ?_⟩
    exact ⟨p, _, _, rfl, hg, fun p0 => by rw [ea p0, eb p0]; rfl, mul_ne (by omega) (by omega), pm8 ba.2 bb.2, k⟩
end
end Sq

-- needs HandS.Deep
namespace Sq
open PySem L2 PyProof.Rows
abbrev s_given : Stmt := top 51
abbrev s_passed : Stmt := top 54
abbrev s_lread : Stmt := top 52
abbrev s_rowt : Stmt := top 53
theorem lt20 {x : Int} (h0 : -1000000 ≤ x) (h1 : x ≤ 1000000) : x.natAbs < 2 ^ 20 := by
  have : (2 : Nat) ^ 20 = 1048576 := by decide
  omega
theorem lt20f {x : Int} (h0 : -1000000 ≤ x) (h1 : x ≤ 1000000) : Fit x := Nat.lt_of_lt_of_le (lt20 h0 h1) (Nat.pow_le_pow_right (by decide) (by decide))
theorem lt204 {x : Int} (h0 : -1000000 ≤ x) (h1 : x ≤ 1000000) : x.natAbs < 2 ^ 4000 := Nat.lt_of_lt_of_le (lt20 h0 h1) (Nat.pow_le_pow_right (by decide) (by decide))
def NumOk (p : Int) (a : Int × Int) : Prop := 1 ≤ a.2 ∧ (p = 0 → Int.gcd a.1 a.2 = 1 ∧ Bd 5 a) ∧ (p ≠ 0 → a.2 = 1 ∧ 0 ≤ a.1 ∧ a.1 < p)
theorem NumOk.bd {p : Int} {a : Int × Int} (hg : goodP p = true) (h : NumOk p a) : Bd 20 a := by
  by_cases p0 : p = 0
  · exact (h.2.1 p0).2.le (by decide)
  · obtain ⟨e, a0, a1⟩ := h.2.2 p0
    have := prime_lt hg p0
    refine ⟨?_, ?_⟩
    · have : (2 : Nat) ^ 20 = 1048576 := by decide
      omega
    · have : (2 : Nat) ^ 20 = 1048576 := by decide
      omega
theorem NumOk.fit {p : Int} {a : Int × Int} (hg : goodP p = true) (h : NumOk p a) : Fit a.1 ∧ Fit a.2 := (h.bd hg).fit (by decide)
def spGiven (C : Addr) : Sp := fun vs H Q _ => ∃ (q : Addr) (a : Int × Int), vs = [.ref q] ∧ PairAt H q a ∧ 1 ≤ a.2 ∧ Int.gcd a.1 a.2 = 1 ∧ a.2.natAbs < 2 ^ 8000 ∧ ∀ y H', Same H H' → NumAt C H' y a.1 a.2 → Q y H'
def spPassed (K : PySem.W.Frag) (C : Addr) : Sp := fun vs H Q _ => ∃ (p : Int) (q : Addr) (k : Int) (a : Int × Int), vs = [.int p, .ref q, .int k] ∧ goodP p = true ∧ PairAt H q a ∧ NumOk p a ∧ 0 ≤ k ∧ k < 1000 ∧ ∀ y H', Same H H' → Giv K C H' p y (some a) → Q y H'
def spLRead (C : Addr) : Sp := fun vs H Q _ => ∃ (p : Int) (y : V) (a : Int × Int), vs = [.int p, y] ∧ goodP p = true ∧ FN C H p y a.1 a.2 ∧ ∀ q H', Same H H' → PairAt H' q a → Q (.ref q) H'
structure RowV (H : Hp) (vs : List V) (prs : List (Int × Int)) : Prop where
  len : vs.length = prs.length
  at_ : ∀ (i : Nat) (v : V) (a : Int × Int), vs[i]? = some v → prs[i]? = some a → ∃ q, v = .ref q ∧ PairAt H q a
theorem RowV.same {H H' : Hp} {vs : List V} {prs : List (Int × Int)} (s : Same H H') (h : RowV H vs prs) : RowV H' vs prs := ⟨h.len, fun i v a e1 e2 => by
  obtain ⟨q, e, hq⟩ := h.at_ i v a e1 e2
  exact ⟨q, e, hq.same s⟩⟩
theorem RowV.nil {H : Hp} : RowV H [] [] := ⟨rfl, fun i v a e _ => by simp at e⟩
theorem RowV.snoc {H : Hp} {vs : List V} {prs : List (Int × Int)} {q : Addr} {a : Int × Int} (h : RowV H vs prs) (hq : PairAt H q a) : RowV H (vs ++ [.ref q]) (prs ++ [a]) := by
  refine ⟨by rw [List.length_append, List.length_append, h.len]; rfl, fun i z b e1 e2 => ?_⟩
  rcases get_snoc e1 with e1 | ⟨i1, rfl⟩
  · rcases get_snoc e2 with e2 | ⟨i2, rfl⟩
    · exact h.at_ i z b e1 e2
    · have := get_len e1
      have := h.len
      omega
  · rcases get_snoc e2 with e2 | ⟨i2, rfl⟩
    · have := get_len e2
      have := h.len
      omega
    · exact ⟨q, rfl, hq⟩
theorem RowV.upd {H : Hp} {vs : List V} {prs : List (Int × Int)} {D : Addr} {xs : List V} {o : HO} (hD : H D = some (.lst xs)) (h : RowV H vs prs) : RowV (L2.upd H D o) vs prs := ⟨h.len, fun i v a e1 e2 => by
  obtain ⟨q, e, hq⟩ := h.at_ i v a e1 e2
  refine ⟨q, e, (upd_ne fun z => ?_).trans hq⟩
  rw [z] at hq
  rw [PairAt, hD] at hq
  cases hq⟩
def RowAt (H : Hp) (l : Addr) (prs : List (Int × Int)) : Prop := ∃ vs, H l = some (.lst vs) ∧ RowV H vs prs
theorem RowAt.same {H H' : Hp} {l : Addr} {prs : List (Int × Int)} (s : Same H H') (h : RowAt H l prs) : RowAt H' l prs := by
  obtain ⟨vs, e, r⟩ := h
  exact ⟨vs, s _ _ e, r.same s⟩
def pairD (a : Int × Int) : PyData := .tuple [.int a.1, .int a.2]
theorem rowV_dp {K : PySem.W.Frag} {H : Hp} : ∀ {vs : List V} {prs : List (Int × Int)}, RowV H vs prs → DpAll K H vs (prs.map pairD)
  | [], [], _ => .nil
  | [], _ :: _, h => by have := h.len; simp at this
  | _ :: _, [], h => by have := h.len; simp at this
  | v :: vs, a :: prs, h => by
    obtain ⟨q, e, hq⟩ := h.at_ 0 v a rfl rfl
    subst e
    have tl : RowV H vs prs := ⟨by have := h.len; simpa using this, fun i x b e1 e2 => h.at_ (i + 1) x b e1 e2⟩
    exact .cons (.tup (SqT.of hq) (.cons (.int _) (.cons (.int _) .nil))) (rowV_dp tl)
theorem RowAt.dp {K : PySem.W.Frag} {H : Hp} {l : Addr} {prs : List (Int × Int)} (h : RowAt H l prs) : Dp K H (.ref l) (.list (prs.map pairD)) := by
  obtain ⟨vs, e, r⟩ := h
  exact .lst (SqL.of e) (rowV_dp r)
theorem row_lay : ∀ prs : List (Int × Int), PyData.canLayAll0 (prs.map pairD) = true
  | [] => by simp [PyData.canLayAll0]
  | a :: r => by
    show (PyData.canLay0 (pairD a) && PyData.canLayAll0 (r.map pairD)) = true
    rw [row_lay r]
    simp [pairD, PyData.canLay0, PyData.canLayAll0]
theorem row_depth : ∀ prs : List (Int × Int), PyData.depthAll (prs.map pairD) ≤ 1
  | [] => by simp [PyData.depthAll]
  | a :: r => by
    have := row_depth r
    show max (PyData.depth (pairD a)) (PyData.depthAll (r.map pairD)) ≤ 1
    have e : PyData.depth (pairD a) = 1 := by simp [pairD, PyData.depth, PyData.depthAll]
    omega
theorem row_shaped (prs : List (Int × Int)) : SeqAt.shaped (.list (prs.map pairD)) = true := by
  unfold SeqAt.shaped
  rw [Bool.and_eq_true, decide_eq_true_eq]
  refine ⟨?_, ?_⟩
  · show PyData.canLayAll0 (prs.map pairD) = true
    exact row_lay prs
  · show PyData.depthAll (prs.map pairD) + 1 ≤ 64
    have := row_depth prs
    omega
theorem none_free (prs : List (Int × Int)) : ((prs.map pairD).any fun z => PyData.eqv z .none) = false := by
  rw [List.any_eq_false]
  intro z hz
  obtain ⟨a, _, rfl⟩ := List.mem_map.mp hz
  show ¬ PyData.eqv (pairD a) .none = true
  simp [pairD, PyData.eqv]
def spRowT (C : Addr) : Sp := fun vs H Q _ => ∃ (p : Int) (ct : Addr) (ys : List V) (prs : List (Int × Int)), vs = [.int p, .ref ct] ∧ goodP p = true ∧ H ct = some (.tup ys) ∧ FNs C H p ys prs ∧ ys.length ≤ 1000 ∧ ∀ l H', Same H H' → RowAt H' l prs → Q (.ref l) H'
theorem low_self {t u T U : Int} (pu : 1 ≤ u) (cop : Int.gcd t u = 1) (L : Low t u T U) : T = t ∧ U = u := (low_eq (by omega) (by omega) L (⟨pu, cop, rfl, Nat.le_refl _, Nat.le_refl _⟩ : Low t u t u)).mpr rfl
section
variable {P : Program} {w : World} {K : PySem.W.Frag} {mg : Str → Option Value} {base : Heap}
theorem sc_given : FnScope ["_law_pair_here"] ["_law_pair_here"] (defScope s_given) := ⟨rfl, rfl, rfl, by decide +kernel, rfl, by decide +kernel, by decide +kernel⟩
theorem ok_given {f C CN fR : Addr} {fd fdR : FuncData} (F : Fun K "_law_given" "_law_given" s_given f fd) (m_C : mg "Ratio" = some (.ref C)) (M : Mk K C fR)
    (G_R : FnOk P w K mg base (L2.CX P w) 3 fR fdR ["self", "top", "bottom"] (spRatioInit K C CN)) (b_R : Binds K fdR ["self", "top", "bottom"] []) : FnOk P w K mg base CX0 5 f fd ["_law_pair_here"] (spGiven C) := by
  refine F.ok sc_given (fun vs H Q E h => ?_) (fun cdv A outer s H vs Q E hr h => ?_)
  · obtain ⟨q, a, rfl, _⟩ := h
    rfl
  · obtain ⟨q, a, rfl, hq, pu, cop, su, k⟩ := h
    refine ⟨_, (pss_cons (ps_if (pt_cmpR op_eq (pe_ix ix_tup (pv 0) pe_int (fun _ _ => rfl)) pe_int (nomark _)) (pss_one (ps_ret (pe_ix ix_tup (pv 0) pe_int (fun _ _ => rfl)))) pss_nil)
      (pss_one (ps_ret (pe_make M G_R (hr.mono (by decide)) rfl m_C b_R .nil passL (pa_cons (pe_ix ix_tup (pv 0) pe_int (fun _ _ => rfl)) (pa_cons (pe_ix ix_tup (pv 0) pe_int (fun _ _ => rfl)) pa_nil)))))), ?_⟩
    refine ⟨_, rfl, _, _, _, _, rfl, rfl, SqT.of hq, rfl, rfl, _, rfl, ?_⟩
    by_cases c : a.2 = 1
    · refine itD (by simp [c]) ⟨_, rfl, _, _, _, _, rfl, rfl, SqT.of hq, rfl, k _ _ (Same.refl H) (.inr ⟨rfl, c⟩)⟩
    · refine itDn (by simp [c]) ⟨_, rfl, _, _, _, _, rfl, rfl, SqT.of hq, rfl, _, rfl, _, _, _, _, rfl, rfl, SqT.of hq, rfl, fun y dy ny ndy ne => mk_go (by omega) su ny ndy ne fun T U H1 L R s1 => ⟨rfl, ?_⟩⟩
      obtain ⟨rfl, rfl⟩ := low_self pu cop L
      exact k _ _ s1 (.inl ⟨y, rfl, R⟩)
theorem sc_passed : FnScope ["_law_prime_here", "_law_pair_here", "_law_k", "_law_bottom"] ["_law_prime_here", "_law_pair_here", "_law_k"] (defScope s_passed) := ⟨rfl, rfl, rfl, by decide +kernel, rfl, by decide +kernel, by decide +kernel⟩
theorem passed_giv {K : PySem.W.Frag} {C : Addr} {H : Hp} {p b t u : Int} {a : Int × Int} {y : V} (hg : goodP p = true) (p0 : p ≠ 0) (ok : NumOk p a) (hb : (p = 2 ∧ b = 3) ∨ (p ≠ 2 ∧ b = 2)) (L : Low (a.1 * b + p) b t u) (hy : NumAt C H y t u) : Giv K C H p y (some a) := by
  obtain ⟨p2, p3, hp⟩ := goodP_pos hg p0
  obtain ⟨e1, a0, a1⟩ := ok.2.2 p0
  have b1 : 2 ≤ b ∧ b ≤ 3 := by omega
  have sb : b.natAbs < 2 ^ 2 := by
    have : (2 : Nat) ^ 2 = 4 := by decide
    omega
  have cop : ∀ z : Int, p ∣ b * z → p ∣ z := by
    intro z hz
    have g : Int.gcd p b = 1 := by
      rcases hb with ⟨rfl, rfl⟩ | ⟨n2, rfl⟩
      · decide
      · exact gcd_prime p2 p3 hp (by decide) (by omega)
    have dn : p.natAbs ∣ b.natAbs * z.natAbs := by
      rw [← Int.natAbs_mul]
      exact Int.natAbs_dvd_natAbs.mpr hz
    exact Int.natAbs_dvd_natAbs.mp (Nat.Coprime.dvd_of_dvd_mul_left (show Nat.Coprime p.natAbs b.natAbs from g) dn)
  have v := L.val
  have pu := L.pos
  have ub : u ≤ b := by have := L.lu; omega
  have tb : t.natAbs < 2 ^ 40 := by
    refine Nat.lt_of_le_of_lt L.lt ?_
    have h1 : (a.1 * b).natAbs < 2 ^ 30 := by
      have : (a.1 * b).natAbs < 2 ^ (20 + 2) := wide_lt (ok.bd hg).1 sb
      exact Nat.lt_of_lt_of_le this (by decide)
    have : (2 : Nat) ^ 30 = 1073741824 := by decide
    have : (2 : Nat) ^ 40 = 1099511627776 := by decide
    omega
  refine ⟨t, u, hy, pu, Nat.lt_of_lt_of_le tb (Nat.pow_le_pow_right (by decide) (by decide)), lt20f (by omega) (by omega), fun h => absurd h p0, fun _ => ⟨?_, e1, a0, a1, ?_⟩⟩
  · intro z
    have du : p ∣ u := Int.dvd_of_emod_eq_zero z
    have : p ≤ u := Int.le_of_dvd (by omega) du
    rcases hb with ⟨rfl, rfl⟩ | ⟨n2, rfl⟩
    · have u23 : u = 2 ∨ u = 3 := by omega
      rcases u23 with rfl | rfl
      · have e : t * 3 = (a.1 * 3 + 2) * 2 := v
        have := L.cop
        have t2 : (2 : Int) ∣ t := by omega
        obtain ⟨k, hk⟩ := t2
        rw [hk] at this
        have d := Int.dvd_coe_gcd (show (2 : Int) ∣ 2 * k from ⟨k, rfl⟩) (Int.dvd_refl 2)
        rw [this] at d
        exact absurd d (by decide)
      · omega
    · omega
  · have d : p ∣ a.1 * u - t := by
      refine cop _ ⟨-u, ?_⟩
      rw [Int.mul_sub, Int.mul_comm b t, v, Int.add_mul]
      have : b * (a.1 * u) = a.1 * b * u := by rw [← Int.mul_assoc, Int.mul_comm b a.1]
      rw [this, Int.mul_neg]
      omega
    obtain ⟨k, hk⟩ := d
    refine ⟨k, ?_⟩
    rw [Int.mul_comm k p, ← hk]
    omega
theorem ok_passed {f C CN fR fgiven : Addr} {fd fdR fdgiven : FuncData} (F : Fun K "_law_passed" "_law_passed" s_passed f fd) (D : DTx mg) (m_C : mg "Ratio" = some (.ref C)) (M : Mk K C fR)
    (G_R : FnOk P w K mg base (L2.CX P w) 3 fR fdR ["self", "top", "bottom"] (spRatioInit K C CN)) (b_R : Binds K fdR ["self", "top", "bottom"] [])
    (G_given : FnOk P w K mg base CX0 5 fgiven fdgiven ["_law_pair_here"] (spGiven C)) (m_given : mg "_law_given" = some (.ref fgiven)) (k_given : PySem.W.keepIn K (.ref fgiven) = true) (b_given : Binds K fdgiven ["_law_pair_here"] []) : FnOk P w K mg base CX0 6 f fd ["_law_prime_here", "_law_pair_here", "_law_k"] (spPassed K C) := by
  refine F.ok sc_passed (fun vs H Q E h => ?_) (fun cdv A outer s H vs Q E hr h => ?_)
  · obtain ⟨p, q, k, a, rfl, _⟩ := h
    rfl
  · obtain ⟨p, q, kk, a, rfl, hg, hq, ok, k0, k1, k⟩ := h
    refine ⟨_, (pss_cons (ps_if (pt_cmpR op_eq (pv 0) pe_int (nomark _)) (pss_one (ps_ret (pe_call G_given (hr.mono (by decide)) rfl m_given k_given b_given .nil pass0 (pa_cons (pv 1) pa_nil)))) pss_nil)
      (pss_cons (ps_if (pt_cmpR op_eq (pe_op op_mod (pv 2) pe_int) pe_int (nomark _))
          (pss_cons (ps_set (i := 3) sc_passed.nd rfl (Or.inl rfl) (pe_op op_add pe_int (pe_callTy call_int1 (by rfl) D.b_int (by decide +kernel) (pa_cons (pe_cmpR op_eq (pv 0) pe_int (nomark _)) pa_nil))))
          (pss_one (ps_ret (pe_make M G_R (hr.mono (by decide)) rfl m_C b_R .nil passL (pa_cons (pe_op op_add (pe_op op_mulW (pe_ix ix_tup (pv 1) pe_int (fun _ _ => rfl)) (pv 3)) (pv 0)) (pa_cons (pv 3) pa_nil)))))) pss_nil)
      (pss_one (ps_ret (pe_op op_add (pe_ix ix_tup (pv 1) pe_int (fun _ _ => rfl)) (pe_op op_mulW (pv 0) (pe_op op_sub (pe_op op_mod (pv 2) pe_int) pe_int))))))), ?_⟩
    refine ⟨_, rfl, rfl, _, rfl, ?_⟩
    by_cases p0 : p = 0
    · refine itD (by simp [p0]) ⟨_, rfl, q, a, rfl, hq, ok.1, (ok.2.1 p0).1, fit_up (ok.fit hg).2, fun y H1 s1 ny => ?_⟩
      exact k y H1 s1 ⟨a.1, a.2, ny, ok.1, (ok.fit hg).1, (ok.fit hg).2, fun _ => ⟨rfl, (ok.2.1 p0).1⟩, fun h => absurd p0 h⟩
    · have pl := prime_lt hg p0
      obtain ⟨e1, a0, a1⟩ := ok.2.2 p0
      refine itDn (by simp [p0]) ⟨_, rfl, _, _, rfl, rfl, (by show (0 : Int) < 4; decide), rfl, _, rfl, ?_⟩
      have m0 := Int.emod_nonneg kk (show (4 : Int) ≠ 0 by decide)
      have m1 := Int.emod_lt_of_pos kk (show (0 : Int) < 4 by decide)
      by_cases c : kk % 4 = 3
      · refine itD (by simp [c]) ?_
        have fin : ∀ b : Int, ((p = 2 ∧ b = 3) ∨ (p ≠ 2 ∧ b = 2)) → _ := fun b hb => show ∀ (y dy : Addr), H y = none → H dy = none → dy ≠ y → spRatioInit K C CN [.ref y, .int (a.1 * b + p), .int b] (upd (upd H dy (.own y)) y (.ins C dy [])) (fun v H2 => v = .non ∧ Q (.ref y) H2) E0 from fun y dy ny ndy ne => mk_go (by omega) (fit_up (lt20f (by omega) (by omega))) ny ndy ne fun t u H1 L R s1 => ⟨rfl, k (.ref y) H1 s1 (passed_giv hg p0 ok hb L (.inl ⟨y, rfl, R⟩))⟩
        have mo : ∀ b : Int, 2 ≤ b → b ≤ 3 → CMulW a.1 b := fun b b0 b1 => mul_ok (lt204 (by omega) (by omega)) (lt204 (by omega) (by omega))
        refine ⟨_, rfl, rfl, .inr ⟨_, rfl, _, _, rfl, rfl, ?_⟩⟩
        by_cases c2 : p = 2
        · subst c2
          exact ⟨_, rfl, _, _, _, _, rfl, rfl, SqT.of hq, rfl, _, rfl, _, _, rfl, rfl, mo 3 (by decide) (by decide), _, rfl, _, _, rfl, rfl, _, rfl, fin 3 (.inl ⟨rfl, rfl⟩)⟩
        · have e : decide (V.int p = V.int 2) = false := decide_eq_false fun e => c2 (V.int.inj e)
          rw [e]
          exact ⟨_, rfl, _, _, _, _, rfl, rfl, SqT.of hq, rfl, _, rfl, _, _, rfl, rfl, mo 2 (by decide) (by decide), _, rfl, _, _, rfl, rfl, _, rfl, fin 2 (.inr ⟨c2, rfl⟩)⟩
      · refine itDn (by simp [c]) ?_
        refine ⟨_, rfl, _, _, _, _, rfl, rfl, SqT.of hq, rfl, _, rfl, _, rfl, _, _, rfl, rfl, (by show (0 : Int) < 4; decide), _, _, rfl, rfl, _, _, rfl, rfl, mul_ok (lt204 (by omega) (by omega)) (lt204 (by omega) (by omega)), _, _, rfl, rfl, ?_⟩
        have sz : (a.1 + p * (kk % 4 - 1)).natAbs < 2 ^ 60 := by
          have : kk % 4 - 1 = -1 ∨ kk % 4 - 1 = 0 ∨ kk % 4 - 1 = 1 := by omega
          have e60 : (2 : Nat) ^ 60 = 1152921504606846976 := by decide
          rcases this with e | e | e <;> rw [e] <;> omega
        have g := giv_int (K := K) (C := C) (H := H) hg (fit60 sz)
        have en : nrm p (a.1 + p * (kk % 4 - 1)) = a.1 := by
          unfold nrm
          rw [if_neg p0, Int.add_mul_emod_self_left, Int.emod_eq_of_lt a0 a1]
        rw [en] at g
        have ea : a = (a.1, 1) := by rw [← e1]
        rw [← ea] at g
        exact k _ _ (Same.refl H) g
end
end Sq

namespace Sq
open PySem L2 PyProof.Rows
abbrev s_number : Stmt := top 57
abbrev s_small : Stmt := top 60
abbrev s_trimmed : Stmt := top 58
def spNumber : Sp := fun vs H Q _ => ∃ (st : Addr) (p : Int) (ad : Addr), vs = [.ref st, .int p] ∧ StA H st ad ∧ goodP p = true ∧ ∀ q a H', StA H' st ad → But st H H' → PairAt H' q a → NumOk p a → Q (.ref q) H'
def spSmall : Sp := fun vs H Q _ => ∃ (st : Addr) (p : Int) (n : Nat) (ad : Addr), vs = [.ref st, .int p, .int (n : Int)] ∧ StA H st ad ∧ goodP p = true ∧ n ≤ 200 ∧ ∀ l prs H', StA H' st ad → But st H H' → H l = none → RowAt H' l prs → prs.length = n → (∀ a ∈ prs, NumOk p a) → Q (.ref l) H'
def spTrimmed : Sp := fun vs H Q _ => ∃ (l : Addr) (prs : List (Int × Int)), vs = [.ref l] ∧ RowAt H l prs ∧ prs.length ≤ 1000 ∧ ∀ l' H', Same H H' → RowAt H' l' (trimP prs) → Q (.ref l') H'
theorem but_pair {st ad : Addr} {H H' : Hp} {q : Addr} {a : Int × Int} (S : StA H st ad) (b : But st H H') (h : PairAt H q a) : PairAt H' q a := by
  refine b _ _ h fun e => ?_
  obtain ⟨_, _, _, _, _, h1, _⟩ := S
  rw [e] at h
  rw [PairAt, h1] at h
  cases h
theorem but_row {st ad : Addr} {H H' : Hp} {vs : List V} {prs : List (Int × Int)} (S : StA H st ad) (b : But st H H') (h : RowV H vs prs) : RowV H' vs prs := ⟨h.len, fun i v a e1 e2 => by
  obtain ⟨q, e, hq⟩ := h.at_ i v a e1 e2
  exact ⟨q, e, but_pair S b hq⟩⟩
theorem num_ok0 {p : Int} (hg : goodP p = true) : NumOk p (0, 1) := ⟨by decide, fun _ => ⟨by decide, by decide, by decide⟩, fun p0 => ⟨rfl, by decide, by have := prime_lt hg p0; show (0 : Int) < p; omega⟩⟩
theorem b5 {x : Int} (h : x.natAbs < 32) : x.natAbs < 2 ^ 5 := h
theorem StA.same {H H' : Hp} {p ad : Addr} (S : StA H p ad) (s : Same H H') : StA H' p ad := by
  obtain ⟨ns, i, l, m, c, h1, h2, r⟩ := S
  exact ⟨ns, i, l, m, c, s _ _ h1, s _ _ h2, r⟩
theorem StA.up {H : Hp} {p ad q : Addr} {o : HO} (S : StA H p ad) (hq : H q = none) : StA (L2.upd H q o) p ad := S.same (same_new (Same.refl H) hq)
theorem StA.ne {H : Hp} {p ad q : Addr} (S : StA H p ad) (hq : H q = none) : q ≠ p ∧ q ≠ ad := by
  obtain ⟨ns, i, l, m, c, h1, h2, _⟩ := S
  exact ⟨(ne_of_none h1 hq).symm, (ne_of_none h2 hq).symm⟩
theorem StA.updL {H : Hp} {p ad q : Addr} {o : HO} (S : StA H p ad) (h : q ≠ p ∧ q ≠ ad) : StA (L2.upd H q o) p ad := by
  obtain ⟨ns, i, l, m, c, h1, h2, r⟩ := S
  exact ⟨ns, i, l, m, c, (upd_ne h.1.symm).trans h1, (upd_ne h.2.symm).trans h2, r⟩
theorem but_new {p q : Addr} {H H1 : Hp} {o : HO} (a : But p H H1) (n : H q = none) : But p H (L2.upd H1 q o) := fun c u h nc => (upd_ne (ne_of_none h n)).trans (a c u h nc)
section
variable {P : Program} {w : World} {K : PySem.W.Frag} {mg : Str → Option Value} {base : Heap}
theorem sc_number : FnScope ["_law_state_here", "_law_prime_here", "_law_kind"] ["_law_state_here", "_law_prime_here"] (defScope s_number) := ⟨rfl, rfl, rfl, by decide +kernel, rfl, by decide +kernel, by decide +kernel⟩
theorem ok_number {f fdraw fpair : Addr} {fd fddraw fdpair : FuncData} (F : Fun K "_law_number" "_law_number" s_number f fd)
    (G_draw : FnOk P w K mg base CX0 1 fdraw fddraw ["_law_state_here", "_law_many"] spDrawA) (m_draw : mg "_law_draw" = some (.ref fdraw)) (k_draw : PySem.W.keepIn K (.ref fdraw) = true) (b_draw : Binds K fddraw ["_law_state_here", "_law_many"] [])
    (G_pair : FnOk P w K mg base CX0 2 fpair fdpair ["_law_prime_here", "_law_top", "_law_bottom"] spPair) (m_pair : mg "_law_pair" = some (.ref fpair)) (k_pair : PySem.W.keepIn K (.ref fpair) = true) (b_pair : Binds K fdpair ["_law_prime_here", "_law_top", "_law_bottom"] []) : FnOk P w K mg base CX0 3 f fd ["_law_state_here", "_law_prime_here"] spNumber := by
  refine F.ok sc_number (fun vs H Q E h => ?_) (fun cdv A outer s H vs Q E hr h => ?_)
  · obtain ⟨st, p, ad, rfl, _⟩ := h
    rfl
  · obtain ⟨st, p, ad, rfl, S, hg, k⟩ := h
    refine ⟨_, (pss_cons (ps_if (pt_cmpR op_gt (pv 1) pe_int (nomark _)) (pss_one (ps_ret (pe_tup (pa_cons (pe_call G_draw (hr.mono (by decide)) rfl m_draw k_draw b_draw .nil pass0 (pa_cons (pv 0) (pa_cons (pv 1) pa_nil))) (pa_cons pe_int pa_nil))))) pss_nil)
      (pss_cons (ps_set (i := 2) sc_number.nd rfl (Or.inl rfl) (pe_call G_draw (hr.mono (by decide)) rfl m_draw k_draw b_draw .nil pass0 (pa_cons (pv 0) (pa_cons pe_int pa_nil))))
      (pss_cons (ps_if (pt_cmpR op_eq (pv 2) pe_int (nomark _)) (pss_one (ps_ret (pe_tup (pa_cons pe_int (pa_cons pe_int pa_nil))))) pss_nil)
      (pss_cons (ps_if (pt_cmpR op_eq (pv 2) pe_int (nomark _)) (pss_one (ps_ret (pe_call G_pair (hr.mono (by decide)) rfl m_pair k_pair b_pair .nil pass0 (pa_cons pe_int (pa_cons (pe_op op_sub (pe_call G_draw (hr.mono (by decide)) rfl m_draw k_draw b_draw .nil pass0 (pa_cons (pv 0) (pa_cons pe_int pa_nil))) pe_int) (pa_cons (pe_op op_add pe_int (pe_call G_draw (hr.mono (by decide)) rfl m_draw k_draw b_draw .nil pass0 (pa_cons (pv 0) (pa_cons pe_int pa_nil)))) pa_nil)))))) pss_nil)
      (pss_one (ps_ret (pe_tup (pa_cons (pe_op op_sub (pe_call G_draw (hr.mono (by decide)) rfl m_draw k_draw b_draw .nil pass0 (pa_cons (pv 0) (pa_cons pe_int pa_nil))) pe_int) (pa_cons pe_int pa_nil))))))))), ?_⟩
    refine ⟨_, rfl, _, _, rfl, rfl, _, rfl, ?_⟩
    by_cases p0 : p = 0
    · subst p0
      refine itDn (by decide) ?_
      refine ⟨_, rfl, st, _, _, rfl, by decide, by decide, S, fun v H1 v0 v1 S1 B1 => ?_⟩
      refine ⟨_, rfl, rfl, _, rfl, ite2 (fun _ => ?_) (fun _ => ?_)⟩
      · exact ⟨(by show 2 ≤ sizeLine; decide), fun q hq => k q (0, 1) _ (S1.up hq) (B1.new hq) upd_same (num_ok0 hg)⟩
      · refine ⟨_, rfl, rfl, _, rfl, ite2 (fun _ => ?_) (fun _ => ?_)⟩
        · refine ⟨_, rfl, st, _, _, rfl, by decide, by decide, S1, fun t H2 t0 t1 S2 B2 => ⟨_, _, rfl, rfl, _, rfl, st, _, _, rfl, by decide, by decide, S2, fun u H3 u0 u1 S3 B3 => ⟨_, _, rfl, rfl, ?_⟩⟩⟩
          refine ⟨0, _, _, rfl, hg, fun h => absurd rfl h, by omega, fit_up (lt20f (by omega) (by omega)), fun q H4 s4 hq => ?_⟩
          have L := low_lowp (t - 9) (u := 1 + u) (by omega)
          refine k q _ H4 (S3.same s4) (((B1.trans B2).trans B3).trans (Same.but s4)) hq ?_
          unfold npair
          rw [if_pos rfl]
          refine ⟨L.pos, fun _ => ⟨L.cop, b5 ?_, b5 ?_⟩, fun h => absurd rfl h⟩
          · have := L.lt
            omega
          · have := L.lu
            omega
        · refine ⟨_, rfl, st, _, _, rfl, by decide, by decide, S1, fun t H2 t0 t1 S2 B2 => ⟨_, _, rfl, rfl, (by show 2 ≤ sizeLine; decide), fun q hq => ?_⟩⟩
          refine k q (t - 3, 1) _ (S2.up hq) ((B1.trans B2).new hq) upd_same ⟨(by show (1 : Int) ≤ 1; decide), fun _ => ⟨Int.gcd_one_right _, b5 ?_, (by show (1 : Int).natAbs < 2 ^ 5; decide)⟩, fun h => absurd rfl h⟩
          show (t - 3).natAbs < 32
          omega
    · have pl := prime_lt hg p0
      refine itD (by simp; omega) ?_
      refine ⟨_, rfl, _, rfl, st, _, _, rfl, by omega, by omega, S, fun v H1 v0 v1 S1 B1 => ⟨(by show 2 ≤ sizeLine; decide), fun q hq => ?_⟩⟩
      exact k q (v, 1) _ (S1.up hq) (B1.new hq) upd_same ⟨(by show (1 : Int) ≤ 1; decide), fun h => absurd h p0, fun _ => ⟨rfl, v0, v1⟩⟩
theorem sc_small : FnScope ["_law_state_here", "_law_prime_here", "_law_size", "_law_k"] ["_law_state_here", "_law_prime_here", "_law_size"] (defScope s_small) := ⟨rfl, rfl, rfl, by decide +kernel, rfl, by decide +kernel, by decide +kernel⟩
theorem ok_small {f fnumber : Addr} {fd fdnumber : FuncData} (F : Fun K "_law_small" "_law_small" s_small f fd) (D : DTx mg)
    (G_number : FnOk P w K mg base CX0 3 fnumber fdnumber ["_law_state_here", "_law_prime_here"] spNumber) (m_number : mg "_law_number" = some (.ref fnumber)) (k_number : PySem.W.keepIn K (.ref fnumber) = true) (b_number : Binds K fdnumber ["_law_state_here", "_law_prime_here"] []) : FnOk P w K mg base CX0 4 f fd ["_law_state_here", "_law_prime_here", "_law_size"] spSmall := by
  refine F.ok sc_small (fun vs H Q E h => ?_) (fun cdv A outer s H vs Q E hr h => ?_)
  · obtain ⟨st, p, n, ad, rfl, _⟩ := h
    rfl
  · obtain ⟨st, p, n, ad, rfl, S, hg, hn, k⟩ := h
    refine ⟨_, (pss_one (ps_ret (pe_lc (own := [("_law_k", 3)]) (g := gName 3) (tt := tYes) rfl sc_small.nd (pi_range1 (by rfl) D.b_range (pa_cons (pv 2) pa_nil)) (blkOk_by (N := ["_law_state_here", "_law_prime_here", "_law_size", "_law_k"]) (sc := defScope s_small) (by decide +kernel)) (fun _ _ _ _ _ => pg_name (i := 3) sc_small.nd rfl (Or.inl rfl)) (fun _ _ _ _ _ => pts_nil)
        (fun _ _ _ _ _ => pe_call G_number (hr.mono (by decide)) rfl m_number k_number b_number .nil pass0 (pa_cons (pv 0) (pa_cons (pv 1) pa_nil)))))), ?_⟩
    refine ⟨_, rfl, (n : Int), rfl, by omega, by omega, fun L hL => ?_⟩
    refine lc_range (lo := 0) (n := n) (fun i H' => ∃ (vs : List V) (prs : List (Int × Int)), StA H' st ad ∧ But st H H' ∧ H' L = some (.lst vs) ∧ RowV H' vs prs ∧ prs.length = i ∧ ∀ a ∈ prs, NumOk p a) ?_ ?_ ?_
    · exact ⟨[], [], S.up hL, (But.refl st H).new hL, upd_same, RowV.nil, rfl, fun a h => by cases h⟩
    · rintro i H1 hi ⟨vs, prs, S1, B1, h1, r1, l1, ok1⟩
      refine ⟨rfl, _, rfl, _, rfl, st, p, ad, rfl, S1, hg, fun q a H2 S2 B2 hq ok => ?_⟩
      have nL := S.ne hL
      have h2 := B2 _ _ h1 nL.1
      have e : (sizeLine : Nat) = 16777216 := sizeLine_eq
      refine ⟨vs, h2, by have := r1.len; omega, vs ++ [.ref q], prs ++ [a], ?_, ?_, upd_same, ((but_row S1 B2 r1).snoc hq).upd h2, by simp [l1], ?_⟩
      · exact S2.updL nL
      · exact but_new (B1.trans B2) hL
      · intro b hb
        rcases List.mem_append.mp hb with hb | hb
        · exact ok1 b hb
        · rw [List.mem_singleton.mp hb]
          exact ok
    · rintro H1 ⟨vs, prs, S1, B1, h1, r1, l1, ok1⟩
      exact k L prs H1 S1 B1 hL ⟨vs, h1, r1⟩ l1 ok1
theorem sc_trimmed : FnScope ["_law_row_here", "_law_size", "_law_at_here"] ["_law_row_here"] (defScope s_trimmed) := ⟨rfl, rfl, rfl, by decide +kernel, rfl, by decide +kernel, by decide +kernel⟩
theorem ok_trimmed {f : Addr} {fd : FuncData} (F : Fun K "_law_trimmed" "_law_trimmed" s_trimmed f fd) (D : DTx mg) : FnOk P w K mg base CX0 1 f fd ["_law_row_here"] spTrimmed := by
  refine F.ok sc_trimmed (fun vs H Q E h => ?_) (fun cdv A outer s H vs Q E hr h => ?_)
  · obtain ⟨l, prs, rfl, _⟩ := h
    rfl
  · obtain ⟨l, prs, rfl, ⟨vs, hl, r⟩, hn, k⟩ := h
    refine ⟨_, (pss_cons (ps_set (i := 1) sc_trimmed.nd rfl (Or.inl rfl) (pe_callB call_len_seq (by rfl) D.b_len (by decide +kernel) (pa_cons (pv 0) pa_nil)))
      (pss_cons (ps_for PassesOwn.never rfl (pi_range1 (by rfl) D.b_range (pa_cons (pe_callB call_len_seq (by rfl) D.b_len (by decide +kernel) (pa_cons (pv 0) pa_nil)) pa_nil)) (pg_name (i := 2) sc_trimmed.nd rfl (Or.inl rfl))
          (pss_one (ps_if (pt_cmpR op_eq (pe_ix ix_tup (pe_ix ix_list (pv 0) (pe_op op_sub (pv 1) pe_int) (fun _ _ => rfl)) pe_int (fun _ _ => rfl)) pe_int (nomark _)) (pss_one (ps_set (i := 1) sc_trimmed.nd rfl (Or.inl rfl) (pe_op op_sub (pv 1) pe_int))) (pss_one ps_break))))
      (pss_one (ps_ret (pe_slice sl_list (pv 0) po_none (po_some (pv 1))))))), ?_⟩
    have rl := r.len
    refine ⟨_, rfl, l, vs, rfl, .inl (SqL.of hl), _, rfl, l, vs, rfl, .inl (SqL.of hl), _, rfl, by omega, by omega, ?_⟩
    -- the end
    have fin : ∀ (n : Nat) (z : Option V) (H' : Hp), n ≤ prs.length → prs.take n = trimP prs → H' = H → (tRet (tSl (rSlL K) (tVar 0) tNoPart (tPart (tVar 1)))) { nx := fun x H' => Q .non H', rt := Q } [some (.ref l), some (.int (n : Int)), z] H' := by
      rintro n z H' hn2 ht rfl
      refine ⟨_, rfl, _, rfl, _, rfl, l, vs, rfl, SqL.of hl, fun q hq => ?_⟩
      refine k q _ (same_new (Same.refl _) hq) ⟨_, upd_same, ?_⟩
      rw [take_cut, ← ht]
      refine ⟨by rw [List.length_take, List.length_take, rl], fun i v a e1 e2 => ?_⟩
      rw [List.getElem?_take] at e1 e2
      split at e1
      · rename_i c
        rw [if_pos c] at e2
        obtain ⟨qq, e, hqq⟩ := r.at_ i v a e1 e2
        exact ⟨qq, e, hqq.same (same_new (Same.refl _) hq)⟩
      · cases e1
    refine for_range (lo := 0) (n := vs.length) (fun i σ H' => H' = H ∧ ∃ z, σ = [some (.ref l), some (.int ((prs.length - i : Nat) : Int)), z] ∧ i ≤ prs.length ∧ trimP (prs.take (prs.length - i)) = trimP prs) ?_ ?_ ?_
    · exact ⟨rfl, none, by rw [rl]; rfl, Nat.zero_le _, by rw [Nat.sub_zero, List.take_length]⟩
    · rintro i σ H' hi ⟨rfl, z, rfl, hi2, ht⟩
      have lj : prs.length - i - 1 < prs.length := by omega
      have lv : prs.length - i - 1 < vs.length := by omega
      obtain ⟨q, eq, hq⟩ := r.at_ _ _ _ (List.getElem?_eq_getElem lv) (List.getElem?_eq_getElem lj)
      have tk : prs.take (prs.length - i) = prs.take (prs.length - i - 1) ++ [prs[prs.length - i - 1]] := by
        have := take_more (List.getElem?_eq_getElem lj)
        rw [show prs.length - i - 1 + 1 = prs.length - i by omega] at this
        exact this
      refine ⟨_, rfl, _, rfl, _, _, rfl, rfl, _, _, _, _, rfl, rfl, SqL.of hl, at_of (j := prs.length - i - 1) (by omega) (List.getElem?_eq_getElem lv), q, _, _, _, eq, rfl, SqT.of hq, rfl, rfl, _, rfl, ?_⟩
      generalize prs[prs.length - i - 1] = a at *
      by_cases c : a.1 = 0
      · refine itD (by simp [c]) ⟨_, rfl, _, _, rfl, rfl, rfl, some (.int (0 + (i : Int))), ?_, by omega, ?_⟩
        · have : (((prs.length - i : Nat) : Int) - 1) = ((prs.length - (i + 1) : Nat) : Int) := by omega
          rw [← this]
          rfl
        · rw [show prs.length - (i + 1) = prs.length - i - 1 by omega, ← ht, tk, trimP_zero c]
      · refine itDn (by simp [c]) ?_
        refine fin (prs.length - i) _ _ (by omega) ?_ rfl
        rw [← ht, tk, trimP_keep c]
    · rintro σ H' ⟨rfl, z, rfl, hi2, ht⟩
      refine fin _ z _ (by omega) ?_ rfl
      rw [← ht, rl, Nat.sub_self, List.take_zero]
      rfl
end
end Sq

namespace Sq
open PySem L2 PyProof.Rows
abbrev s_told : Stmt := top 59
abbrev s_value : Stmt := top 64
theorem mkF_go {K : PySem.W.Frag} {CF CNF z dz : Addr} {H : Hp} {p : Int} {Q : VK} {E : XK} (hg : goodP p = true) (nz : H z = none) (ndz : H dz = none) (_ne : dz ≠ z) (k : ∀ H', FldAt CF H' z p → Same H H' → Q .non H') :
    spFieldInit K CF CNF [.ref z, .int p] (upd (upd H dz (.own z)) z (.ins CF dz [])) Q E :=
  ⟨z, dz, .int p, rfl, upd_same, .int _, fun h => (by have := h p rfl; rw [hg] at this; cases this), fun p' e _ H' hx b => (by cases e; exact k H' hx (same_made nz ndz b))⟩
def spTold (C CP CF : Addr) : Sp := fun vs H Q _ => ∃ (p : Int) (x : Addr) (prs : List (Int × Int)), vs = [.int p, .ref x] ∧ goodP p = true ∧ Pol C CP CF H x p prs ∧ trimP prs = prs ∧ prs.length ≤ 900 ∧ ∀ l H', Same H H' → RowAt H' l prs → Q (.ref l) H'
def spValue : Sp := fun vs H Q _ => ∃ (p : Int) (l q : Addr) (prs : List (Int × Int)) (a : Int × Int), vs = [.int p, .ref l, .ref q] ∧ goodP p = true ∧ RowAt H l prs ∧ PairAt H q a ∧ prs.length ≤ 100 ∧ (∀ b ∈ prs, NumOk p b) ∧ NumOk p a ∧ ∀ r H', Same H H' → PairAt H' r (horner p a prs) → Q (.ref r) H'
structure IPy (K : PySem.W.Frag) (C : Addr) : Prop where
  ha : PySem.W.findIn K (.ref C) "__class__" = some (some (.builtin "object.__class__"))
  hn : PySem.W.specialIn K (.builtin "object.__class__") "__get__" = some (some (.builtin "getset_descriptor.__get__"))
  htk : PySem.W.takesIn K (.builtin "object.__class__") = some true
  hm : PySem.W.mroIn K C (.type "object") = some true
theorem room65 {k : Nat} {A : Around} (r : Room k A) : A.units + 65 < cLine := by
  have := r.un
  omega
theorem NumOk.pb {p : Int} {a : Int × Int} (hg : goodP p = true) (h : NumOk p a) : PB p a := ⟨h.1, fun p0 => (h.2.2 p0).1, (h.bd hg).le (by decide)⟩
theorem PB.plus {p : Int} {a b : Int × Int} (hg : goodP p = true) (p0 : p ≠ 0) : PB p (plusP p a b) := by
  have := prime_lt hg p0
  unfold plusP npair
  rw [if_neg p0]
  have h0 := Int.emod_nonneg (a.1 * b.2 + b.1 * a.2) p0
  have h1 := Int.emod_lt_of_pos (a.1 * b.2 + b.1 * a.2) (show 0 < p by omega)
  exact ⟨(by show (1 : Int) ≤ 1; decide), fun _ => rfl, Bd.le (n := 20) ⟨lt20 (by omega) (by omega), (by show (1 : Int).natAbs < 2 ^ 20; decide)⟩ (by decide)⟩
theorem PB.times {p : Int} {a b : Int × Int} (hg : goodP p = true) (p0 : p ≠ 0) : PB p (timesP p a b) := by
  have := prime_lt hg p0
  unfold timesP npair
  rw [if_neg p0]
  have h0 := Int.emod_nonneg (a.1 * b.1) p0
  have h1 := Int.emod_lt_of_pos (a.1 * b.1) (show 0 < p by omega)
  exact ⟨(by show (1 : Int) ≤ 1; decide), fun _ => rfl, Bd.le (n := 20) ⟨lt20 (by omega) (by omega), (by show (1 : Int).natAbs < 2 ^ 20; decide)⟩ (by decide)⟩
section
variable {P : Program} {w : World} {K : PySem.W.Frag} {mg : Str → Option Value} {base : Heap}
theorem sc_lread : FnScope ["_law_prime_here", "_law_told"] ["_law_prime_here", "_law_told"] (defScope s_lread) := ⟨rfl, rfl, rfl, by decide +kernel, rfl, by decide +kernel, by decide +kernel⟩
theorem ok_lread {f C flisint fgcd : Addr} {fd fdlisint fdgcd : FuncData} (F : Fun K "_law_read" "_law_read" s_lread f fd) (T : CTx K C) (Y : ITy K C) (I : ITx mg) (m_C : mg "Ratio" = some (.ref C))
    (G_lisint : FnOk P w K mg base CX0 1 flisint fdlisint ["_law_told"] (spIsInt K)) (m_lisint : mg "_law_is_integer" = some (.ref flisint)) (k_lisint : PySem.W.keepIn K (.ref flisint) = true) (b_lisint : Binds K fdlisint ["_law_told"] [])
    (G_gcd : FnOk P w K mg base CX0 1 fgcd fdgcd ["_law_one", "_law_other"] spGcd) (m_gcd : mg "_law_gcd" = some (.ref fgcd)) (k_gcd : PySem.W.keepIn K (.ref fgcd) = true) (b_gcd : Binds K fdgcd ["_law_one", "_law_other"] []) : FnOk P w K mg base CX0 2 f fd ["_law_prime_here", "_law_told"] (spLRead C) := by
  refine F.ok sc_lread (fun vs H Q E h => ?_) (fun cdv A outer s H vs Q E hr h => ?_)
  · obtain ⟨p, y, a, rfl, _⟩ := h
    rfl
  · obtain ⟨p, y, a, rfl, hg, fn, k⟩ := h
    refine ⟨_, (pss_cons (ps_if (pt_cmpR op_gt (pv 0) pe_int (nomark _))
        (pss_cons (ps_if (PW.pt (pw_and (pt_val (pe_call G_lisint (hr.mono (by decide)) rfl m_lisint k_lisint b_lisint .nil pass0 (pa_cons (pv 1) pa_nil))) (pw_and1 (pt_chain op_le op_lt pe_int (pv 1) (pv 0))))) (pss_one (ps_ret (pe_tup (pa_cons (pv 1) (pa_cons pe_int pa_nil))))) pss_nil)
        (pss_one (ps_ret pe_non))) pss_nil)
      (pss_cons (ps_if (PW.pt (pw_or (pt_not (pt_val (pe_callB call_isi (by rfl) I.b_isinstance (by decide +kernel) (pa_cons (pv 1) (pa_cons (pe_glob (v := .ref C) rfl m_C rfl) pa_nil))))) (pw_or (pt_not (pt_val (pe_call G_lisint (hr.mono (by decide)) rfl m_lisint k_lisint b_lisint .nil pass0 (pa_cons (pe_fld (pv 1) rfl) pa_nil)))) (pw_or1 (pt_not (pt_val (pe_call G_lisint (hr.mono (by decide)) rfl m_lisint k_lisint b_lisint .nil pass0 (pa_cons (pe_fld (pv 1) rfl) pa_nil)))))))) (pss_one (ps_ret pe_non)) pss_nil)
      (pss_cons (ps_if (PW.pt (pw_or (pt_cmpR op_lt (pe_fld (pv 1) rfl) pe_int (nomark _)) (pw_or1 (pt_cmpR op_ne (pe_call G_gcd (hr.mono (by decide)) rfl m_gcd k_gcd b_gcd .nil pass0 (pa_cons (pe_fld (pv 1) rfl) (pa_cons (pe_fld (pv 1) rfl) pa_nil))) pe_int (nomark _))))) (pss_one (ps_ret pe_non)) pss_nil)
      (pss_one (ps_ret (pe_tup (pa_cons (pe_fld (pv 1) rfl) (pa_cons (pe_fld (pv 1) rfl) pa_nil)))))))), ?_⟩
    refine ⟨_, rfl, _, _, rfl, rfl, _, rfl, ?_⟩
    rcases fn with ⟨p0, ⟨r, rfl, R⟩, pu, cop⟩ | ⟨p0, rfl, a2, a0, a1⟩
    · refine itDn (by simp [p0]) ?_
      obtain ⟨dx, hx⟩ := id R
      refine ⟨_, rfl, _, _, _, _, true, rfl, .own C, R.ty T Y, kit_self, true, rfl, iteF ?_⟩
      refine ⟨_, rfl, r, C, dx, _, _, rfl, hx, T.cl, T.nT, rf_top _ _, _, rfl, IsTy.int _, _, rfl, iteF ?_⟩
      refine ⟨_, rfl, r, C, dx, _, _, rfl, hx, T.cl, T.nB, rf_bottom _ _, _, rfl, IsTy.int _, _, rfl, iteF ?_⟩
      refine ⟨_, rfl, r, C, dx, _, _, rfl, hx, T.cl, T.nB, rf_bottom _ _, _, _, rfl, rfl, _, rfl, itDn (by simp; omega) ?_⟩
      refine ⟨_, rfl, r, C, dx, _, _, rfl, hx, T.cl, T.nT, rf_top _ _, _, rfl, r, C, dx, _, _, rfl, hx, T.cl, T.nB, rf_bottom _ _, _, _, rfl, rfl, _, rfl, ?_⟩
      rw [cop]
      refine iteF ⟨_, rfl, r, C, dx, _, _, rfl, hx, T.cl, T.nT, rf_top _ _, _, rfl, r, C, dx, _, _, rfl, hx, T.cl, T.nB, rf_bottom _ _, (by show 2 ≤ sizeLine; decide), fun q hq => ?_⟩
      exact k q _ (same_new (Same.refl _) hq) upd_same
    · have := prime_lt hg p0
      refine itD (by simp; omega) ⟨_, rfl, _, rfl, .int _, _, rfl, iteT ?_⟩
      refine ⟨_, rfl, _, _, rfl, rfl, _, rfl, itD (by simpa using a0) ⟨_, rfl, _, _, rfl, rfl, _, rfl, itD (by simpa using a1) ?_⟩⟩
      refine ⟨_, rfl, (by show 2 ≤ sizeLine; decide), fun q hq => ?_⟩
      refine k q _ (same_new (Same.refl _) hq) ?_
      show upd H q _ q = some (.tup [.int a.1, .int a.2])
      rw [a2]
      exact upd_same
theorem sc_rowt : FnScope ["_law_prime_here", "_law_told", "_law_found", "_law_number_here"] ["_law_prime_here", "_law_told"] (defScope s_rowt) := ⟨rfl, rfl, rfl, by decide +kernel, rfl, by decide +kernel, by decide +kernel⟩
theorem ok_rowt {f C flread : Addr} {fd fdlread : FuncData} (F : Fun K "_law_row" "_law_row" s_rowt f fd) (I : ITx mg) (B : QTx mg)
    (G_lread : FnOk P w K mg base CX0 2 flread fdlread ["_law_prime_here", "_law_told"] (spLRead C)) (m_lread : mg "_law_read" = some (.ref flread)) (k_lread : PySem.W.keepIn K (.ref flread) = true) (b_lread : Binds K fdlread ["_law_prime_here", "_law_told"] []) : FnOk P w K mg base CX0 3 f fd ["_law_prime_here", "_law_told"] (spRowT C) := by
  refine F.ok sc_rowt (fun vs H Q E h => ?_) (fun cdv A outer s H vs Q E hr h => ?_)
  · obtain ⟨p, ct, ys, prs, rfl, _⟩ := h
    rfl
  · obtain ⟨p, ct, ys, prs, rfl, hg, hct, fn, hl, k⟩ := h
    refine ⟨_, (pss_cons (ps_if (pt_not (pt_val (pe_callB call_isi (by rfl) I.b_isinstance (by decide +kernel) (pa_cons (pv 1) (pa_cons (pe_bltn (v := .ty "tuple") (by rfl) B.b_tuple (by decide +kernel) rfl) pa_nil))))) (pss_one (ps_ret pe_non)) pss_nil)
      (pss_cons (ps_setLc (i := 2) (own := [("_law_number_here", 3)]) (g := gName 3) (tt := tYes) rfl sc_rowt.nd rfl rfl (sw_true rfl rfl rfl (by decide +kernel))
        (pi_tup (pv 1)) (blkOk_by (N := ["_law_prime_here", "_law_told", "_law_found", "_law_number_here"]) (sc := defScope s_rowt) (by decide +kernel)) (fun _ _ _ _ _ => pg_name (i := 3) sc_rowt.nd rfl (Or.inl rfl)) (fun _ _ _ _ _ => pts_nil)
        (fun _ _ _ _ _ => pe_call G_lread (hr.mono (by decide)) rfl m_lread k_lread b_lread .nil pass0 (pa_cons (pv 0) (pa_cons (pv 3) pa_nil))))
      (pss_cons (ps_if (pt_cmpR (op_inD (room65 hr)) pe_non (pv 2) (by rfl)) (pss_one (ps_ret pe_non)) pss_nil)
      (pss_one (ps_ret (pv 2)))))), ?_⟩
    refine ⟨_, rfl, _, _, _, _, true, rfl, .ty _, .base (.tup hct), kit_ty (by decide +kernel), true, rfl, iteF ?_⟩
    refine ⟨_, rfl, ct, rfl, ⟨ys, SqT.of hct⟩, fun L hL => ?_⟩
    refine lc_tup (xs := ys) (fun i H' => ∃ vs, Same H H' ∧ H' L = some (.lst vs) ∧ RowV H' vs (prs.take i)) ?_ ?_ ?_ ?_
    · exact ⟨[], same_new (Same.refl H) hL, upd_same, RowV.nil⟩
    · rintro i H' _ ⟨vs, s1, _⟩
      exact SqT.of (s1 _ _ hct)
    · rintro i y H1 hi ⟨vs, s1, h1, r1⟩
      have li := get_len hi
      have lp : i < prs.length := by rw [← fn.len]; exact li
      have ep : prs[i]? = some prs[i] := List.getElem?_eq_getElem lp
      have f1 := (fn.at_ i y _ hi ep).same s1
      refine ⟨rfl, _, rfl, _, rfl, p, y, _, rfl, hg, f1, fun q H2 s2 hq => ?_⟩
      have h2 := s2 _ _ h1
      have e : (sizeLine : Nat) = 16777216 := sizeLine_eq
      have lv := r1.len
      rw [List.length_take] at lv
      refine ⟨vs, h2, by omega, vs ++ [.ref q], same_at (s1.trans s2) hL, upd_same, ?_⟩
      rw [take_more ep]
      exact ((r1.same s2).snoc hq).upd h2
    · rintro H1 ⟨vs, s1, h1, r1⟩
      rw [fn.len, List.take_length] at r1
      have ra : RowAt H1 L prs := ⟨vs, h1, r1⟩
      refine ⟨_, rfl, _, _, .non, ra.dp, by decide, row_shaped prs, _, rfl, ?_⟩
      rw [none_free]
      exact iteF ⟨_, rfl, k L H1 s1 ra⟩
theorem sc_told : FnScope ["_law_prime_here", "_law_told", "_law_row_here"] ["_law_prime_here", "_law_told"] (defScope s_told) := ⟨rfl, rfl, rfl, by decide +kernel, rfl, by decide +kernel, by decide +kernel⟩
theorem ok_told {f C CP CF CNF fF feq frowt ftrimmed flisint : Addr} {fd fdF fdeq fdrowt fdtrimmed fdlisint : FuncData} (F : Fun K "_law_told_poly" "_law_told_poly" s_told f fd) (TP : PTx K CP) (YP : IPy K CP) (TF : FTx K CF) (YF : IFy K CF) (I : ITx mg) (D : DTx mg) (m_P : mg "Poly" = some (.ref CP)) (m_CF : mg "Field" = some (.ref CF)) (MF : Mk K CF fF)
    (G_F : FnOk P w K mg base (L2.CX P w) 2 fF fdF ["self", "prime"] (spFieldInit K CF CNF)) (b_F : Binds K fdF ["self", "prime"] []) (O_feq : OwnOp K CF feq "__eq__") (nfF : PySem.W.notFirst K CF (.ref CF) = true) (G_feq : FnOk P w K mg base CX0 1 feq fdeq ["self", "other"] (spF_eq K CF)) (b_feq : Binds K fdeq ["self", "other"] [])
    (G_rowt : FnOk P w K mg base CX0 3 frowt fdrowt ["_law_prime_here", "_law_told"] (spRowT C)) (m_rowt : mg "_law_row" = some (.ref frowt)) (k_rowt : PySem.W.keepIn K (.ref frowt) = true) (b_rowt : Binds K fdrowt ["_law_prime_here", "_law_told"] [])
    (G_trimmed : FnOk P w K mg base CX0 1 ftrimmed fdtrimmed ["_law_row_here"] spTrimmed) (m_trimmed : mg "_law_trimmed" = some (.ref ftrimmed)) (k_trimmed : PySem.W.keepIn K (.ref ftrimmed) = true) (b_trimmed : Binds K fdtrimmed ["_law_row_here"] [])
    (G_lisint : FnOk P w K mg base CX0 1 flisint fdlisint ["_law_told"] (spIsInt K)) (m_lisint : mg "_law_is_integer" = some (.ref flisint)) (k_lisint : PySem.W.keepIn K (.ref flisint) = true) (b_lisint : Binds K fdlisint ["_law_told"] []) : FnOk P w K mg base CX0 4 f fd ["_law_prime_here", "_law_told"] (spTold C CP CF) := by
  refine F.ok sc_told (fun vs H Q E h => ?_) (fun cdv A outer s H vs Q E hr h => ?_)
  · obtain ⟨p, x, prs, rfl, _⟩ := h
    rfl
  · obtain ⟨p, x, prs, rfl, hg, ⟨dx, fx, ct, ys, PO⟩, ht, hl, k⟩ := h
    refine ⟨_, (pss_cons (ps_if (PW.pt (pw_or (pt_not (pt_val (pe_callB call_isi (by rfl) I.b_isinstance (by decide +kernel) (pa_cons (pv 1) (pa_cons (pe_glob (v := .ref CP) rfl m_P rfl) pa_nil))))) (pw_or1 (pt_not (pt_cmpR (op_ownEq O_feq G_feq (hr.mono (by decide)) b_feq pass0) (pe_fld (pv 1) rfl) (pe_make MF G_F (hr.mono (by decide)) rfl m_CF b_F .nil passL (pa_cons (pv 0) pa_nil)) (nomark _)))))) (pss_one (ps_ret pe_non)) pss_nil)
      (pss_cons (ps_set (i := 2) sc_told.nd rfl (Or.inl rfl) (pe_call G_rowt (hr.mono (by decide)) rfl m_rowt k_rowt b_rowt .nil pass0 (pa_cons (pv 0) (pa_cons (pe_fld (pv 1) rfl) pa_nil))))
      (pss_cons (ps_if (PW.pt (pw_or (pt_cmpR op_isN (pv 2) pe_non (nomark _)) (pw_or (pt_cmpR (op_neD hr.units) (pe_call G_trimmed (hr.mono (by decide)) rfl m_trimmed k_trimmed b_trimmed .nil pass0 (pa_cons (pv 2) pa_nil)) (pv 2) (nomark _)) (pw_or (pt_not (pt_val (pe_call G_lisint (hr.mono (by decide)) rfl m_lisint k_lisint b_lisint .nil pass0 (pa_cons (pe_fld (pv 1) rfl) pa_nil)))) (pw_or1 (pt_cmpR op_ne (pe_fld (pv 1) rfl) (pe_op op_sub (pe_callB call_len_seq (by rfl) D.b_len (by decide +kernel) (pa_cons (pv 2) pa_nil)) pe_int) (nomark _))))))) (pss_one (ps_ret pe_non)) pss_nil)
      (pss_one (ps_ret (pv 2)))))), ?_⟩
    refine ⟨_, rfl, _, _, _, _, true, rfl, .own CP, .base (.ins PO.ob TP.cl YP.ha YP.hn YP.htk YP.hm), kit_self, true, rfl, iteF ?_⟩
    obtain ⟨df, hf⟩ := id PO.fl
    refine ⟨_, rfl, x, CP, dx, _, _, rfl, PO.ob, TP.cl, TP.nF, plf_field _ _ _, _, rfl, fun z dz nz ndz ne => mkF_go hg nz ndz ne fun H1 hz s1 => ⟨rfl, ?_⟩⟩
    have PO1 := PO.same s1
    refine ⟨fx, df, _, _, rfl, s1 _ _ hf, hz.ty TF YF, nfF, fx, .ref z, p, rfl, PO1.fl, .inl ⟨z, p, rfl, hz, _, rfl, ?_⟩⟩
    rw [decide_eq_true rfl]
    refine iteF ?_
    refine ⟨_, rfl, _, rfl, x, CP, dx, _, _, rfl, PO1.ob, TP.cl, TP.nC, plf_coef _ _ _, p, ct, ys, prs, rfl, hg, PO1.co, PO1.nu, by rw [PO.nu.len]; omega, fun l H2 s2 ra => ?_⟩
    have PO2 := PO1.same s2
    refine ⟨_, rfl, rfl, _, rfl, iteF ?_⟩
    refine ⟨_, rfl, l, prs, rfl, ra, by omega, fun l' H3 s3 ra' => ?_⟩
    rw [ht] at ra'
    have PO3 := PO2.same s3
    have ra3 := ra.same s3
    refine ⟨_, rfl, _, _, ra'.dp, ra3.dp, row_shaped prs, row_shaped prs, _, rfl, ?_⟩
    rw [SeqAt.eqv_refl _ (SeqAt.canLay_of_shaped (row_shaped prs))]
    refine iteF ?_
    refine ⟨_, rfl, x, CP, dx, _, _, rfl, PO3.ob, TP.cl, TP.nD, plf_deg _ _ _, _, rfl, IsTy.int _, _, rfl, iteF ?_⟩
    obtain ⟨vs, hv, rv⟩ := id ra3
    refine ⟨_, rfl, x, CP, dx, _, _, rfl, PO3.ob, TP.cl, TP.nD, plf_deg _ _ _, _, rfl, l, vs, rfl, .inl (SqL.of hv), _, _, rfl, rfl, rfl, _, rfl, ?_⟩
    rw [rv.len, decide_eq_true rfl]
    exact iteF ⟨_, rfl, k l H3 ((s1.trans s2).trans s3) ra3⟩
theorem sc_value : FnScope ["_law_prime_here", "_law_row_here", "_law_x", "_law_total", "_law_k"] ["_law_prime_here", "_law_row_here", "_law_x"] (defScope s_value) := ⟨rfl, rfl, rfl, by decide +kernel, rfl, by decide +kernel, by decide +kernel⟩
theorem ok_value {f fplus ftimes : Addr} {fd fdplus fdtimes : FuncData} (F : Fun K "_law_value" "_law_value" s_value f fd) (D : DTx mg)
    (G_plus : FnOk P w K mg base CX0 3 fplus fdplus ["_law_prime_here", "_law_one", "_law_other"] spPlus) (m_plus : mg "_law_plus" = some (.ref fplus)) (k_plus : PySem.W.keepIn K (.ref fplus) = true) (b_plus : Binds K fdplus ["_law_prime_here", "_law_one", "_law_other"] [])
    (G_times : FnOk P w K mg base CX0 3 ftimes fdtimes ["_law_prime_here", "_law_one", "_law_other"] spTimes) (m_times : mg "_law_times" = some (.ref ftimes)) (k_times : PySem.W.keepIn K (.ref ftimes) = true) (b_times : Binds K fdtimes ["_law_prime_here", "_law_one", "_law_other"] []) : FnOk P w K mg base CX0 4 f fd ["_law_prime_here", "_law_row_here", "_law_x"] spValue := by
  refine F.ok sc_value (fun vs H Q E h => ?_) (fun cdv A outer s H vs Q E hr h => ?_)
  · obtain ⟨p, l, q, prs, a, rfl, _⟩ := h
    rfl
  · obtain ⟨p, l, q, prs, a, rfl, hg, ⟨vs, hv, rv⟩, hq, hl, okb, oka, k⟩ := h
    refine ⟨_, (pss_cons (ps_set (i := 3) sc_value.nd rfl (Or.inl rfl) (pe_tup (pa_cons pe_int (pa_cons pe_int pa_nil))))
      (pss_cons (ps_for PassesOwn.never rfl (pi_range3 (by rfl) D.b_range (pa_cons (pe_op op_sub (pe_callB call_len_seq (by rfl) D.b_len (by decide +kernel) (pa_cons (pv 1) pa_nil)) pe_int) (pa_cons (pe_un un_neg pe_int) (pa_cons (pe_un un_neg pe_int) pa_nil)))) (pg_name (i := 4) sc_value.nd rfl (Or.inl rfl))
          (pss_one (ps_set (i := 3) sc_value.nd rfl (Or.inl rfl) (pe_call G_plus (hr.mono (by decide)) rfl m_plus k_plus b_plus .nil pass0 (pa_cons (pv 0) (pa_cons (pe_call G_times (hr.mono (by decide)) rfl m_times k_times b_times .nil pass0 (pa_cons (pv 0) (pa_cons (pv 3) (pa_cons (pv 2) pa_nil)))) (pa_cons (pe_ix ix_list (pv 1) (pv 4) (fun _ _ => rfl)) pa_nil)))))))
      (pss_one (ps_ret (pv 3))))), ?_⟩
    refine ⟨(by show 2 ≤ sizeLine; decide), fun r0 hr0 => ?_⟩
    have s0 := same_new (o := .tup [.int 0, .int 1]) (Same.refl H) hr0
    have rl := rv.len
    refine ⟨_, rfl, l, vs, rfl, .inl (SqL.of (s0 _ _ hv)), _, _, rfl, rfl, _, rfl, _, rfl, _, _, _, _, rfl, RgC.neg (by omega) (by omega) (by decide) (by decide), ?_⟩
    have en : (((vs.length : Nat) : Int) - 1 - -1).toNat = prs.length := by omega
    rw [en]
    refine for_rangeC (fun i σ H' => ∃ (r : Addr) (z : Option V), σ = [some (.int p), some (.ref l), some (.ref q), some (.ref r), z] ∧ Same H H' ∧ PairAt H' r (horner p a (prs.drop (prs.length - i))) ∧ 1 ≤ (horner p a (prs.drop (prs.length - i))).2 ∧ (p = 0 → Bd (1 + 11 * i) (horner p a (prs.drop (prs.length - i)))) ∧ (p ≠ 0 → PB p (horner p a (prs.drop (prs.length - i))))) ?_ ?_ ?_
    · refine ⟨r0, none, rfl, s0, ?_, ?_, fun _ => ?_, fun _ => ?_⟩
      all_goals rw [Nat.sub_zero, List.drop_length]
      · exact upd_same
      · exact (by decide : (1 : Int) ≤ 1)
      · exact ⟨(by show (0 : Nat) < 2 ^ 1; decide), (by show (1 : Nat) < 2 ^ 1; decide)⟩
      · exact (num_ok0 hg).pb hg
    · rintro i σ H1 hi ⟨r, z, rfl, s1, hp, hpos, hb0, hb1⟩
      have lj : prs.length - 1 - i < prs.length := by omega
      have lv : prs.length - 1 - i < vs.length := by omega
      obtain ⟨qc, eq, hqc⟩ := rv.at_ _ _ _ (List.getElem?_eq_getElem lv) (List.getElem?_eq_getElem lj)
      have okc := okb _ (List.getElem_mem lj)
      have dr : prs.drop (prs.length - (i + 1)) = prs[prs.length - 1 - i] :: prs.drop (prs.length - i) := by
        have e1 : prs.length - (i + 1) = prs.length - 1 - i := by omega
        rw [e1, List.drop_eq_getElem_cons lj]
        congr 2
        omega
      have hstep : horner p a (prs.drop (prs.length - (i + 1))) = plusP p (timesP p (horner p a (prs.drop (prs.length - i))) a) prs[prs.length - 1 - i] := by
        rw [dr]
        rfl
      generalize prs[prs.length - 1 - i] = c at *
      generalize horner p a (prs.drop (prs.length - i)) = acc at *
      have pacc : PB p acc := by
        by_cases p0 : p = 0
        · exact ⟨hpos, fun h => absurd p0 h, (hb0 p0).le (by omega)⟩
        · exact hb1 p0
      have bt : p = 0 → Bd (1 + 11 * i + 5) (timesP p acc a) := fun p0 => by
        have := times_bd (hb0 p0) (oka.2.1 p0).2 hpos oka.1
        rw [p0]
        exact this
      have pt : 1 ≤ (timesP p acc a).2 := by
        by_cases p0 : p = 0
        · rw [p0]
          exact npair_pos (mul_ne (by omega) (by have := oka.1; omega))
        · exact (PB.times hg p0).1
      have ptm : PB p (timesP p acc a) := by
        by_cases p0 : p = 0
        · exact ⟨pt, fun h => absurd p0 h, (bt p0).le (by omega)⟩
        · exact PB.times hg p0
      refine ⟨_, rfl, _, rfl, _, rfl, _, rfl, p, r, q, acc, a, rfl, hg, hp, hq.same s1, pacc, oka.pb hg, fun rt H2 s2 ht => ?_⟩
      refine ⟨_, rfl, _, rfl, _, _, _, _, rfl, rfl, SqL.of (s2 _ _ (s1 _ _ hv)), at_of (j := prs.length - 1 - i) (by omega) (List.getElem?_eq_getElem lv), ?_⟩
      rw [eq]
      refine ⟨p, rt, qc, _, c, rfl, hg, ht, (hqc.same s1).same s2, ptm, okc.pb hg, fun r' H3 s3 hr' => ?_⟩
      refine ⟨r', _, rfl, (s1.trans s2).trans s3, ?_, ?_, fun p0 => ?_, fun p0 => ?_⟩
      all_goals rw [hstep]
      · exact hr'
      · by_cases p0 : p = 0
        · rw [p0]
          rw [p0] at pt
          exact npair_pos (mul_ne (by omega) (by have := okc.1; omega))
        · exact (PB.plus hg p0).1
      · have h1 := plus_bd (bt p0) (okc.2.1 p0).2 pt okc.1
        rw [p0] at h1 ⊢
        exact h1.le (by omega)
      · exact PB.plus hg p0
    · rintro σ H1 ⟨r, z, rfl, s1, hp, _⟩
      rw [Nat.sub_self, List.drop_zero] at hp
      exact ⟨_, rfl, k r H1 s1 hp⟩
end
end Sq

namespace Sq
open PySem L2 PyProof.Rows
abbrev s_refused : Stmt := top 61
abbrev s_counted : Stmt := top 62
abbrev s_lat : Stmt := top 63
/-- xs == [] -/
theorem op_eqNil {X : Cx} (hu : X.A.units < cLine) : OpR X (compareOp .Eq) (fun x y H Q => ∃ a b xs, x = .ref a ∧ y = .ref b ∧ SqL X.K H a xs ∧ SqL X.K H b [] ∧ Q (.bl xs.isEmpty) H) := by
  intro pins s σ H x y v u Q I rx ry h
  obtain ⟨a, b, xs, rfl, rfl, ha, hb, q⟩ := h
  cases rx
  cases ry
  obtain ⟨its, rv, hl, _⟩ := I.list ha
  obtain ⟨jts, rw', hl', _⟩ := I.list hb
  have e0 : jts = [] := by
    cases rw'
    rfl
  subst e0
  cases xs with
  | nil =>
    have e1 : its = [] := by
      cases rv
      rfl
    subst e1
    refine SeqAt.eq_listAt (e := fun _ => true) hl.isList hl'.isList rfl hu (fun j h1 _ => absurd h1 (by simp)) ⟨.bl _, H, I, rfl, q⟩
  | cons z zs =>
    refine SeqAt.eq_list_lengthsAt hl.isList hl'.isList ?_ hu ⟨.bl _, H, I, rfl, q⟩
    cases rv
    simp
def toldR : Option (List (Option (Int × Int))) → List V
  | none => [.str "refused", .int (-1)]
  | some os => if (pre os).length < os.length then [.str "refused", .int ((pre os).length : Nat)] else [.str "made", .int 0]
theorem toldR_ref {os : List (Option (Int × Int))} (h : (pre os).length < os.length) : toldR (some os) = [.str "refused", .int ((pre os).length : Nat)] := if_pos h
theorem toldR_made {os : List (Option (Int × Int))} (h : (pre os).length = os.length) : toldR (some os) = [.str "made", .int 0] := if_neg (by omega)
theorem RowIn.same {K : PySem.W.Frag} {C : Addr} {H H' : Hp} {p : Int} {n : Nat} {v : V} {o : Option (List (Option (Int × Int)))} (s : Same H H') (h : RowIn K C H p n v o) : RowIn K C H' p n v o := by
  cases h with
  | no h => exact .no (h.same s)
  | long h n => exact .long (h.same s) n
  | row h n g => exact .row (h.same s) n (g.same s)
def spRefused (K : PySem.W.Frag) (C CF CRd : Addr) : Sp := fun vs H Q _ => ∃ (x : Addr) (p : Int) (v : V) (o : Option (List (Option (Int × Int)))), vs = [.ref x, v] ∧ FldAt CF H x p ∧ goodP p = true ∧ NotC K H v CRd ∧ RowIn K C H p 100 v o ∧ ∀ q H', Same H H' → H' q = some (.tup (toldR o)) → Q (.ref q) H'
def spCounted (K : PySem.W.Frag) (C CP CF : Addr) : Sp := fun vs H Q _ => ∃ (x : Addr) (p : Int) (prs : List (Int × Int)) (v : V), vs = [.ref x, v] ∧ Pol C CP CF H x p prs ∧ goodP p = true ∧ prs.length ≤ 1000000 ∧ IsTy K H v ∧ (∀ k, v = .int k → k < 0) ∧ ∀ H', Same H H' → Q (.str "refused") H'
def spLat (K : PySem.W.Frag) (C CP CF : Addr) : Sp := fun vs H Q _ => ∃ (x : Addr) (p : Int) (prs : List (Int × Int)) (v : V) (wy : Int), vs = [.ref x, v, .int wy] ∧ Pol C CP CF H x p prs ∧ goodP p = true ∧ Giv K C H p v none ∧ ∀ H', Same H H' → Q (.str "refused") H'
section
variable {P : Program} {w : World} {K : PySem.W.Frag} {mg : Str → Option Value} {base : Heap}
theorem sc_refused : FnScope ["_law_field", "_law_row_here", "e"] ["_law_field", "_law_row_here"] (defScope s_refused) := ⟨rfl, rfl, rfl, by decide +kernel, rfl, by decide +kernel, by decide +kernel⟩
theorem ok_refused {f C CF CP CRd CNP fNP fpinit : Addr} {fd fdpinit : FuncData} (F : Fun K "_law_refused" "_law_refused" s_refused f fd) (m_P : mg "Poly" = some (.ref CP)) (m_NP : mg "NoPoly" = some (.ref CNP)) (NP : NTxF K "place" CNP fNP) (te : PySem.W.exmOne K (.ref CNP) (.ref CNP) = some true) (xf : XfC K CNP) (MP : Mk K CP fpinit)
    (G_pinit : FnOk P w K mg base (L2.CX P w) 11 fpinit fdpinit ["self", "field", "coefficients"] (spPolyInit K C CP CF CRd CNP)) (b_pinit : Binds K fdpinit ["self", "field", "coefficients"] []) : FnOk P w K mg base CX0 13 f fd ["_law_field", "_law_row_here"] (spRefused K C CF CRd) := by
  refine F.ok sc_refused (fun vs H Q E h => ?_) (fun cdv A outer s H vs Q E hr h => ?_)
  · obtain ⟨x, p, v, o, rfl, _⟩ := h
    rfl
  · obtain ⟨x, p, v, o, rfl, hx, hg, nc, ri, k⟩ := h
    refine ⟨_, (pss_cons (ps_try_as (i := 2) (tb := fun W => tDrop (tMkS CP (spPolyInit K C CP CF CRd CNP) [] (WE W) (tCons (tVar 0) (tCons (tVar 1) tNil)))) (Wout := fun _ _ _ _ => False) rfl rfl sc_refused.nd rfl rfl ⟨rfl, by decide, Or.inl m_NP⟩ takes0
        (fun W pn xe tk _ => pss_one (ps_expr (pe_mkS MP G_pinit (hr.mono (by decide)) rfl m_P b_pinit .nil (fun σ => passAt tk σ) (pa_cons (pv 0) (pa_cons (pv 1) pa_nil)))))
        (fun a oe cls d pn hz hf => pss_one (ps_ret (pe_tup (pa_cons pe_str (pa_cons (pe_xf xf NP.nw hz hf (pv 2)) pa_nil))))))
      (pss_one (ps_ret (pe_tup (pa_cons pe_str (pa_cons pe_int pa_nil)))))), ?_⟩
    refine ⟨_, rfl, _, rfl, fun y dy ny ndy ne => ?_⟩
    have s0 : Same H (upd (upd H dy (.own y)) y (.ins CP dy [])) := same_pair ny ndy ne
    refine ⟨y, dy, x, p, v, o, rfl, upd_same, hx.same s0, hg, nc.same s0, ri.same s0, fun eo H1 s1 d hd => ?_, fun os eo lt H1 s1 d hd => ?_, fun os eo ec H1 b1 _ => ⟨rfl, ?_⟩⟩
    · subst eo
      refine ⟨true, te, fun _ a ha => ?_, fun q => Bool.noConfusion q⟩
      refine ⟨_, rfl, rfl, rfl, d, _, _, rfl, upd_same, rfl, (by show 2 ≤ sizeLine; decide), fun q hq => ?_⟩
      exact k q _ (same_new (same_new (s0.trans s1) hd) hq) upd_same
    · subst eo
      refine ⟨true, te, fun _ a ha => ?_, fun q => Bool.noConfusion q⟩
      refine ⟨_, rfl, rfl, rfl, d, _, _, rfl, upd_same, rfl, (by show 2 ≤ sizeLine; decide), fun q hq => ?_⟩
      refine k q _ (same_new (same_new (s0.trans s1) hd) hq) ?_
      rw [toldR_ref lt]
      exact upd_same
    · subst eo
      refine ⟨(by show 2 ≤ sizeLine; decide), fun q hq => ?_⟩
      refine k q _ (same_new (same_made ny ndy b1) hq) ?_
      rw [toldR_made ec]
      exact upd_same
theorem sc_counted : FnScope ["_law_poly", "_law_k"] ["_law_poly", "_law_k"] (defScope s_counted) := ⟨rfl, rfl, rfl, by decide +kernel, rfl, by decide +kernel, by decide +kernel⟩
theorem ok_counted {f C CF CP CNC fcoef : Addr} {fd fdcoef : FuncData} (F : Fun K "_law_counted" "_law_counted" s_counted f fd) (TP : PTx K CP) (m_NC : mg "NoCount" = some (.ref CNC)) (te : PySem.W.exmOne K (.ref CNC) (.ref CNC) = some true) (Me_coef : Meth K CP "coefficient" fcoef)
    (G_coef : FnOk P w K mg base (L2.CX P w) 9 fcoef fdcoef ["self", "k"] (spPCoef K C CP CF CNC)) (b_coef : Binds K fdcoef ["self", "k"] []) : FnOk P w K mg base CX0 10 f fd ["_law_poly", "_law_k"] (spCounted K C CP CF) := by
  refine F.ok sc_counted (fun vs H Q E h => ?_) (fun cdv A outer s H vs Q E hr h => ?_)
  · obtain ⟨x, p, prs, v, rfl, _⟩ := h
    rfl
  · obtain ⟨x, p, prs, v, rfl, PP, hg, hl, tv, neg, k⟩ := h
    refine ⟨_, (pss_cons (ps_try_only (tb := fun W => tDrop (tMtS CP "coefficient" (spPCoef K C CP CF CNC) (WE W) (tVar 0) (tCons (tVar 1) tNil))) (Wout := fun _ _ _ _ => False) rfl rfl ⟨rfl, by decide, Or.inl m_NC⟩ takes0
        (fun W pn xe tk _ => pss_one (ps_expr (pe_mtS (pv 0) TP.cl Me_coef G_coef (hr.mono (by decide)) b_coef (fun σ => passAt tk σ) (pa_cons (pv 1) pa_nil))))
        (fun a oe cls d pn hz hf => pss_one (ps_ret pe_str)))
      (pss_one (ps_ret pe_str))), ?_⟩
    obtain ⟨dx, fx, ct, ys, PO⟩ := id PP
    refine ⟨_, rfl, x, dx, _, rfl, PO.ob, plf_no _ _ _ (by decide +kernel) (by decide +kernel) (by decide +kernel), _, rfl, x, p, prs, v, rfl, PP, hg, hl, tv, fun _ => ?_, fun kk e h0 => absurd (neg kk e) (by omega)⟩
    exact ⟨true, te, fun _ a ha => k H (Same.refl H), fun q => Bool.noConfusion q⟩
theorem sc_lat : FnScope ["_law_poly", "_law_x", "_law_way"] ["_law_poly", "_law_x", "_law_way"] (defScope s_lat) := ⟨rfl, rfl, rfl, by decide +kernel, rfl, by decide +kernel, by decide +kernel⟩
theorem ok_lat {f C CF CP CNN fat fpcall : Addr} {fd fdat fdpcall : FuncData} (F : Fun K "_law_at" "_law_at" s_lat f fd) (TP : PTx K CP) (m_NN : mg "NoNumber" = some (.ref CNN)) (te : PySem.W.exmOne K (.ref CNN) (.ref CNN) = some true) (Me_at : Meth K CP "at" fat)
    (G_at : FnOk P w K mg base (L2.CX P w) 9 fat fdat ["self", "x"] (spPAt K C CP CF CNN)) (b_at : Binds K fdat ["self", "x"] []) (IC : ICall K CP fpcall) (G_pcall : FnOk P w K mg base (L2.CX P w) 10 fpcall fdpcall ["self", "x"] (spPAt K C CP CF CNN)) (b_pcall : Binds K fdpcall ["self", "x"] []) : FnOk P w K mg base CX0 11 f fd ["_law_poly", "_law_x", "_law_way"] (spLat K C CP CF) := by
  refine F.ok sc_lat (fun vs H Q E h => ?_) (fun cdv A outer s H vs Q E hr h => ?_)
  · obtain ⟨x, p, prs, v, wy, rfl, _⟩ := h
    rfl
  · obtain ⟨x, p, prs, v, wy, rfl, PP, hg, gv, k⟩ := h
    refine ⟨_, (pss_cons (ps_try_only (tb := fun W => tIfS (tTest (tOp rEq (tVar 2) (tC (.int 0)))) (tDrop (tMtS CP "at" (spPAt K C CP CF CNN) (WE W) (tVar 0) (tCons (tVar 1) tNil))) (tDrop (tIcS 0 CP (spPAt K C CP CF CNN) (WE W) (tCons (tVar 1) tNil)))) (Wout := fun _ _ _ _ => False) rfl rfl ⟨rfl, by decide, Or.inl m_NN⟩ takes0
        (fun W pn xe tk _ => pss_one (ps_if (pt_cmpR op_eq (pv 2) pe_int (nomark _)) (pss_one (ps_expr (pe_mtS (pv 0) TP.cl Me_at G_at (hr.mono (by decide)) b_at (fun σ => passAt tk σ) (pa_cons (pv 1) pa_nil))))
           (pss_one (ps_expr (pe_icS (i := 0) rfl (Or.inl rfl) IC G_pcall (hr.mono (by decide)) b_pcall (fun σ => passAt tk σ) (pa_cons (pv 1) pa_nil))))))
        (fun a oe cls d pn hz hf => pss_one (ps_ret pe_str)))
      (pss_one (ps_ret pe_str))), ?_⟩
    obtain ⟨dx, fx, ct, ys, PO⟩ := id PP
    refine ⟨_, rfl, rfl, _, rfl, ite2 (fun _ => ?_) (fun _ => ?_)⟩
    · refine ⟨_, rfl, x, dx, _, rfl, PO.ob, plf_no _ _ _ (by decide +kernel) (by decide +kernel) (by decide +kernel), _, rfl, x, p, prs, v, none, rfl, PP, hg, gv, fun _ => ?_, fun a e => by cases e⟩
      exact ⟨true, te, fun _ a ha => k H (Same.refl H), fun q => Bool.noConfusion q⟩
    · refine ⟨x, rfl, _, rfl, ⟨dx, _, PO.ob⟩, x, p, prs, v, none, rfl, PP, hg, gv, fun _ => ?_, fun a e => by cases e⟩
      exact ⟨true, te, fun _ a ha => k H (Same.refl H), fun q => Bool.noConfusion q⟩
end
end Sq

namespace Sq
open PySem L2 PyProof.Rows
abbrev s_refusals : Stmt := top 65
structure KRd (K : PySem.W.Frag) (C CRd : Addr) : Prop where
  kint : PySem.W.kitOne K (.type "int") (.ref CRd) = some false
  kstr : PySem.W.kitOne K (.type "str") (.ref CRd) = some false
  knon : PySem.W.kitOne K (.type "NoneType") (.ref CRd) = some false
  kbool : PySem.W.kitOne K (.type "bool") (.ref CRd) = some false
  klist : PySem.W.kitOne K (.type "list") (.ref CRd) = some false
  ktup : PySem.W.kitOne K (.type "tuple") (.ref CRd) = some false
  kdict : PySem.W.kitOne K (.type "dict") (.ref CRd) = some false
  krat : PySem.W.kitOne K (.ref C) (.ref CRd) = some false
  rl : PySem.W.kitOne K (.ref C) (.type "list") = some false
  rt : PySem.W.kitOne K (.ref C) (.type "tuple") = some false
structure KZ3 (K : PySem.W.Frag) (C : Addr) : Prop where
  kbool : PySem.W.kitOne K (.type "bool") (.ref C) = some false
  klist : PySem.W.kitOne K (.type "list") (.ref C) = some false
  ktup : PySem.W.kitOne K (.type "tuple") (.ref C) = some false
  kdict : PySem.W.kitOne K (.type "dict") (.ref C) = some false
theorem t2_sh (s : Str) (n : Int) (hs : PyData.strOk s = true) : SeqAt.shaped (.tuple [.str s, .int n]) = true := by
  simp [SeqAt.shaped, PyData.canLay0, PyData.canLayAll0, PyData.depth, PyData.depthAll, hs]
theorem t2_dp {K : PySem.W.Frag} {H : Hp} {q : Addr} {s : Str} {n : Int} (h : H q = some (.tup [.str s, .int n])) : Dp K H (.ref q) (.tuple [.str s, .int n]) := .tup (SqT.of h) (.cons (.str _) (.cons (.int _) .nil))
theorem ne_same {K : PySem.W.Frag} {H : Hp} {p q : Addr} {s : Str} {n : Int} {Q : VK} (hp : H p = some (.tup [.str s, .int n])) (hq : H q = some (.tup [.str s, .int n])) (k : Q (.bl false) H) (hs : PyData.strOk s = true := by decide +kernel) : rNeD K (.ref p) (.ref q) H Q :=
  ⟨_, _, t2_dp hp, t2_dp hq, t2_sh s n hs, t2_sh s n hs, by
    rw [SeqAt.eqv_refl _ (SeqAt.canLay_of_shaped (t2_sh s n hs))]
    exact k⟩
theorem eq_same {K : PySem.W.Frag} {H : Hp} {p q : Addr} {s : Str} {n : Int} {Q : VK} (hp : H p = some (.tup [.str s, .int n])) (hq : H q = some (.tup [.str s, .int n])) (k : Q (.bl true) H) (hs : PyData.strOk s = true := by decide +kernel) : rEqD K (.ref p) (.ref q) H Q :=
  ⟨_, _, t2_dp hp, t2_dp hq, t2_sh s n hs, t2_sh s n hs, by
    rw [SeqAt.eqv_refl _ (SeqAt.canLay_of_shaped (t2_sh s n hs))]
    exact k⟩
theorem eq_str {K : PySem.W.Frag} {H : Hp} {p q : Addr} {s s' : Str} {n n' : Int} {Q : VK} (hp : H p = some (.tup [.str s, .int n])) (hq : H q = some (.tup [.str s', .int n'])) (ne : ¬ s = s') (k : Q (.bl false) H) (hs : PyData.strOk s = true := by decide +kernel) (hs' : PyData.strOk s' = true := by decide +kernel) : rEqD K (.ref p) (.ref q) H Q :=
  ⟨_, _, t2_dp hp, t2_dp hq, t2_sh s n hs, t2_sh s' n' hs', by
    have e : PyData.eqv (.tuple [.str s, .int n]) (.tuple [.str s', .int n']) = false := by
      simp [PyData.eqv, PyData.eqvAll, ne]
    rw [e]
    exact k⟩
theorem ix_ok {n : Nat} {i : Int} (h0 : 0 ≤ i) (h1 : i < n) : ixN n i = some i.toNat := by
  unfold ixN
  rw [if_pos h0, if_pos h1]
theorem rep_one (n : Nat) (v : V) : (List.replicate n [v]).flatten = List.replicate n v := by
  induction n with
  | zero => rfl
  | succ n ih =>
    rw [List.replicate_succ, List.flatten_cons, ih]
    rfl
theorem RatAt.updl {C : Addr} {H : Hp} {x q : Addr} {t u : Int} {xs : List V} {o : HO} (hq : H q = some (.lst xs)) (h : RatAt C H x t u) : RatAt C (L2.upd H q o) x t u := by
  obtain ⟨dx, R⟩ := h
  refine ⟨dx, (upd_ne fun z => ?_).trans R⟩
  rw [z, hq] at R
  cases R
theorem pre_at : ∀ {os : List (Option (Int × Int))} {i : Nat}, (∀ k, k < i → ∃ a, os[k]? = some (some a)) → os[i]? = some none → (pre os).length = i
  | [], i, _, e => by simp at e
  | none :: r, 0, _, _ => rfl
  | none :: r, i + 1, h, _ => by
    obtain ⟨a, e⟩ := h 0 (Nat.zero_lt_succ _)
    simp at e
  | some a :: r, 0, _, e => by simp at e
  | some a :: r, i + 1, h, e => by
    show (pre r).length + 1 = i + 1
    rw [pre_at (os := r) (i := i) (fun k hk => h (k + 1) (by omega)) (by simpa using e)]
theorem pre_set1 (prs : List (Int × Int)) {j : Nat} (h : j < prs.length) : (pre ((prs.map some).set j none)).length = j := by
  refine pre_at (fun k hk => ?_) ?_
  · rw [List.getElem?_set_ne (by omega), List.getElem?_map, List.getElem?_eq_getElem (by omega)]
    exact ⟨_, rfl⟩
  · exact List.getElem?_set_self (by simpa using h)
theorem pre_set2 (prs : List (Int × Int)) {j1 j2 : Nat} (h1 : j1 < prs.length) (h2 : j2 < prs.length) : (pre (((prs.map some).set j1 none).set j2 none)).length = min j1 j2 := by
  refine pre_at (fun k hk => ?_) ?_
  · rw [List.getElem?_set_ne (by omega), List.getElem?_set_ne (by omega), List.getElem?_map, List.getElem?_eq_getElem (by omega)]
    exact ⟨_, rfl⟩
  · by_cases c : j2 ≤ j1
    · rw [Nat.min_eq_right c]
      exact List.getElem?_set_self (by simpa using h2)
    · rw [Nat.min_eq_left (by omega), List.getElem?_set_ne (by omega)]
      exact List.getElem?_set_self (by simpa using h1)
theorem pre_map (prs : List (Int × Int)) : (pre (prs.map some)).length = (prs.map some).length := by
  rw [pre_all rfl, List.length_map]
theorem Givs.set {K : PySem.W.Frag} {C : Addr} {H : Hp} {p : Int} {xs : List V} {os : List (Option (Int × Int))} {v : V} {o : Option (Int × Int)} (h : Givs K C H p xs os) (g : Giv K C H p v o) (j : Nat) : Givs K C H p (xs.set j v) (os.set j o) := by
  refine ⟨by rw [List.length_set, List.length_set, h.len], fun i x o' e1 e2 => ?_⟩
  rw [List.getElem?_set] at e1 e2
  by_cases c : j = i
  · rw [if_pos c] at e1 e2
    split at e1
    · cases e1
      split at e2
      · cases e2
        exact g
      · cases e2
    · cases e1
  · rw [if_neg c] at e1 e2
    exact h.at_ i x o' e1 e2
theorem givs_rep {K : PySem.W.Frag} {C : Addr} {H : Hp} {p : Int} {n : Nat} {v : V} {o : Option (Int × Int)} (g : Giv K C H p v o) : Givs K C H p (List.replicate n v) (List.replicate n o) := by
  refine ⟨by simp, fun i x o' e1 e2 => ?_⟩
  rw [List.getElem?_replicate] at e1 e2
  split at e1
  · rename_i c
    rw [if_pos c] at e2
    cases e1
    cases e2
    exact g
  · cases e1
theorem pre_rep (n : Nat) (a : Int × Int) : (pre (List.replicate n (some a))).length = (List.replicate n (some a)).length := by
  have : List.replicate n (some a) = (List.replicate n a).map some := by simp
  rw [this]
  exact pre_map _
theorem fit1 : Fit 1 := fit_one
def spRefusals (K : PySem.W.Frag) (C CF : Addr) : Sp := fun vs H Q _ => ∃ (x gl : Addr) (p a b od : Int) (xs : List V) (prs : List (Int × Int)), vs = [.ref x, .int p, .ref gl, .int a, .int b, .int od] ∧ FldAt CF H x p ∧ goodP p = true ∧ H gl = some (.lst xs) ∧ xs.length ≤ 100 ∧ Givs K C H p xs (prs.map some) ∧ 0 ≤ od ∧ od < 7 ∧ ∀ H', Same H H' → Q (.bl true) H'
section
variable {P : Program} {w : World} {K : PySem.W.Frag} {mg : Str → Option Value} {base : Heap}
theorem sc_refusals : FnScope ["_law_field", "_law_prime_here", "_law_given_here", "_law_first", "_law_second", "_law_odd", "_law_strange", "_law_wrong", "_law_at_here", "_law_other", "_law_spoilt"] ["_law_field", "_law_prime_here", "_law_given_here", "_law_first", "_law_second", "_law_odd"] (defScope s_refusals) := ⟨rfl, rfl, rfl, by decide +kernel, rfl, by decide +kernel, by decide +kernel⟩
theorem ok_refusals {f C CF CRd CN fR frefused : Addr} {fd fdR fdrefused : FuncData} (F : Fun K "_law_refusals" "_law_refusals" s_refusals f fd) (D : DTx mg) (B : QTx mg) (b_min : mg "min" = none) (T : CTx K C) (Y : ITy K C) (Z : KZx K C) (Z3 : KZ3 K C) (R : KRd K C CRd) (m_C : mg "Ratio" = some (.ref C)) (M : Mk K C fR)
    (G_R : FnOk P w K mg base (L2.CX P w) 3 fR fdR ["self", "top", "bottom"] (spRatioInit K C CN)) (b_R : Binds K fdR ["self", "top", "bottom"] [])
    (G_refused : FnOk P w K mg base CX0 13 frefused fdrefused ["_law_field", "_law_row_here"] (spRefused K C CF CRd)) (m_refused : mg "_law_refused" = some (.ref frefused)) (k_refused : PySem.W.keepIn K (.ref frefused) = true) (b_refused : Binds K fdrefused ["_law_field", "_law_row_here"] []) : FnOk P w K mg base CX0 14 f fd ["_law_field", "_law_prime_here", "_law_given_here", "_law_first", "_law_second", "_law_odd"] (spRefusals K C CF) := by
  refine F.ok sc_refusals (fun vs H Q E h => ?_) (fun cdv A outer s H vs Q E hr h => ?_)
  · obtain ⟨x, gl, p, a, b, od, xs, prs, rfl, _⟩ := h
    rfl
  · obtain ⟨x, gl, p, a, b, od, xs, prs, rfl, hx, hg, hgl, hn, gv, o0, o7, k⟩ := h
    refine ⟨_, (pss_cons (ps_set (i := 6) sc_refusals.nd rfl (Or.inl rfl) (pe_lst (pa_cons pe_str (pa_cons pe_bl (pa_cons pe_non (pa_cons (pe_lst (pa_cons pe_int pa_nil)) (pa_cons (pe_tup pa_nil) (pa_cons pe_str (pa_cons pe_dnewK pa_nil)))))))))
      (C8.pss_cut (ps_if (pt_cmpR op_gt (pv 1) pe_int (nomark _))
        (pss_one (ps_asg (pe_make M G_R (hr.mono (by decide)) rfl m_C b_R .nil passL (pa_cons pe_int (pa_cons (pv 1) pa_nil))) (pg_sub (pv 6) pe_int set_list)))
        pss_nil)
      (C8.pss_cut (ps_if (PW.pt (pw_and (pt_cmpR (op_eqD hr.units) (pe_call G_refused (hr.mono (by decide)) rfl m_refused k_refused b_refused .nil pass0 (pa_cons (pv 0) (pa_cons (pe_ix ix_list (pv 6) (pv 5) (fun _ _ => rfl)) pa_nil))) (pe_tup (pa_cons pe_str (pa_cons pe_int pa_nil))) (nomark _)) (pw_and (pt_cmpR op_ne (pv 5) pe_int (nomark _)) (pw_and1 (pt_cmpR op_ne (pv 5) pe_int (nomark _))))))
        (pss_one (ps_ret pe_bl))
        pss_nil)
      (pss_cons (ps_for PassesOwn.never rfl (pi_list (pe_lst (pa_cons pe_str (pa_cons pe_non (pa_cons pe_int (pa_cons pe_dnewK pa_nil)))))) (pg_name (i := 7) sc_refusals.nd rfl (Or.inl rfl)) (pss_one (ps_if (pt_cmpR (op_neD hr.units) (pe_call G_refused (hr.mono (by decide)) rfl m_refused k_refused b_refused .nil pass0 (pa_cons (pv 0) (pa_cons (pv 7) pa_nil))) (pe_tup (pa_cons pe_str (pa_cons (pe_un un_neg pe_int) pa_nil))) (nomark _))
        (pss_one (ps_ret pe_bl))
        pss_nil)))
      (pss_cons (ps_if (PW.pt (pw_or (pt_cmpR (op_neD hr.units) (pe_call G_refused (hr.mono (by decide)) rfl m_refused k_refused b_refused .nil pass0 (pa_cons (pv 0) (pa_cons (pe_op op_rep (pe_lst (pa_cons pe_int pa_nil)) pe_int) pa_nil))) (pe_tup (pa_cons pe_str (pa_cons pe_int pa_nil))) (nomark _)) (pw_or1 (pt_cmpR (op_neD hr.units) (pe_call G_refused (hr.mono (by decide)) rfl m_refused k_refused b_refused .nil pass0 (pa_cons (pv 0) (pa_cons (pe_op op_rep (pe_lst (pa_cons pe_int pa_nil)) pe_int) pa_nil))) (pe_tup (pa_cons pe_str (pa_cons (pe_un un_neg pe_int) pa_nil))) (nomark _)))))
        (pss_one (ps_ret pe_bl))
        pss_nil)
      (pss_cons (ps_if (PW.pt (pw_or (pt_cmpR (op_neD hr.units) (pe_call G_refused (hr.mono (by decide)) rfl m_refused k_refused b_refused .nil pass0 (pa_cons (pv 0) (pa_cons (pe_op op_rep (pe_lst (pa_cons pe_str pa_nil)) pe_int) pa_nil))) (pe_tup (pa_cons pe_str (pa_cons (pe_un un_neg pe_int) pa_nil))) (nomark _)) (pw_or1 (pt_cmpR (op_neD hr.units) (pe_call G_refused (hr.mono (by decide)) rfl m_refused k_refused b_refused .nil pass0 (pa_cons (pv 0) (pa_cons (pe_tup pa_nil) pa_nil))) (pe_tup (pa_cons pe_str (pa_cons pe_int pa_nil))) (nomark _)))))
        (pss_one (ps_ret pe_bl))
        pss_nil)
      (pss_cons (ps_if (pt_cmpR (op_eqNil (Nat.lt_of_le_of_lt (Nat.le_add_right _ 64) hr.units)) (pv 2) (pe_lst pa_nil) (nomark _))
        (pss_one (ps_ret pe_bl))
        pss_nil)
      (pss_cons (ps_par (i := 8) (j := 9) (by rfl) sc_refusals.nd rfl rfl (by decide) rfl rfl (pa_cons (pe_op op_mod (pe_callTy call_int1 (by rfl) D.b_int (by decide +kernel) (pa_cons (pv 3) pa_nil)) (pe_callB call_len_seq (by rfl) B.b_len (by decide +kernel) (pa_cons (pv 2) pa_nil))) (pa_cons (pe_op op_mod (pe_callTy call_int1 (by rfl) D.b_int (by decide +kernel) (pa_cons (pv 4) pa_nil)) (pe_callB call_len_seq (by rfl) B.b_len (by decide +kernel) (pa_cons (pv 2) pa_nil))) pa_nil)) (by rfl))
      (pss_cons (ps_set (i := 10) sc_refusals.nd rfl (Or.inl rfl) (pe_callTy call_list_of (by rfl) B.b_list (by decide +kernel) (pa_cons (pv 2) pa_nil)))
      (pss_cons (ps_asg (pe_ix ix_list (pv 6) (pv 5) (fun _ _ => rfl)) (pg_sub (pv 10) (pv 8) set_list))
      (pss_cons (ps_if (PW.pt (pw_or (pt_cmpR (op_neD hr.units) (pe_call G_refused (hr.mono (by decide)) rfl m_refused k_refused b_refused .nil pass0 (pa_cons (pv 0) (pa_cons (pv 10) pa_nil))) (pe_tup (pa_cons pe_str (pa_cons (pv 8) pa_nil))) (nomark _)) (pw_or1 (pt_cmpR (op_neD hr.units) (pe_call G_refused (hr.mono (by decide)) rfl m_refused k_refused b_refused .nil pass0 (pa_cons (pv 0) (pa_cons (pe_callTy call_tuple_of (by rfl) B.b_tuple (by decide +kernel) (pa_cons (pv 10) pa_nil)) pa_nil))) (pe_tup (pa_cons pe_str (pa_cons (pv 8) pa_nil))) (nomark _)))))
        (pss_one (ps_ret pe_bl))
        pss_nil)
      (pss_cons (ps_asg (pe_ix ix_list (pv 6) (pe_op op_mod (pe_op op_add (pv 5) pe_int) pe_int) (fun _ _ => rfl)) (pg_sub (pv 10) (pv 9) set_list))
      (pss_one (ps_ret (pe_and (pe_cmpR (op_eqD hr.units) (pe_call G_refused (hr.mono (by decide)) rfl m_refused k_refused b_refused .nil pass0 (pa_cons (pv 0) (pa_cons (pv 10) pa_nil))) (pe_tup (pa_cons pe_str (pa_cons (pe_callB (call_min2 rfl) (by rfl) b_min (by decide +kernel) (pa_cons (pv 8) (pa_cons (pv 9) pa_nil))) pa_nil))) (nomark _)) (pe_one (pe_cmpR (op_eqD hr.units) (pe_call G_refused (hr.mono (by decide)) rfl m_refused k_refused b_refused .nil pass0 (pa_cons (pv 0) (pa_cons (pv 2) pa_nil))) (pe_tup (pa_cons pe_str (pa_cons pe_int pa_nil))) (nomark _)))))))))))))))))), ?_⟩
    refine ⟨(by show 1 ≤ sizeLine; decide), fun l1 hl1 => ⟨(by show 0 ≤ sizeLine; decide), fun tp htp => fun dd hdd => ⟨(by show 7 ≤ sizeLine; decide), fun ls hls => ?_⟩⟩⟩
    have sA := same_new (o := .lst [.int 1]) (Same.refl H) hl1
    have sB := same_new (o := .tup []) (Same.refl _) htp
    have sC := same_new (o := .dK []) (Same.refl _) hdd
    have SX := (sA.trans sB).trans sC
    have e1 := (sB.trans sC) _ _ upd_same
    have e2 := sC _ _ upd_same
    have e3 := upd_same (H := (upd (upd H l1 (.lst [.int 1])) tp (.tup []))) (a := dd) (o := .dK [])
    generalize upd (upd (upd H l1 (.lst [.int 1])) tp (.tup [])) dd (.dK []) = HX at *
    have gtab : ∀ {H' : Hp}, Same HX H' → ∀ {w : V}, Giv K C H' p w none → ∀ v ∈ ([.str "1", .bl true, .non, .ref l1, .ref tp, .str "", w] : List V), Giv K C H' p v none := by
      intro H' s w gw v hv
      simp only [List.mem_cons, List.not_mem_nil, or_false] at hv
      rcases hv with rfl | rfl | rfl | rfl | rfl | rfl | rfl
      · exact .inl ⟨.type "str", false, .base (.str _), Z.kstr, .str _, rfl⟩
      · exact .inl ⟨.type "bool", false, .base (.bl _), Z3.kbool, .bl _, rfl⟩
      · exact .inl ⟨.type "NoneType", false, .base .non, Z.knon, .non, rfl⟩
      · exact .inl ⟨.type "list", false, .base (.lst (s _ _ e1)), Z3.klist, .lst (s _ _ e1), rfl⟩
      · exact .inl ⟨.type "tuple", false, .base (.tup (s _ _ e2)), Z3.ktup, .tup (s _ _ e2), rfl⟩
      · exact .inl ⟨.type "str", false, .base (.str _), Z.kstr, .str _, rfl⟩
      · exact gw
    -- the table
    refine ⟨fun σ H' => ∃ w, σ = [some (.ref x), some (.int p), some (.ref gl), some (.int a), some (.int b), some (.int od), some (.ref ls), none, none, none, none] ∧ Same HX H' ∧ H' ls = some (.lst [.str "1", .bl true, .non, .ref l1, .ref tp, .str "", w]) ∧ Giv K C H' p w none ∧ NotC K H' w CRd ∧ IsQ K H' w false, ?_, ?_⟩
    · refine ⟨_, rfl, _, _, rfl, rfl, _, rfl, ?_⟩
      by_cases p0 : p = 0
      · refine itDn (by simp [p0]) ?_
        have s1 := same_new (o := .lst [.str "1", .bl true, .non, .ref l1, .ref tp, .str "", .ref dd]) (Same.refl HX) hls
        have e4 := s1 _ _ e3
        exact ⟨.ref dd, rfl, s1, upd_same, .inl ⟨.type "dict", false, .base (.dK e4), Z3.kdict, .dK e4, rfl⟩, ⟨_, .base (.dK e4), R.kdict⟩, IsQ.ty (.base (.dK e4)) (kit_ty (by decide +kernel)) (kit_ty (by decide +kernel))⟩
      · have pl := prime_lt hg p0
        refine itD (by simp; omega) ⟨_, rfl, fun r dr nr ndr ne => mk_go p0 (fit_up (lt20f (by omega) (by omega))) nr ndr ne fun t u H1 L Rr s1 => ⟨rfl, ?_⟩⟩
        obtain ⟨rfl, rfl⟩ := low_self (t := 1) (u := p) (by omega) (Int.gcd_one_left _) L
        have s2 := (same_new (o := .lst [.str "1", .bl true, .non, .ref l1, .ref tp, .str "", .ref dd]) (Same.refl HX) hls).trans s1
        have h1 := s1 _ _ upd_same
        refine ⟨_, rfl, _, _, _, _, rfl, rfl, h1, rfl, .ref r, rfl, same_at s2 hls, upd_same, ?_⟩
        have R2 := Rr.updl h1 (o := .lst [.str "1", .bl true, .non, .ref l1, .ref tp, .str "", .ref r])
        exact ⟨.inr ⟨1, _, .inl ⟨r, rfl, R2⟩, by omega, fit1, lt20f (by omega) (by omega), p0, Int.emod_self⟩, ⟨_, R2.ty T Y, R.krat⟩, ⟨_, R2.ty T Y, kitQ (a := false) (b := false) R.rl R.rt⟩⟩
    rintro σ H1 ⟨w7, rfl, s1, hls1, gw, nw, qw⟩
    have sH1 := SX.trans s1
    have eo : od = (od.toNat : Int) := (Int.toNat_of_nonneg o0).symm
    have l1H := s1 _ _ e1
    have tpH := s1 _ _ e2
    have R0 : ∀ (i : Nat) (v : V), ([.str "1", .bl true, .non, .ref l1, .ref tp, .str "", w7] : List V)[i]? = some v → NotC K H1 v CRd ∧ ((i ≠ 3 ∧ i ≠ 4 ∧ RowIn K C H1 p 100 v none) ∨ ((i = 3 ∨ i = 4) ∧ ∃ os, RowIn K C H1 p 100 v (some os) ∧ (pre os).length = os.length)) := by
      intro i v hv
      have hi := get_len hv
      have hi7 : i < 7 := hi
      have c : i = 0 ∨ i = 1 ∨ i = 2 ∨ i = 3 ∨ i = 4 ∨ i = 5 ∨ i = 6 := by omega
      rcases c with rfl | rfl | rfl | rfl | rfl | rfl | rfl <;> cases hv
      · exact ⟨⟨_, .base (.str _), R.kstr⟩, .inl ⟨by decide, by decide, .no (IsQ.ty (.base (.str _)) (kit_ty (by decide +kernel)) (kit_ty (by decide +kernel)))⟩⟩
      · exact ⟨⟨_, .base (.bl _), R.kbool⟩, .inl ⟨by decide, by decide, .no (IsQ.ty (.base (.bl _)) (kit_ty (by decide +kernel)) (kit_ty (by decide +kernel)))⟩⟩
      · exact ⟨⟨_, .base .non, R.knon⟩, .inl ⟨by decide, by decide, .no (IsQ.ty (.base .non) (kit_ty (by decide +kernel)) (kit_ty (by decide +kernel)))⟩⟩
      · exact ⟨⟨_, .base (.lst l1H), R.klist⟩, .inr ⟨.inl rfl, [some (nrm p 1, 1)], .row (.inl l1H) (by decide) (givs_rep (n := 1) (giv_int hg fit1)), rfl⟩⟩
      · exact ⟨⟨_, .base (.tup tpH), R.ktup⟩, .inr ⟨.inr rfl, [], .row (.inr tpH) (by decide) ⟨rfl, fun i x o e => by simp at e⟩, rfl⟩⟩
      · exact ⟨⟨_, .base (.str _), R.kstr⟩, .inl ⟨by decide, by decide, .no (IsQ.ty (.base (.str _)) (kit_ty (by decide +kernel)) (kit_ty (by decide +kernel)))⟩⟩
      · exact ⟨nw, .inl ⟨by decide, by decide, .no qw⟩⟩
    have g7 := gtab s1 gw
    generalize htab : ([.str "1", .bl true, .non, .ref l1, .ref tp, .str "", w7] : List V) = tab at *
    have ltab : tab.length = 7 := by rw [← htab]; rfl
    -- the odd thing by itself
    refine ⟨fun σ H' => σ = [some (.ref x), some (.int p), some (.ref gl), some (.int a), some (.int b), some (.int od), some (.ref ls), none, none, none, none] ∧ Same H1 H', ?_, ?_⟩
    · have li : od.toNat < tab.length := by omega
      obtain ⟨nv, rv⟩ := R0 _ _ (List.getElem?_eq_getElem li)
      refine ⟨_, rfl, _, rfl, _, rfl, _, _, _, _, rfl, rfl, SqL.of hls1, at_of (j := od.toNat) eo (List.getElem?_eq_getElem li), ?_⟩
      generalize tab[od.toNat] = v at *
      rcases rv with ⟨n3, n4, ri⟩ | ⟨c34, os, ri, pl⟩
      · refine ⟨x, p, v, none, rfl, hx.same sH1, hg, nv, ri, fun q H2 s2 hq => ⟨(by show 2 ≤ sizeLine; decide), fun q3 hq3 => ?_⟩⟩
        have t3 := same_new (o := .tup [.str "made", .int 0]) (Same.refl H2) hq3
        refine eq_str (t3 _ _ hq) upd_same (by decide +kernel) ⟨_, rfl, iteF ⟨rfl, s2.trans t3⟩⟩
      · refine ⟨x, p, v, some os, rfl, hx.same sH1, hg, nv, ri, fun q H2 s2 hq => ⟨(by show 2 ≤ sizeLine; decide), fun q3 hq3 => ?_⟩⟩
        have t3 := same_new (o := .tup [.str "made", .int 0]) (Same.refl H2) hq3
        rw [toldR_made pl] at hq
        refine eq_same (t3 _ _ hq) upd_same ⟨_, rfl, iteT ⟨_, rfl, rfl, _, rfl, ?_⟩⟩
        rcases c34 with c | c
        · have e : od = 3 := by
            have := Int.toNat_of_nonneg o0
            rw [c] at this
            exact this.symm
          exact itDn (by simp [e]) ⟨rfl, s2.trans t3⟩
        · have e : od = 4 := by
            have := Int.toNat_of_nonneg o0
            rw [c] at this
            exact this.symm
          subst e
          refine itD (by decide +kernel) ⟨_, rfl, rfl, _, rfl, itDn (by decide +kernel) ⟨rfl, s2.trans t3⟩⟩
    rintro σ H2 ⟨rfl, s2⟩
    -- what is no sequence
    refine fun d2 hd2 => ⟨(by show 4 ≤ sizeLine; decide), fun lw hlw => ⟨lw, rfl, ⟨_, SqL.of upd_same⟩, ?_⟩⟩
    have s3 := (s2.trans (same_new (o := .dK []) (Same.refl _) hd2)).trans (same_new (o := .lst [.str "123", .non, .int 5, .ref d2]) (Same.refl _) hlw)
    have eD := (same_new (o := .lst [.str "123", .non, .int 5, .ref d2]) (Same.refl _) hlw) _ _ upd_same
    have eL := upd_same (H := (upd H2 d2 (.dK []))) (a := lw) (o := .lst [.str "123", .non, .int 5, .ref d2])
    generalize upd (upd H2 d2 (.dK [])) lw (.lst [.str "123", .non, .int 5, .ref d2]) = H3 at *
    have all : ∀ v ∈ ([.str "123", .non, .int 5, .ref d2] : List V), NotC K H3 v CRd ∧ IsQ K H3 v false := by
      intro v hv
      simp only [List.mem_cons, List.not_mem_nil, or_false] at hv
      rcases hv with rfl | rfl | rfl | rfl
      · exact ⟨⟨_, .base (.str _), R.kstr⟩, IsQ.ty (.base (.str _)) (kit_ty (by decide +kernel)) (kit_ty (by decide +kernel))⟩
      · exact ⟨⟨_, .base .non, R.knon⟩, IsQ.ty (.base .non) (kit_ty (by decide +kernel)) (kit_ty (by decide +kernel))⟩
      · exact ⟨⟨_, .base (.int _), R.kint⟩, IsQ.ty (.base (.int _)) (kit_ty (by decide +kernel)) (kit_ty (by decide +kernel))⟩
      · exact ⟨⟨_, .base (.dK eD), R.kdict⟩, IsQ.ty (.base (.dK eD)) (kit_ty (by decide +kernel)) (kit_ty (by decide +kernel))⟩
    refine for_list (xs := [.str "123", .non, .int 5, .ref d2]) (fun i σ H' => ∃ z, σ = [some (.ref x), some (.int p), some (.ref gl), some (.int a), some (.int b), some (.int od), some (.ref ls), z, none, none, none] ∧ Same H3 H') ⟨none, rfl, Same.refl _⟩ (fun i σ H' _ h => ?_) ?_ ?_
    · obtain ⟨z, _, s4⟩ := h
      exact SqL.of (s4 _ _ eL)
    · rintro i v σ H4 hi ⟨z, rfl, s4⟩
      obtain ⟨nv, iv⟩ := all v (List.mem_of_getElem? hi)
      refine ⟨_, rfl, _, rfl, x, p, v, none, rfl, hx.same ((sH1.trans s3).trans s4), hg, nv.same s4, .no (iv.same s4), fun q5 H5 s5 hq5 => ⟨_, rfl, (by show 2 ≤ sizeLine; decide), fun q6 hq6 => ?_⟩⟩
      have t6 := same_new (o := .tup [.str "refused", .int (-1)]) (Same.refl H5) hq6
      exact ne_same (t6 _ _ hq5) upd_same ⟨_, rfl, iteF ⟨_, rfl, (s4.trans s5).trans t6⟩⟩
    rintro σ H4 ⟨z, rfl, s4⟩
    have sT := s3.trans s4
    -- [1] * 100, [1] * 101
    refine ⟨_, rfl, (by show 1 ≤ sizeLine; decide), fun a1 ha1 => ⟨_, _, _, rfl, rfl, upd_same, by decide, by decide, (by show 1 * 100 ≤ sizeLine; decide), fun a2 ha2 => ?_⟩⟩
    rw [show ((100 : Int).toNat) = 100 from rfl, rep_one]
    have sT1 := (sT.trans (same_new (o := .lst [.int 1]) (Same.refl _) ha1)).trans (same_new (o := .lst (List.replicate 100 (.int 1))) (Same.refl _) ha2)
    refine ⟨x, p, _, some (List.replicate 100 (some (nrm p 1, 1))), rfl, hx.same (sH1.trans sT1), hg, ⟨_, .base (.lst upd_same), R.klist⟩, .row (.inl upd_same) (by simp) (givs_rep (giv_int hg fit1)), fun q7 H7 s7 hq7 => ⟨(by show 2 ≤ sizeLine; decide), fun q8 hq8 => ?_⟩⟩
    rw [toldR_made (pre_rep _ _)] at hq7
    have t8 := same_new (o := .tup [.str "made", .int 0]) (Same.refl H7) hq8
    refine ne_same (t8 _ _ hq7) upd_same ⟨_, rfl, iteF ?_⟩
    have sT2 := (sT1.trans s7).trans t8
    refine ⟨_, rfl, (by show 1 ≤ sizeLine; decide), fun a3 ha3 => ⟨_, _, _, rfl, rfl, upd_same, by decide, by decide, (by show 1 * 101 ≤ sizeLine; decide), fun a4 ha4 => ?_⟩⟩
    rw [show ((101 : Int).toNat) = 101 from rfl, rep_one]
    have sT3 := (sT2.trans (same_new (o := .lst [.int 1]) (Same.refl _) ha3)).trans (same_new (o := .lst (List.replicate 101 (.int 1))) (Same.refl _) ha4)
    refine ⟨x, p, _, none, rfl, hx.same (sH1.trans sT3), hg, ⟨_, .base (.lst upd_same), R.klist⟩, .long (.inl upd_same) (by simp), fun q9 H9 s9 hq9 => ⟨_, rfl, (by show 2 ≤ sizeLine; decide), fun q10 hq10 => ?_⟩⟩
    have t10 := same_new (o := .tup [.str "refused", .int (-1)]) (Same.refl H9) hq10
    refine ne_same (t10 _ _ hq9) upd_same ⟨_, rfl, iteF ?_⟩
    have sT4 := (sT3.trans s9).trans t10
    -- ['x'] * 101, ()
    refine ⟨_, rfl, (by show 1 ≤ sizeLine; decide), fun a5 ha5 => ⟨_, _, _, rfl, rfl, upd_same, by decide, by decide, (by show 1 * 101 ≤ sizeLine; decide), fun a6 ha6 => ?_⟩⟩
    rw [show ((101 : Int).toNat) = 101 from rfl, rep_one]
    have sT5 := (sT4.trans (same_new (o := .lst [.str "x"]) (Same.refl _) ha5)).trans (same_new (o := .lst (List.replicate 101 (.str "x"))) (Same.refl _) ha6)
    refine ⟨x, p, _, none, rfl, hx.same (sH1.trans sT5), hg, ⟨_, .base (.lst upd_same), R.klist⟩, .long (.inl upd_same) (by simp), fun q11 H11 s11 hq11 => ⟨_, rfl, (by show 2 ≤ sizeLine; decide), fun q12 hq12 => ?_⟩⟩
    have t12 := same_new (o := .tup [.str "refused", .int (-1)]) (Same.refl H11) hq12
    refine ne_same (t12 _ _ hq11) upd_same ⟨_, rfl, iteF ?_⟩
    have sT6 := (sT5.trans s11).trans t12
    refine ⟨_, rfl, (by show 0 ≤ sizeLine; decide), fun a7 ha7 => ?_⟩
    have sT7 := sT6.trans (same_new (o := .tup []) (Same.refl _) ha7)
    refine ⟨x, p, _, some [], rfl, hx.same (sH1.trans sT7), hg, ⟨_, .base (.tup upd_same), R.ktup⟩, .row (.inr upd_same) (by simp) ⟨rfl, fun i x o e => by simp at e⟩, fun q13 H13 s13 hq13 => ⟨(by show 2 ≤ sizeLine; decide), fun q14 hq14 => ?_⟩⟩
    have t14 := same_new (o := .tup [.str "made", .int 0]) (Same.refl H13) hq14
    refine ne_same (t14 _ _ hq13) upd_same ⟨_, rfl, iteF ?_⟩
    have sT8 := (sT7.trans s13).trans t14
    -- nothing was given
    refine ⟨_, rfl, (by show 0 ≤ sizeLine; decide), fun a8 ha8 => ?_⟩
    have sT9 := sT8.trans (same_new (o := .lst []) (Same.refl _) ha8)
    have hgl9 := (sH1.trans sT9) _ _ hgl
    have el := gv.len
    rw [List.length_map] at el
    refine ⟨gl, a8, xs, rfl, rfl, SqL.of hgl9, SqL.of upd_same, _, rfl, ?_⟩
    generalize upd _ a8 (HO.lst []) = H9' at *
    by_cases ex : xs = []
    · refine itD (by rw [ex]; rfl) ?_
      exact k _ (sH1.trans sT9)
    refine itDn (by simpa using ex) ?_
    have lpos : 0 < xs.length := List.length_pos_iff.mpr ex
    obtain ⟨j1, ej1, lj1⟩ : ∃ j : Nat, a % (xs.length : Int) = (j : Int) ∧ j < xs.length := ⟨(a % (xs.length : Int)).toNat, by have := Int.emod_nonneg a (show (xs.length : Int) ≠ 0 by omega); omega, by have := Int.emod_nonneg a (show (xs.length : Int) ≠ 0 by omega); have := Int.emod_lt_of_pos a (show (0 : Int) < xs.length by omega); omega⟩
    obtain ⟨j2, ej2, lj2⟩ : ∃ j : Nat, b % (xs.length : Int) = (j : Int) ∧ j < xs.length := ⟨(b % (xs.length : Int)).toNat, by have := Int.emod_nonneg b (show (xs.length : Int) ≠ 0 by omega); omega, by have := Int.emod_nonneg b (show (xs.length : Int) ≠ 0 by omega); have := Int.emod_lt_of_pos b (show (0 : Int) < xs.length by omega); omega⟩
    refine ⟨_, rfl, .inl ⟨_, rfl, _, rfl, gl, xs, rfl, .inl (SqL.of hgl9), _, _, rfl, rfl, by omega, _, rfl, .inl ⟨_, rfl, _, rfl, gl, xs, rfl, .inl (SqL.of hgl9), _, _, rfl, rfl, by omega, .int (j1 : Int), .int (j2 : Int), (by show [V.int (a % (xs.length : Int)), V.int (b % (xs.length : Int))] = _; rw [ej1, ej2]), ?_⟩⟩⟩
    refine ⟨_, rfl, gl, xs, rfl, .inl (SqL.of hgl9), fun sp hsp => ?_⟩
    -- the first wrong thing
    have ls9 := sT9 _ _ hls1
    have S10 := same_new (o := .lst xs) (Same.refl _) hsp
    have li : od.toNat < tab.length := by omega
    have hv1 := g7 _ (List.getElem_mem li)
    refine ⟨_, rfl, _, rfl, _, _, _, _, rfl, rfl, SqL.of (S10 _ _ ls9), at_of (j := od.toNat) eo (List.getElem?_eq_getElem li), ?_⟩
    generalize tab[od.toNat] = v1 at *
    have ixj : ∀ {ys : List V} {j : Nat}, ys.length = xs.length → j < xs.length → ixN ys.length ((j : Nat) : Int) = some j := fun h h2 => by
      rw [ix_ok (by omega) (by omega)]
      rfl
    refine ⟨_, rfl, _, rfl, sp, xs, _, j1, rfl, rfl, upd_same, ixj rfl lj1, ?_⟩
    have S11 := same_at (o := .lst (xs.set j1 v1)) S10 hsp
    have h11 := upd_same (H := upd H9' sp (.lst xs)) (a := sp) (o := .lst (xs.set j1 v1))
    generalize upd (upd H9' sp (.lst xs)) sp (.lst (xs.set j1 v1)) = H11' at *
    have gq : ∀ {H'}, Same H9' H' → Givs K C H' p (xs.set j1 v1) ((prs.map some).set j1 none) := fun s => (gv.same ((sH1.trans sT9).trans s)).set (hv1.same (sT9.trans s)) j1
    have ln1 : (xs.set j1 v1).length ≤ 100 := by rw [List.length_set]; exact hn
    have q1 := pre_set1 prs (j := j1) (by omega)
    have tl1 : toldR (some ((prs.map some).set j1 none)) = [.str "refused", .int ((j1 : Nat) : Int)] := by
      rw [toldR_ref (by rw [q1, List.length_set, List.length_map]; omega), q1]
    refine ⟨_, rfl, _, rfl, x, p, _, some ((prs.map some).set j1 none), rfl, hx.same ((sH1.trans sT9).trans S11), hg, ⟨_, .base (.lst h11), R.klist⟩, .row (.inl h11) ln1 (gq S11), fun q15 H15 s15 hq15 => ⟨_, rfl, (by show 2 ≤ sizeLine; decide), fun q16 hq16 => ?_⟩⟩
    rw [tl1] at hq15
    have t16 := same_new (o := .tup [.str "refused", .int ((j1 : Nat) : Int)]) (Same.refl H15) hq16
    refine ne_same (t16 _ _ hq15) upd_same ⟨_, rfl, iteF ?_⟩
    have s16 := s15.trans t16
    refine ⟨_, rfl, _, rfl, sp, _, rfl, .inl ⟨SqL.of (s16 _ _ h11), fun tq htq => ?_⟩⟩
    have s17 := s16.trans (same_new (o := .tup (xs.set j1 v1)) (Same.refl _) htq)
    refine ⟨x, p, _, some ((prs.map some).set j1 none), rfl, hx.same ((sH1.trans sT9).trans (S11.trans s17)), hg, ⟨_, .base (.tup upd_same), R.ktup⟩, .row (.inr upd_same) ln1 (gq (S11.trans s17)), fun q18 H18 s18 hq18 => ⟨_, rfl, (by show 2 ≤ sizeLine; decide), fun q19 hq19 => ?_⟩⟩
    rw [tl1] at hq18
    have t19 := same_new (o := .tup [.str "refused", .int ((j1 : Nat) : Int)]) (Same.refl H18) hq19
    refine ne_same (t19 _ _ hq18) upd_same ⟨_, rfl, iteF ?_⟩
    have s19 := (s17.trans s18).trans t19
    generalize upd H18 q19 (HO.tup [.str "refused", .int ((j1 : Nat) : Int)]) = H19 at *
    -- the second one
    have i1 := Int.emod_nonneg (od + 1) (show (7 : Int) ≠ 0 by decide)
    have i2 := Int.emod_lt_of_pos (od + 1) (show (0 : Int) < 7 by decide)
    have li2 : ((od + 1) % 7).toNat < tab.length := by omega
    have hv2 := g7 _ (List.getElem_mem li2)
    have S20 := S11.trans s19
    refine ⟨_, rfl, _, rfl, _, _, rfl, rfl, _, _, rfl, rfl, (by show (0 : Int) < 7; decide), _, _, _, _, rfl, rfl, SqL.of (S20 _ _ ls9), at_of (j := ((od + 1) % 7).toNat) (by omega) (List.getElem?_eq_getElem li2), ?_⟩
    generalize tab[((od + 1) % 7).toNat] = v2 at *
    have h19 := s19 _ _ h11
    refine ⟨_, rfl, _, rfl, sp, _, _, j2, rfl, rfl, h19, ixj (by rw [List.length_set]) lj2, ?_⟩
    have S21 : Same H9' (upd H19 sp (.lst ((xs.set j1 v1).set j2 v2))) := same_at S20 hsp
    have h21 := upd_same (H := H19) (a := sp) (o := .lst ((xs.set j1 v1).set j2 v2))
    generalize upd H19 sp (.lst ((xs.set j1 v1).set j2 v2)) = H21 at *
    have g2 := ((gv.same ((sH1.trans sT9).trans S21)).set (hv1.same (sT9.trans S21)) j1).set (hv2.same (sT9.trans S21)) j2
    have q2 := pre_set2 prs (j1 := j1) (j2 := j2) (by omega) (by omega)
    have tl2 : toldR (some (((prs.map some).set j1 none).set j2 none)) = [.str "refused", .int ((min j1 j2 : Nat) : Int)] := by
      rw [toldR_ref (by rw [q2, List.length_set, List.length_set, List.length_map]; omega), q2]
    refine ⟨_, rfl, _, rfl, x, p, _, some (((prs.map some).set j1 none).set j2 none), rfl, hx.same ((sH1.trans sT9).trans S21), hg, ⟨_, .base (.lst h21), R.klist⟩, .row (.inl h21) (by rw [List.length_set]; exact ln1) g2, fun q22 H22 s22 hq22 => ⟨_, rfl, _, rfl, _, _, rfl, (by show 2 ≤ sizeLine; decide), fun q23 hq23 => ?_⟩⟩
    rw [tl2] at hq22
    have em : (if ((j2 : Nat) : Int) < ((j1 : Nat) : Int) then ((j2 : Nat) : Int) else ((j1 : Nat) : Int)) = ((min j1 j2 : Nat) : Int) := by
      split <;> omega
    rw [em]
    have t23 := same_new (o := .tup [.str "refused", .int ((min j1 j2 : Nat) : Int)]) (Same.refl H22) hq23
    refine eq_same (t23 _ _ hq22) upd_same ⟨_, rfl, iteT ?_⟩
    have s23 := (S21.trans s22).trans t23
    have S24 := (sH1.trans sT9).trans s23
    refine ⟨_, rfl, _, rfl, x, p, _, some (prs.map some), rfl, hx.same S24, hg, ⟨_, .base (.lst (S24 _ _ hgl)), R.klist⟩, .row (.inl (S24 _ _ hgl)) hn (gv.same S24), fun q25 H25 s25 hq25 => ⟨(by show 2 ≤ sizeLine; decide), fun q26 hq26 => ?_⟩⟩
    rw [toldR_made (pre_map _)] at hq25
    have t26 := same_new (o := .tup [.str "made", .int 0]) (Same.refl H25) hq26
    exact eq_same (t26 _ _ hq25) upd_same (k _ ((S24.trans s25).trans t26))
end
end Sq

-- needs HandS.Style
namespace Sq
open PySem L2 PyProof.Rows ClX
abbrev s_law : Stmt := top 66
theorem dw_idem {α : Type} (f : α → Bool) : ∀ l : List α, (l.dropWhile f).dropWhile f = l.dropWhile f
  | [] => rfl
  | a :: r => by
    by_cases h : f a = true
    · rw [List.dropWhile_cons, if_pos h]
      exact dw_idem f r
    · rw [List.dropWhile_cons, if_neg h, List.dropWhile_cons, if_neg h]
theorem dw_len {α : Type} (f : α → Bool) : ∀ l : List α, (l.dropWhile f).length ≤ l.length
  | [] => Nat.le_refl _
  | a :: r => by
    rw [List.dropWhile_cons]
    split
    · exact Nat.le_succ_of_le (dw_len f r)
    · exact Nat.le_refl _
theorem dw_mem {α : Type} (f : α → Bool) : ∀ (l : List α) (x : α), x ∈ l.dropWhile f → x ∈ l
  | [], _, h => h
  | a :: r, x, h => by
    rw [List.dropWhile_cons] at h
    split at h
    · exact List.mem_cons_of_mem _ (dw_mem f r x h)
    · exact h
theorem trimP_idem (l : List (Int × Int)) : trimP (trimP l) = trimP l := by
  unfold trimP
  rw [List.reverse_reverse, dw_idem]
theorem trimP_len (l : List (Int × Int)) : (trimP l).length ≤ l.length := by
  unfold trimP
  rw [List.length_reverse]
  exact Nat.le_trans (dw_len _ _) (by rw [List.length_reverse]; exact Nat.le_refl _)
theorem trimP_mem {l : List (Int × Int)} {x : Int × Int} (h : x ∈ trimP l) : x ∈ l := by
  unfold trimP at h
  exact List.mem_reverse.mp (dw_mem _ _ _ (List.mem_reverse.mp h))
theorem low01 {b : Int} (h : 1 ≤ b) : lowp 0 b = (0, 1) := by
  refine (low_is (by omega) (⟨by decide, by decide, ?_, Nat.le_refl _, ?_⟩ : Low 0 b 0 1)).symm
  · rw [Int.zero_mul, Int.zero_mul]
  · show (1 : Int).natAbs ≤ b.natAbs
    omega
theorem horner_step0 {p : Int} {a c : Int × Int} (hg : goodP p = true) (oa : NumOk p a) (oc : NumOk p c) (c0 : c.1 = 0) : plusP p (timesP p (0, 1) a) c = (0, 1) := by
  have c1 : c.2 = 1 := by
    by_cases p0 : p = 0
    · have g := (oc.2.1 p0).1
      rw [c0] at g
      have := oc.1
      simp at g
      omega
    · exact (oc.2.2 p0).1
  have ec : c = (0, 1) := by rw [← c0, ← c1]
  subst ec
  by_cases p0 : p = 0
  · subst p0
    have e1 : timesP 0 (0, 1) a = (0, 1) := by
      unfold timesP npair
      rw [if_pos rfl]
      show lowp (0 * a.1) (1 * a.2) = _
      rw [Int.zero_mul, Int.one_mul]
      exact low01 oa.1
    rw [e1]
    unfold plusP npair
    rw [if_pos rfl]
    exact low01 (b := 1) (by decide)
  · have e1 : timesP p (0, 1) a = (0, 1) := by
      unfold timesP npair
      rw [if_neg p0]
      show ((0 * a.1) % p, 1) = _
      rw [Int.zero_mul, Int.zero_emod]
    rw [e1]
    unfold plusP npair
    rw [if_neg p0]
    show ((0 * 1 + 0 * 1) % p, 1) = _
    simp
theorem horner_trim {p : Int} {a : Int × Int} (hg : goodP p = true) (oa : NumOk p a) {prs : List (Int × Int)} (ok : ∀ b ∈ prs, NumOk p b) : horner p a (trimP prs) = horner p a prs := by
  have key : ∀ l : List (Int × Int), (∀ b ∈ l, NumOk p b) → horner p a (l.dropWhile fun a => a.1 == 0).reverse = horner p a l.reverse := by
    intro l
    induction l with
    | nil => intro _; rfl
    | cons c r ih =>
      intro h
      rw [List.dropWhile_cons]
      split
      · rename_i c0
        rw [ih fun b hb => h b (List.mem_cons_of_mem _ hb), List.reverse_cons]
        unfold horner
        rw [List.foldr_append]
        show _ = List.foldr _ (plusP p (timesP p (0, 1) a) c) _
        rw [horner_step0 hg oa (h c List.mem_cons_self) (by simpa using c0)]
      · rfl
  have := key prs.reverse fun b hb => ok b (List.mem_reverse.mp hb)
  rw [List.reverse_reverse] at this
  exact this
theorem FldAt.updl {C : Addr} {H : Hp} {x q : Addr} {p : Int} {xs : List V} {o : HO} (hq : H q = some (.lst xs)) (h : FldAt C H x p) : FldAt C (L2.upd H q o) x p := by
  obtain ⟨dx, R⟩ := h
  refine ⟨dx, (upd_ne fun z => ?_).trans R⟩
  rw [z, hq] at R
  cases R
theorem Pol.updl {C CP CF : Addr} {H : Hp} {x q : Addr} {p : Int} {prs : List (Int × Int)} {xs : List V} {o : HO} (hq : H q = some (.lst xs)) (h : Pol C CP CF H x p prs) : Pol C CP CF (L2.upd H q o) x p prs := by
  obtain ⟨dx, fx, ct, ys, PO⟩ := h
  refine ⟨dx, fx, ct, ys, (upd_ne fun z => ?_).trans PO.ob, PO.fl.updl hq, (upd_ne fun z => ?_).trans PO.co, PO.nu.upd hq⟩
  · have := PO.ob
    rw [z, hq] at this
    cases this
  · have := PO.co
    rw [z, hq] at this
    cases this
theorem PairAt.updl {H : Hp} {x q : Addr} {a : Int × Int} {xs : List V} {o : HO} (hq : H q = some (.lst xs)) (h : PairAt H x a) : PairAt (L2.upd H q o) x a := by
  refine (upd_ne fun z => ?_).trans h
  rw [PairAt, z, hq] at h
  cases h
theorem RowAt.updl {H : Hp} {l q : Addr} {prs : List (Int × Int)} {xs : List V} {o : HO} (ne : l ≠ q) (hq : H q = some (.lst xs)) (h : RowAt H l prs) : RowAt (L2.upd H q o) l prs := by
  obtain ⟨vs, e, r⟩ := h
  exact ⟨vs, (upd_ne ne).trans e, r.upd hq⟩
theorem NumAt.updl {C : Addr} {H : Hp} {v : V} {q : Addr} {t u : Int} {xs : List V} {o : HO} (hq : H q = some (.lst xs)) (h : NumAt C H v t u) : NumAt C (L2.upd H q o) v t u := by
  rcases h with ⟨r, e, R⟩ | h
  · exact .inl ⟨r, e, R.updl hq⟩
  · exact .inr h
theorem Givs.updl {K : PySem.W.Frag} {C : Addr} {H : Hp} {p : Int} {q : Addr} {ys xs : List V} {prs : List (Int × Int)} {o : HO} (hq : H q = some (.lst xs)) (h : Givs K C H p ys (prs.map some)) : Givs K C (L2.upd H q o) p ys (prs.map some) := by
  refine ⟨h.len, fun i x oo e1 e2 => ?_⟩
  have g := h.at_ i x oo e1 e2
  rw [List.getElem?_map] at e2
  cases e3 : prs[i]? with
  | none => rw [e3] at e2; cases e2
  | some a =>
    rw [e3] at e2
    cases e2
    obtain ⟨t, u, n, r⟩ := g
    exact ⟨t, u, n.updl hq, r⟩
theorem Givs.snoc {K : PySem.W.Frag} {C : Addr} {H : Hp} {p : Int} {ys : List V} {os : List (Option (Int × Int))} {y : V} {o : Option (Int × Int)} (h : Givs K C H p ys os) (a : Giv K C H p y o) : Givs K C H p (ys ++ [y]) (os ++ [o]) := by
  refine ⟨by rw [List.length_append, List.length_append, h.len]; rfl, fun i z qr e1 e2 => ?_⟩
  rcases get_snoc e1 with e1 | ⟨i1, rfl⟩
  · rcases get_snoc e2 with e2 | ⟨i2, rfl⟩
    · exact h.at_ i z qr e1 e2
    · have := get_len e1
      have := h.len
      omega
  · rcases get_snoc e2 with e2 | ⟨i2, rfl⟩
    · have := get_len e2
      have := h.len
      omega
    · exact a
theorem RowV.set {H : Hp} {vs : List V} {prs : List (Int × Int)} {q : Addr} {a : Int × Int} (h : RowV H vs prs) (hq : PairAt H q a) (j : Nat) : RowV H (vs.set j (.ref q)) (prs.set j a) := by
  refine ⟨by rw [List.length_set, List.length_set, h.len], fun i x b e1 e2 => ?_⟩
  rw [List.getElem?_set] at e1 e2
  by_cases c : j = i
  · rw [if_pos c] at e1 e2
    split at e1
    · cases e1
      split at e2
      · cases e2
        exact ⟨q, rfl, hq⟩
      · cases e2
    · cases e1
  · rw [if_neg c] at e1 e2
    exact h.at_ i x b e1 e2
theorem mkP_go {K : PySem.W.Frag} {C CP CF CRd CNP x y dy : Addr} {H : Hp} {p : Int} {v : V} {prs : List (Int × Int)} {Q : VK} {E : XK} (hx : FldAt CF H x p) (hg : goodP p = true) (nc : NotC K H v CRd) (ri : RowIn K C H p 100 v (some (prs.map some))) (ny : H y = none) (ndy : H dy = none) (ne : dy ≠ y)
    (k : ∀ H', Same H H' → Pol C CP CF H' y p (trimP prs) → Q .non H') : spPolyInit K C CP CF CRd CNP [.ref y, .ref x, v] (upd (upd H dy (.own y)) y (.ins CP dy [])) Q E := by
  have s0 : Same H (upd (upd H dy (.own y)) y (.ins CP dy [])) := same_pair ny ndy ne
  refine ⟨y, dy, x, p, v, _, rfl, upd_same, hx.same s0, hg, nc.same s0, ri.same s0, (fun e => by cases e), fun os e lt => ?_, fun os e ec H1 b1 pol => ?_⟩
  · cases e
    rw [pre_map] at lt
    omega
  · cases e
    rw [pre_all rfl] at pol
    exact k H1 (same_made ny ndy b1) pol
theorem pd_sh (a : Int × Int) : SeqAt.shaped (pairD a) = true := by
  simp [pairD, SeqAt.shaped, PyData.canLay0, PyData.canLayAll0, PyData.depth, PyData.depthAll]
theorem pd_dp {K : PySem.W.Frag} {H : Hp} {q : Addr} {a : Int × Int} (h : PairAt H q a) : Dp K H (.ref q) (pairD a) := .tup (SqT.of h) (.cons (.int _) (.cons (.int _) .nil))
theorem ne_pair {K : PySem.W.Frag} {H : Hp} {p q : Addr} {a : Int × Int} {Q : VK} (hp : PairAt H p a) (hq : PairAt H q a) (k : Q (.bl false) H) : rNeD K (.ref p) (.ref q) H Q :=
  ⟨_, _, pd_dp hp, pd_dp hq, pd_sh a, pd_sh a, by
    rw [SeqAt.eqv_refl _ (SeqAt.canLay_of_shaped (pd_sh a))]
    exact k⟩
theorem ne_row {K : PySem.W.Frag} {H : Hp} {p q : Addr} {prs : List (Int × Int)} {Q : VK} (hp : RowAt H p prs) (hq : RowAt H q prs) (k : Q (.bl false) H) : rNeD K (.ref p) (.ref q) H Q :=
  ⟨_, _, hp.dp, hq.dp, row_shaped prs, row_shaped prs, by
    rw [SeqAt.eqv_refl _ (SeqAt.canLay_of_shaped (row_shaped prs))]
    exact k⟩
theorem passLS {X : Cx} {σ : L2.St} : PassesAt (L2.CX X.prog X.w) X σ E0 := fun pins H s e s' I h => passL pins σ H s e s' I h
section
variable {P : Program} {w : World} {K : PySem.W.Frag} {mg : Str → Option Value} {base : Heap}
theorem sc_law : FnScope ["_law_script", "_law_state_here", "_law_prime_here", "_law_first", "_law_second", "_law_odd", "_law_size", "_law_ends", "_law_x", "_law_row_here", "_law_k", "_law_field", "_law_given_here", "_law_made", "_law_kept", "_law_due", "_law_number_here", "_law_thing", "_law_place"] ["_law_script"] (defScope s_law) := ⟨rfl, rfl, rfl, by decide +kernel, rfl, by decide +kernel, by decide +kernel⟩
theorem ok_law {f C CF CP CRd CN CNF CNP CNN CNC fR fF fpinit fcoef fat fpcall fstate fdraw flpr fnumber fsmall fpassed ftrimmed ftold flread fcounted flat fvalue frefusals : Addr} {fd fdR fdF fdpinit fdcoef fdat fdpcall fdstate fddraw fdlpr fdnumber fdsmall fdpassed fdtrimmed fdtold fdlread fdcounted fdlat fdvalue fdrefusals : FuncData} {dsR : List Value} {mc v100 : Value} (F : Fun K "law" "law" s_law f fd) (D : DTx mg) (B : QTx mg) (b_min : mg "min" = none) (T : CTx K C) (Y : ITy K C) (Z : KZx K C) (Z3 : KZ3 K C) (R : KRd K C CRd) (TP : PTx K CP)
    (m_C : mg "Ratio" = some (.ref C)) (m_CF : mg "Field" = some (.ref CF)) (m_P : mg "Poly" = some (.ref CP)) (M : Mk K C fR) (MF : Mk K CF fF) (MP : Mk K CP fpinit) (rd : CRead K CP mc) (cv : CVal K CP mc "MOST" (.int 100) v100)
    (G_R : FnOk P w K mg base (L2.CX P w) 3 fR fdR ["self", "top", "bottom"] (spRatioInit K C CN)) (b_R1 : Binds K fdR ["self", "top", "bottom"] dsR) (v1 : Vals [.int 1] dsR)
    (G_F : FnOk P w K mg base (L2.CX P w) 2 fF fdF ["self", "prime"] (spFieldInit K CF CNF)) (b_F : Binds K fdF ["self", "prime"] [])
    (G_pinit : FnOk P w K mg base (L2.CX P w) 11 fpinit fdpinit ["self", "field", "coefficients"] (spPolyInit K C CP CF CRd CNP)) (b_pinit : Binds K fdpinit ["self", "field", "coefficients"] [])
    (Me_coef : Meth K CP "coefficient" fcoef) (G_coef : FnOk P w K mg base (L2.CX P w) 9 fcoef fdcoef ["self", "k"] (spPCoef K C CP CF CNC)) (b_coef : Binds K fdcoef ["self", "k"] [])
    (Me_at : Meth K CP "at" fat) (G_at : FnOk P w K mg base (L2.CX P w) 9 fat fdat ["self", "x"] (spPAt K C CP CF CNN)) (b_at : Binds K fdat ["self", "x"] []) (IC : ICall K CP fpcall) (G_pcall : FnOk P w K mg base (L2.CX P w) 10 fpcall fdpcall ["self", "x"] (spPAt K C CP CF CNN)) (b_pcall : Binds K fdpcall ["self", "x"] [])
    (G_state : FnOk P w K mg base CX0 1 fstate fdstate ["_law_script"] (spState K)) (m_state : mg "_law_state" = some (.ref fstate)) (k_state : PySem.W.keepIn K (.ref fstate) = true) (b_state : Binds K fdstate ["_law_script"] [])
    (G_draw : FnOk P w K mg base CX0 1 fdraw fddraw ["_law_state_here", "_law_many"] spDrawA) (m_draw : mg "_law_draw" = some (.ref fdraw)) (k_draw : PySem.W.keepIn K (.ref fdraw) = true) (b_draw : Binds K fddraw ["_law_state_here", "_law_many"] [])
    (G_lpr : FnOk P w K mg base CX0 2 flpr fdlpr ["_law_state_here"] spLpr) (m_lpr : mg "_law_prime" = some (.ref flpr)) (k_lpr : PySem.W.keepIn K (.ref flpr) = true) (b_lpr : Binds K fdlpr ["_law_state_here"] [])
    (G_number : FnOk P w K mg base CX0 3 fnumber fdnumber ["_law_state_here", "_law_prime_here"] spNumber) (m_number : mg "_law_number" = some (.ref fnumber)) (k_number : PySem.W.keepIn K (.ref fnumber) = true) (b_number : Binds K fdnumber ["_law_state_here", "_law_prime_here"] [])
    (G_small : FnOk P w K mg base CX0 4 fsmall fdsmall ["_law_state_here", "_law_prime_here", "_law_size"] spSmall) (m_small : mg "_law_small" = some (.ref fsmall)) (k_small : PySem.W.keepIn K (.ref fsmall) = true) (b_small : Binds K fdsmall ["_law_state_here", "_law_prime_here", "_law_size"] [])
    (G_passed : FnOk P w K mg base CX0 6 fpassed fdpassed ["_law_prime_here", "_law_pair_here", "_law_k"] (spPassed K C)) (m_passed : mg "_law_passed" = some (.ref fpassed)) (k_passed : PySem.W.keepIn K (.ref fpassed) = true) (b_passed : Binds K fdpassed ["_law_prime_here", "_law_pair_here", "_law_k"] [])
    (G_trimmed : FnOk P w K mg base CX0 1 ftrimmed fdtrimmed ["_law_row_here"] spTrimmed) (m_trimmed : mg "_law_trimmed" = some (.ref ftrimmed)) (k_trimmed : PySem.W.keepIn K (.ref ftrimmed) = true) (b_trimmed : Binds K fdtrimmed ["_law_row_here"] [])
    (G_told : FnOk P w K mg base CX0 4 ftold fdtold ["_law_prime_here", "_law_told"] (spTold C CP CF)) (m_told : mg "_law_told_poly" = some (.ref ftold)) (k_told : PySem.W.keepIn K (.ref ftold) = true) (b_told : Binds K fdtold ["_law_prime_here", "_law_told"] [])
    (G_lread : FnOk P w K mg base CX0 2 flread fdlread ["_law_prime_here", "_law_told"] (spLRead C)) (m_lread : mg "_law_read" = some (.ref flread)) (k_lread : PySem.W.keepIn K (.ref flread) = true) (b_lread : Binds K fdlread ["_law_prime_here", "_law_told"] [])
    (G_counted : FnOk P w K mg base CX0 10 fcounted fdcounted ["_law_poly", "_law_k"] (spCounted K C CP CF)) (m_counted : mg "_law_counted" = some (.ref fcounted)) (k_counted : PySem.W.keepIn K (.ref fcounted) = true) (b_counted : Binds K fdcounted ["_law_poly", "_law_k"] [])
    (G_lat : FnOk P w K mg base CX0 11 flat fdlat ["_law_poly", "_law_x", "_law_way"] (spLat K C CP CF)) (m_lat : mg "_law_at" = some (.ref flat)) (k_lat : PySem.W.keepIn K (.ref flat) = true) (b_lat : Binds K fdlat ["_law_poly", "_law_x", "_law_way"] [])
    (G_value : FnOk P w K mg base CX0 4 fvalue fdvalue ["_law_prime_here", "_law_row_here", "_law_x"] spValue) (m_value : mg "_law_value" = some (.ref fvalue)) (k_value : PySem.W.keepIn K (.ref fvalue) = true) (b_value : Binds K fdvalue ["_law_prime_here", "_law_row_here", "_law_x"] [])
    (G_refusals : FnOk P w K mg base CX0 14 frefusals fdrefusals ["_law_field", "_law_prime_here", "_law_given_here", "_law_first", "_law_second", "_law_odd"] (spRefusals K C CF)) (m_refusals : mg "_law_refusals" = some (.ref frefusals)) (k_refusals : PySem.W.keepIn K (.ref frefusals) = true) (b_refusals : Binds K fdrefusals ["_law_field", "_law_prime_here", "_law_given_here", "_law_first", "_law_second", "_law_odd"] []) : FnOk P w K mg base CX0 15 f fd ["_law_script"] (spLaw K) := by
  refine F.ok sc_law (fun vs H Q E h => ?_) (fun cdv A outer s H vs Q E hr h => ?_)
  · obtain ⟨a, ns, rfl, _⟩ := h
    rfl
  · obtain ⟨a0, ns, rfl, hS, hl, k⟩ := h
    refine ⟨_, (pss_cons (ps_set (i := 1) sc_law.nd rfl (Or.inl rfl) (pe_call G_state (hr.mono (by decide)) rfl m_state k_state b_state .nil pass0 (pa_cons (pv 0) pa_nil)))
      (pss_cons (ps_set (i := 2) sc_law.nd rfl (Or.inr rfl) (pe_call G_lpr (hr.mono (by decide)) rfl m_lpr k_lpr b_lpr .nil pass0 (pa_cons (pv 1) pa_nil)))
      (pss_cons (ps_par3 (i := 3) (j := 4) (l := 5) (by rfl) sc_law.nd rfl rfl rfl (by decide) (by decide) (by decide) rfl rfl rfl (pa_cons (pe_call G_draw (hr.mono (by decide)) rfl m_draw k_draw b_draw .nil pass0 (pa_cons (pv 1) (pa_cons pe_int pa_nil))) (pa_cons (pe_call G_draw (hr.mono (by decide)) rfl m_draw k_draw b_draw .nil pass0 (pa_cons (pv 1) (pa_cons pe_int pa_nil))) (pa_cons (pe_call G_draw (hr.mono (by decide)) rfl m_draw k_draw b_draw .nil pass0 (pa_cons (pv 1) (pa_cons pe_int pa_nil))) pa_nil))) (by rfl))
      (pss_cons (ps_set (i := 6) sc_law.nd rfl (Or.inl rfl) (pe_call G_draw (hr.mono (by decide)) rfl m_draw k_draw b_draw .nil pass0 (pa_cons (pv 1) (pa_cons pe_int pa_nil))))
      (C8.pss_cut (ps_if (pt_cmpR op_eq (pe_call G_draw (hr.mono (by decide)) rfl m_draw k_draw b_draw .nil pass0 (pa_cons (pv 1) (pa_cons pe_int pa_nil))) pe_int (nomark _))
        (pss_one (ps_set (i := 6) sc_law.nd rfl (Or.inl rfl) (pe_call G_draw (hr.mono (by decide)) rfl m_draw k_draw b_draw .nil pass0 (pa_cons (pv 1) (pa_cons pe_int pa_nil)))))
        pss_nil)
      (pss_cons (ps_set (i := 7) sc_law.nd rfl (Or.inl rfl) (pe_call G_draw (hr.mono (by decide)) rfl m_draw k_draw b_draw .nil pass0 (pa_cons (pv 1) (pa_cons pe_int pa_nil))))
      (pss_cons (ps_set (i := 8) sc_law.nd rfl (Or.inl rfl) (pe_call G_number (hr.mono (by decide)) rfl m_number k_number b_number .nil pass0 (pa_cons (pv 1) (pa_cons (pv 2) pa_nil))))
      (pss_cons (ps_set (i := 9) sc_law.nd rfl (Or.inr rfl) (pe_call G_small (hr.mono (by decide)) rfl m_small k_small b_small .nil pass0 (pa_cons (pv 1) (pa_cons (pv 2) (pa_cons (pv 6) pa_nil)))))
      (pss_cons (ps_for PassesOwn.never rfl (pi_range1 (by rfl) D.b_range (pa_cons (pe_callB (call_min2 rfl) (by rfl) b_min (by decide +kernel) (pa_cons (pv 7) (pa_cons (pv 6) pa_nil))) pa_nil)) (pg_name (i := 10) sc_law.nd rfl (Or.inl rfl)) (pss_one (ps_asg (pe_tup (pa_cons pe_int (pa_cons pe_int pa_nil))) (pg_sub (pv 9) (pe_op op_sub (pe_op op_sub (pv 6) pe_int) (pv 10)) set_list))))
      (pss_cons (ps_set (i := 11) sc_law.nd rfl (Or.inl rfl) (pe_make MF G_F (hr.mono (by decide)) rfl m_CF b_F .nil passL (pa_cons (pv 2) pa_nil)))
      (pss_cons (ps_setLc (i := 12) (own := [("_law_k", 10)]) (g := gName 10) (tt := tYes) rfl sc_law.nd rfl rfl (sw_true rfl rfl rfl (by decide +kernel))
        (pi_range1 (by rfl) D.b_range (pa_cons (pv 6) pa_nil)) (blkOk_by (N := ["_law_script", "_law_state_here", "_law_prime_here", "_law_first", "_law_second", "_law_odd", "_law_size", "_law_ends", "_law_x", "_law_row_here", "_law_k", "_law_field", "_law_given_here", "_law_made", "_law_kept", "_law_due", "_law_number_here", "_law_thing", "_law_place"]) (sc := defScope s_law) (by decide +kernel)) (fun _ _ _ _ _ => pg_name (i := 10) sc_law.nd rfl (Or.inl rfl)) (fun _ _ _ _ _ => pts_nil)
        (fun _ _ _ _ _ => (pe_call G_passed (hr.mono (by decide)) rfl m_passed k_passed b_passed .nil pass0 (pa_cons (pv 2) (pa_cons (pe_ix (show IxR _ (rIxL K) from ix_list) (pv 9) (pv 10) (fun _ _ => rfl)) (pa_cons (pv 10) pa_nil))))))
      (pss_cons (ps_set (i := 13) sc_law.nd rfl (Or.inl rfl) (pe_make MP G_pinit (hr.mono (by decide)) rfl m_P b_pinit .nil passL (pa_cons (pv 11) (pa_cons (pv 12) pa_nil))))
      (pss_cons (ps_set (i := 14) sc_law.nd rfl (Or.inl rfl) (pe_callTy call_list_of (by rfl) B.b_list (by decide +kernel) (pa_cons (pv 12) pa_nil)))
      (pss_cons (ps_expr (pe_bm PySem.F.plainAttrs_list PySem.F.slot_list_append PySem.F.type_list_append mt_append (pv 12) (pa_cons pe_int pa_nil)))
      (pss_cons (ps_asg pe_int (pg_sub (pv 12) pe_int set_list))
      (pss_cons (ps_set (i := 15) sc_law.nd rfl (Or.inl rfl) (pe_call G_trimmed (hr.mono (by decide)) rfl m_trimmed k_trimmed b_trimmed .nil pass0 (pa_cons (pv 9) pa_nil)))
      (pss_cons (ps_if (PW.pt (pw_or (pt_cmpR (op_neD hr.units) (pe_call G_told (hr.mono (by decide)) rfl m_told k_told b_told .nil pass0 (pa_cons (pv 2) (pa_cons (pv 13) pa_nil))) (pv 15) (nomark _)) (pw_or1 (pt_cmpR (op_neD hr.units) (pe_call G_told (hr.mono (by decide)) rfl m_told k_told b_told .nil pass0 (pa_cons (pv 2) (pa_cons (pe_make MP G_pinit (hr.mono (by decide)) rfl m_P b_pinit .nil passL (pa_cons (pv 11) (pa_cons (pe_callTy call_tuple_of (by rfl) B.b_tuple (by decide +kernel) (pa_cons (pv 14) pa_nil)) pa_nil))) pa_nil))) (pv 15) (nomark _)))))
        (pss_one (ps_ret pe_bl))
        pss_nil)
      (pss_cons (ps_for PassesOwn.never rfl (pi_list (pe_lst (pa_cons pe_int (pa_cons (pv 3) (pa_cons (pe_op op_sub (pe_callB call_len_seq (by rfl) B.b_len (by decide +kernel) (pa_cons (pv 15) pa_nil)) pe_int) (pa_cons (pe_callB call_len_seq (by rfl) B.b_len (by decide +kernel) (pa_cons (pv 15) pa_nil)) (pa_cons (pe_op op_pow pe_int pe_int) pa_nil))))))) (pg_name (i := 10) sc_law.nd rfl (Or.inl rfl)) (pss_cons (ps_set (i := 16) sc_law.nd rfl (Or.inl rfl) (pe_tup (pa_cons pe_int (pa_cons pe_int pa_nil))))
      (C8.pss_cut (ps_if (pt_chain op_le op_lt pe_int (pv 10) (pe_callB call_len_seq (by rfl) B.b_len (by decide +kernel) (pa_cons (pv 15) pa_nil)))
        (pss_one (ps_set (i := 16) sc_law.nd rfl (Or.inl rfl) (pe_ix ix_list (pv 15) (pv 10) (fun _ _ => rfl))))
        pss_nil)
      (pss_one (ps_if (PW.pt (pw_and (pt_cmpR op_ge (pv 10) pe_int (nomark _)) (pw_and1 (pt_cmpR (op_neD hr.units) (pe_call G_lread (hr.mono (by decide)) rfl m_lread k_lread b_lread .nil pass0 (pa_cons (pv 2) (pa_cons (pe_meth (pv 13) TP.cl Me_coef G_coef (hr.mono (by decide)) b_coef .nil passL (pa_cons (pv 10) pa_nil)) pa_nil))) (pv 16) (nomark _)))))
        (pss_one (ps_ret pe_bl))
        pss_nil)))))
      (pss_cons (ps_for PassesOwn.never rfl (pi_list (pe_lst (pa_cons (pe_un un_neg pe_int) (pa_cons pe_bl (pa_cons pe_str (pa_cons pe_non (pa_cons (pe_un un_neg (pe_op op_pow pe_int pe_int)) (pa_cons (pe_make M G_R (hr.mono (by decide)) rfl m_C b_R1 v1 passL (pa_cons pe_int pa_nil)) pa_nil)))))))) (pg_name (i := 10) sc_law.nd rfl (Or.inl rfl)) (pss_one (ps_if (pt_cmpR op_ne (pe_call G_counted (hr.mono (by decide)) rfl m_counted k_counted b_counted .nil pass0 (pa_cons (pv 13) (pa_cons (pv 10) pa_nil))) pe_str (nomark _))
        (pss_one (ps_ret pe_bl))
        pss_nil)))
      (pss_cons (ps_for PassesOwn.never rfl (pi_list (pe_lst (pa_cons pe_str (pa_cons pe_bl (pa_cons pe_non (pa_cons (pe_lst (pa_cons pe_int pa_nil)) (pa_cons (pe_tup pa_nil) (pa_cons pe_str pa_nil)))))))) (pg_name (i := 17) sc_law.nd rfl (Or.inl rfl)) (pss_one (ps_if (PW.pt (pw_or (pt_cmpR op_ne (pe_call G_lat (hr.mono (by decide)) rfl m_lat k_lat b_lat .nil pass0 (pa_cons (pv 13) (pa_cons (pv 17) (pa_cons pe_int pa_nil)))) pe_str (nomark _)) (pw_or1 (pt_cmpR op_ne (pe_call G_lat (hr.mono (by decide)) rfl m_lat k_lat b_lat .nil pass0 (pa_cons (pv 13) (pa_cons (pv 17) (pa_cons pe_int pa_nil)))) pe_str (nomark _)))))
        (pss_one (ps_ret pe_bl))
        pss_nil)))
      (pss_cons (ps_set (i := 18) sc_law.nd rfl (Or.inl rfl) (pe_call G_passed (hr.mono (by decide)) rfl m_passed k_passed b_passed .nil pass0 (pa_cons (pv 2) (pa_cons (pv 8) (pa_cons (pv 3) pa_nil)))))
      (pss_cons (ps_set (i := 16) sc_law.nd rfl (Or.inl rfl) (pe_call G_value (hr.mono (by decide)) rfl m_value k_value b_value .nil pass0 (pa_cons (pv 2) (pa_cons (pv 9) (pa_cons (pv 8) pa_nil)))))
      (pss_cons (ps_if (PW.pt (pw_or (pt_cmpR (op_neD hr.units) (pe_call G_lread (hr.mono (by decide)) rfl m_lread k_lread b_lread .nil pass0 (pa_cons (pv 2) (pa_cons (pe_meth (pv 13) TP.cl Me_at G_at (hr.mono (by decide)) b_at .nil passL (pa_cons (pv 18) pa_nil)) pa_nil))) (pv 16) (nomark _)) (pw_or1 (pt_cmpR (op_neD hr.units) (pe_call G_lread (hr.mono (by decide)) rfl m_lread k_lread b_lread .nil pass0 (pa_cons (pv 2) (pa_cons (pe_icS (i := 13) (W := fun _ => E0) rfl (Or.inl rfl) IC G_pcall (hr.mono (by decide)) b_pcall (fun _ => passLS) (pa_cons (pv 18) pa_nil)) pa_nil))) (pv 16) (nomark _)))))
        (pss_one (ps_ret pe_bl))
        pss_nil)
      (pss_one (ps_ret (pe_and (pe_cmpR op_eq (pe_cval (pe_glob (v := .ref CP) rfl m_P rfl)) pe_int (nomark _)) (pe_one (pe_call G_refusals (hr.mono (by decide)) rfl m_refusals k_refusals b_refusals .nil pass0 (pa_cons (pv 11) (pa_cons (pv 2) (pa_cons (pv 14) (pa_cons (pv 3) (pa_cons (pv 4) (pa_cons (pv 5) pa_nil)))))))))))))))))))))))))))))))))), ?_⟩
    refine ⟨_, rfl, a0, ns, rfl, hS, hl, fun st H1 _ S1 _ => ?_⟩
    refine ⟨_, rfl, st, rfl, S1, fun p H2 hg S2 _ => ?_⟩
    obtain ⟨ad, S2⟩ := S2
    refine ⟨_, rfl, st, _, ad, rfl, by decide, by decide, S2, fun v1' H3 a30 a31 S3 _ => ⟨_, rfl, st, _, ad, rfl, by decide, by decide, S3, fun v2 H4 a40 a41 S4 _ => ⟨_, rfl, st, _, ad, rfl, by decide, by decide, S4, fun v3 H5 a50 a51 S5 _ => ⟨_, _, _, rfl, ?_⟩⟩⟩⟩
    refine ⟨_, rfl, st, _, ad, rfl, by decide, by decide, S5, fun v4 H6 a60 a61 S6 _ => ?_⟩
    refine ⟨fun σ H' => ∃ n : Nat, n ≤ 100 ∧ σ = [some (.ref a0), some (.ref st), some (.int p), some (.int v1'), some (.int v2), some (.int v3), some (.int (n : Int)), none, none, none, none, none, none, none, none, none, none, none, none] ∧ StA H' st ad, ?_, ?_⟩
    · refine ⟨_, rfl, st, _, ad, rfl, by decide, by decide, S6, fun v5 H7 _ _ S7 _ => ⟨rfl, _, rfl, ?_⟩⟩
      refine ite2 (fun _ => ?_) (fun _ => ?_)
      · refine ⟨_, rfl, st, _, ad, rfl, by decide, by decide, S7, fun v6 H8 a80 a81 S8 _ => ⟨v6.toNat, by omega, ?_, S8⟩⟩
        rw [Int.toNat_of_nonneg a80]
        rfl
      · refine ⟨v4.toNat, by omega, ?_, S7⟩
        rw [Int.toNat_of_nonneg a60]
        rfl
    rintro σ H8 ⟨n, n100, rfl, S8⟩
    refine ⟨_, rfl, st, _, ad, rfl, by decide, by decide, S8, fun e H9 e0 e4 S9 _ => ?_⟩
    refine ⟨_, rfl, _, rfl, st, p, ad, rfl, S9, hg, fun qx xa H10 S10 _ hqx ox => ?_⟩
    refine ⟨_, rfl, _, rfl, _, rfl, st, p, n, ad, rfl, S10, hg, by omega, fun l prs0 H11 S11 B11 nl r0 ln0 ok0 => ?_⟩
    have hqx11 := but_pair S10 B11 hqx
    -- zeros at the end
    obtain ⟨m, em, m0, m1⟩ : ∃ m : Int, (if (n : Int) < e then (n : Int) else e) = m ∧ 0 ≤ m ∧ m ≤ n := ⟨_, rfl, by split <;> omega, by split <;> omega⟩
    refine ⟨_, rfl, _, rfl, _, _, rfl, m, by rw [em], by omega, by omega, ?_⟩
    refine for_range (lo := 0) (n := m.toNat) (fun i σ H' => ∃ (z : Option V) (prs : List (Int × Int)), σ = [some (.ref a0), some (.ref st), some (.int p), some (.int v1'), some (.int v2), some (.int v3), some (.int (n : Int)), some (.int e), some (.ref qx), some (.ref l), z, none, none, none, none, none, none, none, none] ∧ RowAt H' l prs ∧ prs.length = n ∧ (∀ a ∈ prs, NumOk p a) ∧ PairAt H' qx xa) ⟨none, prs0, rfl, r0, ln0, ok0, hqx11⟩ ?_ ?_
    · rintro i σ H12 hi ⟨z, prs, rfl, ⟨vs, hvs, rv⟩, ln, ok, hq⟩
      have lv := rv.len
      refine ⟨(by show 2 ≤ sizeLine; decide), fun q0 hq0 => ?_⟩
      have sq := same_new (o := .tup [.int 0, .int 1]) (Same.refl H12) hq0
      have hv2 := sq _ _ hvs
      refine ⟨_, rfl, _, rfl, _, _, rfl, rfl, _, rfl, _, _, rfl, rfl, l, vs, _, n - 1 - i, rfl, rfl, hv2, ?_, some (.int (0 + (i : Int))), prs.set (n - 1 - i) (0, 1), rfl, ⟨_, upd_same, (((rv.same sq).set (q := q0) (a := (0, 1)) upd_same _).upd hv2)⟩, ?_, ?_, (hq.same sq).updl hv2⟩
      · rw [ix_ok (by omega) (by omega)]
        congr 1
        omega
      · rw [List.length_set, ln]
      · intro b hb
        rcases List.mem_or_eq_of_mem_set hb with h | h
        · exact ok b h
        · rw [h]
          exact num_ok0 hg
    rintro σ H12 ⟨z, prs, rfl, r12, ln, ok, hq12⟩
    -- the field, what is given, the polynomial
    refine ⟨_, rfl, fun fz dfz nz ndz ne => mkF_go hg nz ndz ne fun H13 hf13 s13 => ⟨rfl, ?_⟩⟩
    have r13 := r12.same s13
    have hq13 := hq12.same s13
    obtain ⟨vs13, hv13, rv13⟩ := id r13
    have lv13 := rv13.len
    refine ⟨_, rfl, (n : Int), rfl, by omega, by omega, fun L hL => ?_⟩
    refine lc_range (lo := 0) (n := n) (fun i H' => ∃ ys, Same H13 H' ∧ H' L = some (.lst ys) ∧ Givs K C H' p ys ((prs.take i).map some)) ?_ ?_ ?_
    · exact ⟨[], same_new (Same.refl _) hL, upd_same, ⟨rfl, fun i x o e => by simp at e⟩⟩
    · rintro i H14 hi ⟨ys, s14, hys, gv⟩
      have lp : i < prs.length := by omega
      have lvv : i < vs13.length := by omega
      obtain ⟨qc, eq, hqc⟩ := rv13.at_ _ _ _ (List.getElem?_eq_getElem lvv) (List.getElem?_eq_getElem lp)
      refine ⟨rfl, _, rfl, _, rfl, _, rfl, _, _, _, _, rfl, rfl, SqL.of (s14 _ _ hv13), at_of (j := i) (by omega) (List.getElem?_eq_getElem lvv), _, rfl, ?_⟩
      rw [eq]
      refine ⟨p, qc, _, _, rfl, hg, hqc.same s14, ok _ (List.getElem_mem lp), by omega, by omega, fun y H15 s15 gy => ?_⟩
      have hy15 := s15 _ _ hys
      have e : (sizeLine : Nat) = 16777216 := sizeLine_eq
      have ll := gv.len
      rw [List.length_map, List.length_take] at ll
      refine ⟨ys, hy15, by omega, ys ++ [y], same_at (s14.trans s15) hL, upd_same, ?_⟩
      rw [take_more (List.getElem?_eq_getElem lp), List.map_append]
      have := ((gv.same s15).snoc gy)
      have e2 : (prs.take i).map some ++ [some prs[i]] = ((prs.take i) ++ [prs[i]]).map some := by rw [List.map_append]; rfl
      rw [e2] at this
      have := this.updl (q := L) (o := .lst (ys ++ [y])) hy15
      rw [List.map_append] at this
      exact this
    rintro H14 ⟨ys, s14, hys14, gv14⟩
    rw [← ln, List.take_length] at gv14
    have ly : ys.length = n := by
      have := gv14.len
      rw [List.length_map] at this
      omega
    have nl14 : l ≠ L := ne_of_none hv13 hL
    have hf14 := hf13.same s14
    refine ⟨_, rfl, _, rfl, fun y dy ny ndy ne => mkP_go (prs := prs) hf14 hg ⟨_, .base (.lst hys14), R.klist⟩ (.row (.inl hys14) (by omega) gv14) ny ndy ne fun H15 s15 pol15 => ⟨rfl, ?_⟩⟩
    have hys15 := s15 _ _ hys14
    refine ⟨_, rfl, L, ys, rfl, .inl (SqL.of hys15), fun kl hkl => ?_⟩
    have s16 := s15.trans (same_new (o := .lst ys) (Same.refl _) hkl)
    have pol16 := pol15.same (same_new (o := .lst ys) (Same.refl _) hkl)
    have hk16 := upd_same (H := H15) (a := kl) (o := .lst ys)
    have nkl : kl ≠ L := fun z => by
      rw [z, hys15] at hkl
      cases hkl
    generalize upd H15 kl (.lst ys) = H16 at *
    have hys16 := s16 _ _ hys14
    have e24 : (sizeLine : Nat) = 16777216 := sizeLine_eq
    refine ⟨_, rfl, .inl ⟨rfl, _, SqL.of hys16⟩, L, ys, _, rfl, rfl, hys16, by omega, ?_⟩
    have hL17 := upd_same (H := H16) (a := L) (o := .lst (ys ++ [V.int 1]))
    refine ⟨_, rfl, L, _, _, 0, rfl, rfl, hL17, (by rw [ix_ok (by decide) (by simp)]; rfl), ?_⟩
    have hf17 := ((hf14.same s16).updl (q := L) (o := .lst (ys ++ [V.int 1])) hys16).updl (q := L) (o := .lst ((ys ++ [V.int 1]).set 0 (V.int 5))) hL17
    have pol17 := (pol16.updl (q := L) (o := .lst (ys ++ [V.int 1])) hys16).updl (q := L) (o := .lst ((ys ++ [V.int 1]).set 0 (V.int 5))) hL17
    have hk17 := (upd_ne (o := .lst ((ys ++ [V.int 1]).set 0 (V.int 5))) nkl).trans ((upd_ne (o := .lst (ys ++ [V.int 1])) nkl).trans hk16)
    have gv17 := ((gv14.same s16).updl (q := L) (o := .lst (ys ++ [V.int 1])) hys16).updl (q := L) (o := .lst ((ys ++ [V.int 1]).set 0 (V.int 5))) hL17
    have r17 := (((r13.same s14).same s16).updl (q := L) (o := .lst (ys ++ [V.int 1])) nl14 hys16).updl (q := L) (o := .lst ((ys ++ [V.int 1]).set 0 (V.int 5))) nl14 hL17
    have q17 := (((hq13.same s14).same s16).updl (q := L) (o := .lst (ys ++ [V.int 1])) hys16).updl (q := L) (o := .lst ((ys ++ [V.int 1]).set 0 (V.int 5))) hL17
    generalize upd (upd H16 L (.lst (ys ++ [V.int 1]))) L (.lst ((ys ++ [V.int 1]).set 0 (V.int 5))) = HB at *
    refine ⟨_, rfl, l, prs, rfl, r17, by omega, fun ld HC sC due => ?_⟩
    have tl := trimP_len prs
    -- told
    refine ⟨_, rfl, _, rfl, p, y, _, rfl, hg, pol17.same sC, trimP_idem _, by omega, fun l1 H18 s18 r18 => ⟨_, rfl, ne_row r18 (due.same s18) ⟨_, rfl, iteF ?_⟩⟩⟩
    have t18 := sC.trans s18
    refine ⟨_, rfl, _, rfl, _, rfl, kl, ys, rfl, .inl ⟨SqL.of (t18 _ _ hk17), fun tk htk => ?_⟩⟩
    have t19 := t18.trans (same_new (o := .tup ys) (Same.refl _) htk)
    refine fun y2 dy2 ny ndy ne => mkP_go (prs := prs) (hf17.same t19) hg ⟨_, .base (.tup upd_same), R.ktup⟩ (.row (.inr upd_same) (by omega) (gv17.same t19)) ny ndy ne fun H20 s20 pol20 => ⟨rfl, ?_⟩
    refine ⟨p, y2, _, rfl, hg, pol20, trimP_idem _, by omega, fun l2 H21 s21 r21 => ⟨_, rfl, ne_row r21 (((due.same s18).same ((same_new (Same.refl _) htk).trans s20)).same s21) ⟨_, rfl, iteF ?_⟩⟩⟩
    have t21 := (t19.trans s20).trans s21
    have due21 := ((due.same s18).same ((same_new (o := .tup ys) (Same.refl _) htk).trans s20)).same s21
    have polD := pol17.same t21
    -- coefficients
    obtain ⟨dv, hdv, rdv⟩ := id due21
    have ldv := rdv.len
    refine ⟨_, rfl, _, rfl, ld, dv, rfl, .inl (SqL.of hdv), _, _, rfl, rfl, _, rfl, ld, dv, rfl, .inl (SqL.of hdv), _, _, rfl, rfl, ⟨by decide, by decide, by decide⟩, (by show 5 ≤ sizeLine; decide), fun lk hlk => ⟨lk, rfl, ⟨_, SqL.of upd_same⟩, ?_⟩⟩
    obtain ⟨xk, exk⟩ : ∃ xk : List V, [V.int 0, V.int v1', V.int ((dv.length : Int) - 1), V.int (dv.length : Int), V.int ((10 : Int) ^ (30 : Int).toNat)] = xk := ⟨_, rfl⟩
    have allk : ∀ v ∈ xk, ∃ kk, v = .int kk := by
      intro v hv
      rw [← exk] at hv
      simp only [List.mem_cons, List.not_mem_nil, or_false] at hv
      rcases hv with rfl | rfl | rfl | rfl | rfl <;> exact ⟨_, rfl⟩
    have sk : Same H21 (upd H21 lk (.lst [V.int 0, V.int v1', V.int ((dv.length : Int) - 1), V.int (dv.length : Int), V.int ((10 : Int) ^ (30 : Int).toNat)])) := same_new (Same.refl H21) hlk
    have ek : (upd H21 lk (.lst [V.int 0, V.int v1', V.int ((dv.length : Int) - 1), V.int (dv.length : Int), V.int ((10 : Int) ^ (30 : Int).toNat)])) lk = some (.lst xk) := by rw [exk]; exact upd_same
    generalize upd H21 lk (.lst [V.int 0, V.int v1', V.int ((dv.length : Int) - 1), V.int (dv.length : Int), V.int ((10 : Int) ^ (30 : Int).toNat)]) = HK at *
    refine for_list (xs := xk) (fun i σ H' => ∃ z z2, σ = [some (.ref a0), some (.ref st), some (.int p), some (.int v1'), some (.int v2), some (.int v3), some (.int (n : Int)), some (.int e), some (.ref qx), some (.ref l), z, some (.ref fz), some (.ref L), some (.ref y), some (.ref kl), some (.ref ld), z2, none, none] ∧ Same HK H') ⟨_, none, rfl, Same.refl _⟩ (fun i σ H' _ h => ?_) ?_ ?_
    · obtain ⟨z, z2, _, s4⟩ := h
      exact SqL.of (s4 _ _ ek)
    · rintro i v σ H22 hi ⟨z, z2, rfl, s22⟩
      obtain ⟨kk, rfl⟩ := allk v (List.mem_of_getElem? hi)
      refine ⟨(by show 2 ≤ sizeLine; decide), fun qn hqn => ?_⟩
      have sn := same_new (o := .tup [.int 0, .int 1]) (Same.refl H22) hqn
      have u22 := (sk.trans s22).trans sn
      have hd22 := u22 _ _ hdv
      refine ⟨fun σ H' => ∃ q2, σ = [some (.ref a0), some (.ref st), some (.int p), some (.int v1'), some (.int v2), some (.int v3), some (.int (n : Int)), some (.int e), some (.ref qx), some (.ref l), some (.int kk), some (.ref fz), some (.ref L), some (.ref y), some (.ref kl), some (.ref ld), some (.ref q2), none, none] ∧ Same HK H' ∧ (0 ≤ kk → PairAt H' q2 (pget (trimP prs) kk)), ?_, ?_⟩
      · refine ⟨_, rfl, _, _, rfl, rfl, _, rfl, ?_⟩
        by_cases c0 : 0 ≤ kk
        · refine itD (by simpa using c0) ⟨_, rfl, ld, dv, rfl, .inl (SqL.of hd22), _, _, rfl, rfl, _, rfl, ?_⟩
          by_cases c1 : kk < (dv.length : Int)
          · have lkk : kk.toNat < dv.length := by omega
            have lkp : kk.toNat < (trimP prs).length := by omega
            obtain ⟨q2, eq, hq2⟩ := rdv.at_ _ _ _ (List.getElem?_eq_getElem lkk) (List.getElem?_eq_getElem lkp)
            refine itD (by simpa using c1) ⟨_, rfl, _, rfl, _, _, _, _, rfl, rfl, SqL.of hd22, at_of (j := kk.toNat) (by omega) (List.getElem?_eq_getElem lkk), ?_⟩
            rw [eq]
            refine ⟨q2, rfl, s22.trans sn, fun _ => ?_⟩
            have eg : pget (trimP prs) kk = (trimP prs)[kk.toNat] := by
              unfold pget
              rw [List.getD_eq_getElem?_getD, List.getElem?_eq_getElem lkp]
              rfl
            rw [eg]
            exact hq2.same u22
          · refine itDn (by simpa using c1) ⟨qn, rfl, s22.trans sn, fun _ => ?_⟩
            have eg : pget (trimP prs) kk = (0, 1) := by
              unfold pget
              rw [List.getD_eq_getElem?_getD, List.getElem?_eq_none (by omega)]
              rfl
            rw [eg]
            exact upd_same
        · exact itDn (by simpa using c0) ⟨_, rfl, iteF ⟨qn, rfl, s22.trans sn, fun h => absurd h c0⟩⟩
      rintro σ H23 ⟨q2, rfl, s23, hp2⟩
      refine ⟨_, rfl, _, _, rfl, rfl, _, rfl, ?_⟩
      by_cases c0 : 0 ≤ kk
      · have pol23 := polD.same (sk.trans s23)
        obtain ⟨dx, fx, ct, yc, PO⟩ := id pol23
        refine itD (by simpa using c0) ⟨_, rfl, _, rfl, y, dx, _, rfl, PO.ob, plf_no _ _ _ (by decide +kernel) (by decide +kernel) (by decide +kernel), _, rfl, y, p, _, .int kk, rfl, pol23, hg, by omega, .int kk, fun hneg => absurd (hneg kk rfl) (by omega), fun k' ek' h0 yv H24 s24 fn => ?_⟩
        cases ek'
        refine ⟨p, yv, _, rfl, hg, fn, fun q H25 s25 hq => ⟨_, rfl, ne_pair hq ((hp2 c0).same (s24.trans s25)) ⟨_, rfl, iteF ⟨_, _, rfl, (s23.trans s24).trans s25⟩⟩⟩⟩
      · exact itDn (by simpa using c0) ⟨_, _, rfl, s23⟩
    rintro σ H22 ⟨zk, zn, rfl, s22⟩
    have u22 := sk.trans s22
    -- what is no count
    refine ⟨_, rfl, _, _, rfl, rfl, ⟨by decide, by decide, by decide⟩, _, rfl, fun r dr nr ndr ne => mk_go (by decide) (fit_up fit_one) nr ndr ne fun t u H23 Lr Rr s23 => ⟨rfl, (by show 6 ≤ sizeLine; decide), fun lw hlw => ⟨lw, rfl, ⟨_, SqL.of upd_same⟩, ?_⟩⟩⟩
    have sw : Same H23 (upd H23 lw (.lst [V.int (-1), V.bl true, V.str "0", V.non, V.int (-((10 : Int) ^ (20 : Int).toNat)), V.ref r])) := same_new (Same.refl H23) hlw
    have ew := upd_same (H := H23) (a := lw) (o := .lst [V.int (-1), V.bl true, V.str "0", V.non, V.int (-((10 : Int) ^ (20 : Int).toNat)), V.ref r])
    have allw : ∀ v ∈ [V.int (-1), V.bl true, V.str "0", V.non, V.int (-((10 : Int) ^ (20 : Int).toNat)), V.ref r], IsTy K H23 v ∧ ∀ k, v = .int k → k < 0 := by
      intro v hv
      simp only [List.mem_cons, List.not_mem_nil, or_false] at hv
      rcases hv with rfl | rfl | rfl | rfl | rfl | rfl
      · exact ⟨.int _, fun k e => by cases e; decide⟩
      · exact ⟨.bl _, fun k e => by cases e⟩
      · exact ⟨.str _, fun k e => by cases e⟩
      · exact ⟨.non, fun k e => by cases e⟩
      · exact ⟨.int _, fun k e => by cases e; decide⟩
      · exact ⟨Rr.isTy T Y, fun k e => by cases e⟩
    have u23 := (u22.trans s23).trans sw
    generalize upd H23 lw (.lst [V.int (-1), V.bl true, V.str "0", V.non, V.int (-((10 : Int) ^ (20 : Int).toNat)), V.ref r]) = HW at *
    refine for_list (xs := [V.int (-1), V.bl true, V.str "0", V.non, V.int (-((10 : Int) ^ (20 : Int).toNat)), V.ref r]) (fun i σ H' => ∃ z, σ = [some (.ref a0), some (.ref st), some (.int p), some (.int v1'), some (.int v2), some (.int v3), some (.int (n : Int)), some (.int e), some (.ref qx), some (.ref l), z, some (.ref fz), some (.ref L), some (.ref y), some (.ref kl), some (.ref ld), zn, none, none] ∧ Same HW H') ⟨_, rfl, Same.refl _⟩ (fun i σ H' _ h => ?_) ?_ ?_
    · obtain ⟨z, _, s4⟩ := h
      exact SqL.of (s4 _ _ ew)
    · rintro i v σ H24 hi ⟨z, rfl, s24⟩
      obtain ⟨tv, nv⟩ := allw v (List.mem_of_getElem? hi)
      refine ⟨_, rfl, _, rfl, y, p, _, v, rfl, polD.same (u23.trans s24), hg, by omega, tv.same (sw.trans s24), nv, fun H25 s25 => ⟨rfl, _, rfl, itDn (by simp) ⟨_, rfl, s24.trans s25⟩⟩⟩
    rintro σ H24 ⟨z4, rfl, s24⟩
    have u24 := u23.trans s24
    -- what is no number
    refine ⟨(by show 1 ≤ sizeLine; decide), fun l1' hl1 => ⟨(by show 0 ≤ sizeLine; decide), fun tp htp => ⟨(by show 6 ≤ sizeLine; decide), fun lx hlx => ⟨lx, rfl, ⟨_, SqL.of upd_same⟩, ?_⟩⟩⟩⟩
    have sA := same_new (o := .lst [V.int 1]) (Same.refl H24) hl1
    have sB := same_new (o := .tup []) (Same.refl _) htp
    have sD := same_new (o := .lst [V.str "1", V.bl true, V.non, V.ref l1', V.ref tp, V.str ""]) (Same.refl _) hlx
    have e1 := (sB.trans sD) _ _ upd_same
    have e2 := sD _ _ upd_same
    have ex := upd_same (H := upd (upd H24 l1' (.lst [V.int 1])) tp (.tup [])) (a := lx) (o := .lst [V.str "1", V.bl true, V.non, V.ref l1', V.ref tp, V.str ""])
    have u25 := u24.trans ((sA.trans sB).trans sD)
    generalize upd (upd (upd H24 l1' (.lst [V.int 1])) tp (.tup [])) lx (.lst [V.str "1", V.bl true, V.non, V.ref l1', V.ref tp, V.str ""]) = HX at *
    have allx : ∀ v ∈ [V.str "1", V.bl true, V.non, V.ref l1', V.ref tp, V.str ""], Giv K C HX p v none := by
      intro v hv
      simp only [List.mem_cons, List.not_mem_nil, or_false] at hv
      rcases hv with rfl | rfl | rfl | rfl | rfl | rfl
      · exact .inl ⟨.type "str", false, .base (.str _), Z.kstr, .str _, rfl⟩
      · exact .inl ⟨.type "bool", false, .base (.bl _), Z3.kbool, .bl _, rfl⟩
      · exact .inl ⟨.type "NoneType", false, .base .non, Z.knon, .non, rfl⟩
      · exact .inl ⟨.type "list", false, .base (.lst e1), Z3.klist, .lst e1, rfl⟩
      · exact .inl ⟨.type "tuple", false, .base (.tup e2), Z3.ktup, .tup e2, rfl⟩
      · exact .inl ⟨.type "str", false, .base (.str _), Z.kstr, .str _, rfl⟩
    refine for_list (xs := [V.str "1", V.bl true, V.non, V.ref l1', V.ref tp, V.str ""]) (fun i σ H' => ∃ z, σ = [some (.ref a0), some (.ref st), some (.int p), some (.int v1'), some (.int v2), some (.int v3), some (.int (n : Int)), some (.int e), some (.ref qx), some (.ref l), z4, some (.ref fz), some (.ref L), some (.ref y), some (.ref kl), some (.ref ld), zn, z, none] ∧ Same HX H') ⟨none, rfl, Same.refl _⟩ (fun i σ H' _ h => ?_) ?_ ?_
    · obtain ⟨z, _, s4⟩ := h
      exact SqL.of (s4 _ _ ex)
    · rintro i v σ H26 hi ⟨z, rfl, s26⟩
      have gx := allx v (List.mem_of_getElem? hi)
      refine ⟨_, rfl, _, rfl, y, p, _, v, 0, rfl, polD.same (u25.trans s26), hg, gx.same s26, fun H27 s27 => ⟨rfl, _, rfl, itDn (by simp) ?_⟩⟩
      refine ⟨_, rfl, _, rfl, y, p, _, v, 1, rfl, polD.same ((u25.trans s26).trans s27), hg, gx.same (s26.trans s27), fun H28 s28 => ⟨rfl, _, rfl, itDn (by simp) ⟨_, rfl, (s26.trans s27).trans s28⟩⟩⟩
    rintro σ H26 ⟨z5, rfl, s26⟩
    have u26 := (t21.trans (u25.trans s26))
    have okt : Sml p (trimP prs) := ⟨by omega, fun p0 a ha => (((ok a (trimP_mem ha)).2.1 p0).2)⟩
    -- the value
    refine ⟨_, rfl, _, rfl, _, rfl, p, qx, v1', xa, rfl, hg, q17.same u26, ox, by omega, by omega, fun pl H27 s27 gp => ?_⟩
    have u27 := u26.trans s27
    refine ⟨_, rfl, _, rfl, _, rfl, p, l, qx, prs, xa, rfl, hg, r17.same u27, q17.same u27, by omega, ok, ox, fun qv H28 s28 hv28 => ?_⟩
    have u28 := u27.trans s28
    rw [← horner_trim hg ox ok] at hv28
    have pol28 := pol17.same u28
    obtain ⟨dx, fx, ct, yc, PO⟩ := id pol28
    refine ⟨_, rfl, _, rfl, y, dx, _, rfl, PO.ob, plf_no _ _ _ (by decide +kernel) (by decide +kernel) (by decide +kernel), _, rfl, y, p, _, pl, some xa, rfl, pol28, hg, gp.same s28, (fun e => by cases e), fun a ea => ?_⟩
    cases ea
    refine ⟨okt, fun p0 => (ox.2.1 p0).2, fun yv H29 s29 fn => ⟨p, yv, _, rfl, hg, fn, fun q H30 s30 hq => ⟨_, rfl, ne_pair hq ((hv28.same s29).same s30) ⟨_, rfl, iteF ?_⟩⟩⟩⟩
    have u30 := (u28.trans s29).trans s30
    have pol30 := pol17.same u30
    obtain ⟨dx, fx, ct, yc, PO⟩ := id pol30
    refine ⟨_, rfl, y, rfl, _, rfl, ⟨dx, _, PO.ob⟩, y, p, _, pl, some xa, rfl, pol30, hg, gp.same ((s28.trans s29).trans s30), (fun e => by cases e), fun a ea => ?_⟩
    cases ea
    refine ⟨okt, fun p0 => (ox.2.1 p0).2, fun yv H31 s31 fn => ⟨p, yv, _, rfl, hg, fn, fun q H32 s32 hq => ⟨_, rfl, ne_pair hq ((((hv28.same s29).same s30).same s31).same s32) ⟨_, rfl, iteF ?_⟩⟩⟩⟩
    have u32 := (u30.trans s31).trans s32
    refine ⟨CP, mc, _, _, rfl, rd, cv, rfl, _, rfl, iteT ?_⟩
    exact ⟨_, rfl, _, rfl, _, rfl, _, rfl, _, rfl, _, rfl, fz, kl, p, _, _, _, ys, prs, rfl, hf17.same u32, hg, u32 _ _ hk17, by omega, gv17.same u32, a50, a51, fun H33 _ => k H33⟩
end
end Sq

namespace Sq
open PySem PySem.Spec PyProof.Rows L2
theorem cls_some {K : PySem.W.Frag} {C : Addr} (h : PySem.W.hasDictIn K C = true) : (PySem.W.clsIn K C).isSome = true := by
  obtain ⟨cd, hc, _⟩ := PySem.W.any_some h
  rw [hc]
  rfl
theorem kit_own {K : PySem.W.Frag} {C : Addr} {t : Value} (h : PySem.W.hasDictIn K C = true) (ht : PySem.W.typeIn K (.ref C) = some (.type "type")) (hs : PySem.W.subIn K t (.ref C) = some true) : PySem.W.kitOne K t (.ref C) = some true := by
  unfold PySem.W.kitOne
  split
  · rfl
  · show (if ((PySem.W.clsIn K C).isSome && PySem.W.typeIn K (.ref C) == some (.type "type")) = true then PySem.W.subIn K t (.ref C) else none) = some true
    rw [cls_some h, ht]
    simpa using hs
theorem kit_tyo {K : PySem.W.Frag} {C : Addr} {T : String} {b : Bool} (h : PySem.W.hasDictIn K C = true) (ht : PySem.W.typeIn K (.ref C) = some (.type "type")) (hs : PySem.W.subIn K (.type T) (.ref C) = some b) : PySem.W.kitOne K (.type T) (.ref C) = some b := by
  unfold PySem.W.kitOne
  rw [if_neg (by simp)]
  show (if ((PySem.W.clsIn K C).isSome && PySem.W.typeIn K (.ref C) == some (.type "type")) = true then PySem.W.subIn K (.type T) (.ref C) else none) = some b
  rw [cls_some h, ht]
  simpa using hs
theorem kit_ty2 {K : PySem.W.Frag} {C : Addr} {T : String} {b : Bool} (hm : PySem.W.kitMeta T = true) (hs : PySem.W.subIn K (.ref C) (.type T) = some b) : PySem.W.kitOne K (.ref C) (.type T) = some b := by
  unfold PySem.W.kitOne
  rw [if_neg (by simp)]
  show (if PySem.W.kitMeta T = true then PySem.W.subIn K (.ref C) (.type T) else none) = some b
  rw [if_pos hm]
  exact hs
theorem ns_ok {K : PySem.W.Frag} {N : Addr} {oc : Value} {od : Option Addr} {es : Array DictEntry} {n : Nat} {sl : Array (Option Value)} (h : K.lookup N = some ⟨oc, od, .dict es n, sl⟩) (e : (es.toList.all fun e => match e.key with | .str _ _ => true | _ => false) = true) : PySem.W.nsOkIn K N = true := by
  unfold PySem.W.nsOkIn
  rw [h]
  rw [Array.all_toList] at e
  exact e
theorem tail0 {K : PySem.W.Frag} : PySem.W.tailIn K [.type "ValueError", .type "Exception", .type "BaseException", .type "object"] [.type "ValueError", .type "Exception", .type "BaseException", .type "object"] = true := by
  unfold PySem.W.tailIn
  simp
theorem tail1 {K : PySem.W.Frag} {C : Addr} {nm q : Str} {N : Addr} {bs bm : List Value} {sn : List Str} {sub : List Value} {ab : Bool} {col : Option Bool} {dd : Option Addr} {k0 k1 k2 k3 k5 : Option Value} {nw : String} (h : K.lookup C = some (excClassObj nm q C N bs bm true sn sub ab col dd k0 k1 k2 k3 k5 nw)) (ok : PySem.W.nsOkIn K N = true) (ni : PySem.W.nsIn K N "__init__" = some none) :
    PySem.W.tailIn K [.type "ValueError", .type "Exception", .type "BaseException", .type "object"] [.ref C, .type "ValueError", .type "Exception", .type "BaseException", .type "object"] = true := by
  unfold PySem.W.tailIn
  dsimp only
  rw [h]
  show (_ || (PySem.W.nsOkIn K N && PySem.W.nsIn K N "__init__" == some none && PySem.W.tailIn K _ _)) = true
  rw [ok, ni, tail0]
  simp
theorem exc_in {K : PySem.W.Frag} {C : Addr} {nm q : Str} {N : Addr} {bs bm bmB : List Value} {sn : List Str} {sub : List Value} {ab : Bool} {col : Option Bool} {dd : Option Addr} {k0 k1 k2 k3 k5 : Option Value} {nw : String} (h : K.lookup C = some (excClassObj nm q C N bs bm true sn sub ab col dd k0 k1 k2 k3 k5 nw)) (ok : PySem.W.nsOkIn K N = true) (ni : PySem.W.nsIn K N "__init__" = some none) (tl : PySem.W.tailIn K bmB bm = true) :
    PySem.W.excIn K C bmB nw = true := by
  unfold PySem.W.excIn
  rw [h]
  show (C == C && nw == nw && !false && PySem.W.tailIn K bmB bm && PySem.W.nsOkIn K N && PySem.W.nsIn K N "__init__" == some none) = true
  rw [tl, ok, ni]
  simp
theorem kit_ownF {K : PySem.W.Frag} {C D : Addr} (h : PySem.W.hasDictIn K C = true) (ht : PySem.W.typeIn K (.ref C) = some (.type "type")) (hs : PySem.W.subIn K (.ref D) (.ref C) = some false) (self : PySem.W.subIn K (.ref C) (.ref C) = some true) : PySem.W.kitOne K (.ref D) (.ref C) = some false := by
  unfold PySem.W.kitOne
  split
  · rename_i c
    have e : (Value.ref D) = .ref C := by simpa using c
    rw [e, self] at hs
    cases hs
  · show (if ((PySem.W.clsIn K C).isSome && PySem.W.typeIn K (.ref C) == some (.type "type")) = true then PySem.W.subIn K (.ref D) (.ref C) else none) = some false
    rw [cls_some h, ht]
    simpa using hs
theorem all_mk {P : Program} {w : World} {K : PySem.W.Frag} {h : Heap} {mg : Str → Option Value} {fa : Addr} (X : K.In h) (G : h.Ns mainGlobals mg) (hfa : mg "law" = some (.ref fa))
    {CS CN fNI NaN fII CR fRI dRI fstate fdraw fgcd flisint fisnum fasr feq fmul fadd fover fisp finv CF fFI dFI ffeq ffnum ffover fseq ftaken frow CP fPI fpcoef fpat fpcall flip flpr fpair fplus ftimes fgiven fpassed fnumber fsmall ftrimmed flread frowt ftold fvalue frefused fcounted flat frefusals fla CRd CNF NaNF CNN NaNN CNC NaNC NaS CPL fPLI NaPL : Addr} {odNI anNI ddN odII anII odRI anRI oe1RI odstate anstate oddraw andraw odgcd angcd odlisint anlisint odisnum anisnum odasr anasr odeq aneq odmul anmul odadd anadd odover anover odisp anisp odinv aninv odFI anFI oe1FI odfeq anfeq odfnum anfnum odfover anfover odseq anseq odtaken antaken odrow anrow odPI anPI odpcoef anpcoef odpat anpat odpcall anpcall odlip anlip odlpr anlpr odpair anpair odplus anplus odtimes antimes odgiven angiven odpassed anpassed odnumber annumber odsmall ansmall odtrimmed antrimmed odlread anlread odrowt anrowt odtold antold odvalue anvalue odrefused anrefused odcounted ancounted odlat anlat odrefusals anrefusals odla anla ddNF ddNN ddNC ddS ndS ndNF ndNN ndNC odPLI anPLI ddPL : Option Addr} {slNI slII slRI skRI slstate sldraw slgcd sllisint slisnum slasr sleq slmul sladd slover slisp slinv slFI skFI slfeq slfnum slfover slseq sltaken slrow slPI slpcoef slpat slpcall sllip sllpr slpair slplus sltimes slgiven slpassed slnumber slsmall sltrimmed sllread slrowt sltold slvalue slrefused slcounted sllat slrefusals slla nsS nsNF nsNN nsNC slPLI : Array (Option Value)} {ocNI kVNI dcNI pmNI cdNI ctNI ocII kVII dcII pmII cdII ctII ocRI kVRI dcRI pmRI cdRI ctRI oeRI ocstate kVstate dcstate pmstate cdstate ctstate ocdraw kVdraw dcdraw pmdraw cddraw ctdraw ocgcd kVgcd dcgcd pmgcd cdgcd ctgcd oclisint kVlisint dclisint pmlisint cdlisint ctlisint ocisnum kVisnum dcisnum pmisnum cdisnum ctisnum ocasr kVasr dcasr pmasr cdasr ctasr oceq kVeq dceq pmeq cdeq cteq ocmul kVmul dcmul pmmul cdmul ctmul ocadd kVadd dcadd pmadd cdadd ctadd ocover kVover dcover pmover cdover ctover ocisp kVisp dcisp pmisp cdisp ctisp ocinv kVinv dcinv pminv cdinv ctinv ocFI kVFI dcFI pmFI cdFI ctFI oeFI ocfeq kVfeq dcfeq pmfeq cdfeq ctfeq ocfnum kVfnum dcfnum pmfnum cdfnum ctfnum ocfover kVfover dcfover pmfover cdfover ctfover ocseq kVseq dcseq pmseq cdseq ctseq octaken kVtaken dctaken pmtaken cdtaken cttaken ocrow kVrow dcrow pmrow cdrow ctrow ocPI kVPI dcPI pmPI cdPI ctPI ocpcoef kVpcoef dcpcoef pmpcoef cdpcoef ctpcoef ocpat kVpat dcpat pmpat cdpat ctpat ocpcall kVpcall dcpcall pmpcall cdpcall ctpcall oclip kVlip dclip pmlip cdlip ctlip oclpr kVlpr dclpr pmlpr cdlpr ctlpr ocpair kVpair dcpair pmpair cdpair ctpair ocplus kVplus dcplus pmplus cdplus ctplus octimes kVtimes dctimes pmtimes cdtimes cttimes ocgiven kVgiven dcgiven pmgiven cdgiven ctgiven ocpassed kVpassed dcpassed pmpassed cdpassed ctpassed ocnumber kVnumber dcnumber pmnumber cdnumber ctnumber ocsmall kVsmall dcsmall pmsmall cdsmall ctsmall octrimmed kVtrimmed dctrimmed pmtrimmed cdtrimmed cttrimmed oclread kVlread dclread pmlread cdlread ctlread ocrowt kVrowt dcrowt pmrowt cdrowt ctrowt octold kVtold dctold pmtold cdtold cttold ocvalue kVvalue dcvalue pmvalue cdvalue ctvalue ocrefused kVrefused dcrefused pmrefused cdrefused ctrefused occounted kVcounted dccounted pmcounted cdcounted ctcounted oclat kVlat dclat pmlat cdlat ctlat ocrefusals kVrefusals dcrefusals pmrefusals cdrefusals ctrefusals ocla kVla dcla pmla cdla ctla ncS ncNF ncNN ncNC ocPLI kVPLI dcPLI pmPLI cdPLI ctPLI : Value} {nRI nFI npS npNF npNN npNC : Nat} {tkRI tkFI tkGP tkMO : Tok} {nmN qN nmNF qNF nmNN qNN nmNC qNC nmS qS nmPL qPL : Str} {bsN subN bsNF subNF bsNN subNN bsNC subNC bsS subS bsPL subPL : List Value} {snN snNF snNN snNC snS snPL : List Str} {abN abNF abNN abNC abS abPL : Bool} {colN colNF colNN colNC colS colPL : Option Bool} {m0N m1N m2N m3N m5N m0NF m1NF m2NF m3NF m5NF m0NN m1NN m2NN m3NN m5NN m0NC m1NC m2NC m3NC m5NC m0S m1S m2S m3S m5S m0PL m1PL m2PL m3PL m5PL : Option Value} {neS neNF neNN neNC : Array DictEntry}
    (aS : PySem.W.nsIn K mainGlobals "SeriesError" = some (some (.ref CS)))
    (x3S : PySem.W.typeIn K (.ref CS) = some (.type "type"))
    (y8S : PySem.W.hasDictIn K CS = true)
    (aN : PySem.W.nsIn K mainGlobals "NoRatio" = some (some (.ref CN)))
    (x3N : PySem.W.typeIn K (.ref CN) = some (.type "type"))
    (y8N : PySem.W.hasDictIn K CN = true)
    (aNI : PySem.W.findIn K (.ref CN) "__init__" = some (some (.ref fNI)))
    (lNI : K.lookup fNI = some ⟨ocNI, odNI, .func (PySem.W.fnOf "__init__" "NoRatio.__init__" (defArgs s_noRatioInit) (defBody s_noRatioInit) (defScope s_noRatioInit) .none kVNI dcNI pmNI anNI cdNI ctNI), slNI⟩)
    (cNI : PySem.W.codeIn K cdNI "NoRatio.__init__" = true)
    (kNI : PySem.W.keepIn K (.ref fNI) = true)
    (iNI : PySem.W.isFn K (.ref fNI) = true)
    (y5 : PySem.W.specialIn K (.builtin "object.__class__") "__get__" = some (some (.builtin "getset_descriptor.__get__")))
    (y6 : PySem.W.takesIn K (.builtin "object.__class__") = some true)
    (xLN : K.lookup CN = some (excClassObj nmN qN CN NaN bsN [.ref CS, .type "ValueError", .type "Exception", .type "BaseException", .type "object"] true snN subN abN colN ddN m0N m1N m2N m3N m5N "ValueError.__new__"))
    (x1N : PySem.W.findIn K (.ref CN) "__setattr__" = some (some (.builtin "object.__setattr__")))
    (x2N : PySem.W.subIn K (.ref CN) (.type "BaseException") = some true)
    (x4N : PySem.W.keepIn K (.ref CN) = true)
    (x5N : PySem.W.findIn K (.ref CN) "word" = some none)
    (x6N : PySem.W.typeIn K (.ref fNI) = some (.type "function"))
    (x7N : PySem.W.subIn K (.ref CN) (.ref CN) = some true)
    (x8N : PySem.W.subIn K (.ref CN) (.ref CS) = some true)
    (x9N : PySem.W.subIn K (.ref CN) (.type "ValueError") = some true)
    (y2N : PySem.W.findIn K (.ref CN) "__getattribute__" = some (some (.builtin "BaseException.__getattribute__")))
    (y3N : PySem.W.findIn K (.ref CN) "__getattr__" = some none)
    (y4N : PySem.W.findIn K (.ref CN) "__class__" = some (some (.builtin "object.__class__")))
    (y7N : PySem.W.mroIn K CN (.type "object") = some true)
    (aII : PySem.W.nsIn K mainGlobals "is_an_integer" = some (some (.ref fII)))
    (lII : K.lookup fII = some ⟨ocII, odII, .func (PySem.W.fnOf "is_an_integer" "is_an_integer" (defArgs s_isint) (defBody s_isint) (defScope s_isint) .none kVII dcII pmII anII cdII ctII), slII⟩)
    (cII : PySem.W.codeIn K cdII "is_an_integer" = true)
    (kII : PySem.W.keepIn K (.ref fII) = true)
    (aR : PySem.W.nsIn K mainGlobals "Ratio" = some (some (.ref CR)))
    (pgR : PySem.W.plainGet K CR Str.empty = true)
    (hdR : PySem.W.hasDictIn K CR = true)
    (poR : PySem.W.plainOver K CR = true)
    (saR : PySem.W.findIn K (.ref CR) "__setattr__" = some (some (.builtin "object.__setattr__")))
    (mkR : PySem.W.makesIn K CR = true)
    (kcR : PySem.W.keepIn K (.ref CR) = true)
    (nR_top : PySem.W.findIn K (.ref CR) "top" = some none)
    (nR_bottom : PySem.W.findIn K (.ref CR) "bottom" = some none)
    (q1R : PySem.W.findIn K (.ref CR) "__class__" = some (some (.builtin "object.__class__")))
    (q2R : PySem.W.mroIn K CR (.type "object") = some true)
    (q3R : PySem.W.typeIn K (.ref CR) = some (.type "type"))
    (aRI : PySem.W.findIn K (.ref CR) "__init__" = some (some (.ref fRI)))
    (lRI : K.lookup fRI = some ⟨ocRI, odRI, .func (PySem.W.fnOf "__init__" "Ratio.__init__" (defArgs s_ratioInit) (defBody s_ratioInit) (defScope s_ratioInit) (.ref dRI) kVRI dcRI pmRI anRI cdRI ctRI), slRI⟩)
    (cRI : PySem.W.codeIn K cdRI "Ratio.__init__" = true)
    (kRI : PySem.W.keepIn K (.ref fRI) = true)
    (iRI : PySem.W.isFn K (.ref fRI) = true)
    (eRI : K.lookup dRI = some ⟨oeRI, oe1RI, .seq #[Value.int 1 tkRI] nRI, skRI⟩)
    (w3 : PySem.W.subIn K (.ref CR) (.type "int") = some false)
    (w4 : PySem.W.subIn K (.ref CR) (.type "bool") = some false)
    (g_gcd : PySem.W.nsIn K mainGlobals "gcd" = some (some (.builtin "math.gcd")))
    (z_len : PySem.W.nsIn K mainGlobals "len" = some none)
    (z_abs : PySem.W.nsIn K mainGlobals "abs" = some none)
    (z_int : PySem.W.nsIn K mainGlobals "int" = some none)
    (z_range : PySem.W.nsIn K mainGlobals "range" = some none)
    (z_isinstance : PySem.W.nsIn K mainGlobals "isinstance" = some none)
    (z_bool : PySem.W.nsIn K mainGlobals "bool" = some none)
    (z_list : PySem.W.nsIn K mainGlobals "list" = some none)
    (z_tuple : PySem.W.nsIn K mainGlobals "tuple" = some none)
    (z_min : PySem.W.nsIn K mainGlobals "min" = some none)
    (z_reversed : PySem.W.nsIn K mainGlobals "reversed" = some none)
    (astate : PySem.W.nsIn K mainGlobals "_law_state" = some (some (.ref fstate)))
    (lstate : K.lookup fstate = some ⟨ocstate, odstate, .func (PySem.W.fnOf "_law_state" "_law_state" (defArgs s_state) (defBody s_state) (defScope s_state) .none kVstate dcstate pmstate anstate cdstate ctstate), slstate⟩)
    (cstate : PySem.W.codeIn K cdstate "_law_state" = true)
    (kstate : PySem.W.keepIn K (.ref fstate) = true)
    (adraw : PySem.W.nsIn K mainGlobals "_law_draw" = some (some (.ref fdraw)))
    (ldraw : K.lookup fdraw = some ⟨ocdraw, oddraw, .func (PySem.W.fnOf "_law_draw" "_law_draw" (defArgs s_draw) (defBody s_draw) (defScope s_draw) .none kVdraw dcdraw pmdraw andraw cddraw ctdraw), sldraw⟩)
    (cdraw : PySem.W.codeIn K cddraw "_law_draw" = true)
    (kdraw : PySem.W.keepIn K (.ref fdraw) = true)
    (agcd : PySem.W.nsIn K mainGlobals "_law_gcd" = some (some (.ref fgcd)))
    (lgcd : K.lookup fgcd = some ⟨ocgcd, odgcd, .func (PySem.W.fnOf "_law_gcd" "_law_gcd" (defArgs s_gcd) (defBody s_gcd) (defScope s_gcd) .none kVgcd dcgcd pmgcd angcd cdgcd ctgcd), slgcd⟩)
    (cgcd : PySem.W.codeIn K cdgcd "_law_gcd" = true)
    (kgcd : PySem.W.keepIn K (.ref fgcd) = true)
    (alisint : PySem.W.nsIn K mainGlobals "_law_is_integer" = some (some (.ref flisint)))
    (llisint : K.lookup flisint = some ⟨oclisint, odlisint, .func (PySem.W.fnOf "_law_is_integer" "_law_is_integer" (defArgs s_lisint) (defBody s_lisint) (defScope s_lisint) .none kVlisint dclisint pmlisint anlisint cdlisint ctlisint), sllisint⟩)
    (clisint : PySem.W.codeIn K cdlisint "_law_is_integer" = true)
    (klisint : PySem.W.keepIn K (.ref flisint) = true)
    (aisnum : PySem.W.nsIn K mainGlobals "is_number" = some (some (.ref fisnum)))
    (lisnum : K.lookup fisnum = some ⟨ocisnum, odisnum, .func (PySem.W.fnOf "is_number" "is_number" (defArgs s_isnum) (defBody s_isnum) (defScope s_isnum) .none kVisnum dcisnum pmisnum anisnum cdisnum ctisnum), slisnum⟩)
    (cisnum : PySem.W.codeIn K cdisnum "is_number" = true)
    (kisnum : PySem.W.keepIn K (.ref fisnum) = true)
    (aasr : PySem.W.nsIn K mainGlobals "as_ratio" = some (some (.ref fasr)))
    (lasr : K.lookup fasr = some ⟨ocasr, odasr, .func (PySem.W.fnOf "as_ratio" "as_ratio" (defArgs s_asratio) (defBody s_asratio) (defScope s_asratio) .none kVasr dcasr pmasr anasr cdasr ctasr), slasr⟩)
    (casr : PySem.W.codeIn K cdasr "as_ratio" = true)
    (kasr : PySem.W.keepIn K (.ref fasr) = true)
    (aeq : PySem.W.findIn K (.ref CR) "__eq__" = some (some (.ref feq)))
    (leq : K.lookup feq = some ⟨oceq, odeq, .func (PySem.W.fnOf "__eq__" "Ratio.__eq__" (defArgs s_req) (defBody s_req) (defScope s_req) .none kVeq dceq pmeq aneq cdeq cteq), sleq⟩)
    (ceq : PySem.W.codeIn K cdeq "Ratio.__eq__" = true)
    (keq : PySem.W.keepIn K (.ref feq) = true)
    (ieq : PySem.W.isFn K (.ref feq) = true)
    (amul : PySem.W.findIn K (.ref CR) "__mul__" = some (some (.ref fmul)))
    (lmul : K.lookup fmul = some ⟨ocmul, odmul, .func (PySem.W.fnOf "__mul__" "Ratio.__mul__" (defArgs s_rmul) (defBody s_rmul) (defScope s_rmul) .none kVmul dcmul pmmul anmul cdmul ctmul), slmul⟩)
    (cmul : PySem.W.codeIn K cdmul "Ratio.__mul__" = true)
    (kmul : PySem.W.keepIn K (.ref fmul) = true)
    (imul : PySem.W.isFn K (.ref fmul) = true)
    (aadd : PySem.W.findIn K (.ref CR) "__add__" = some (some (.ref fadd)))
    (ladd : K.lookup fadd = some ⟨ocadd, odadd, .func (PySem.W.fnOf "__add__" "Ratio.__add__" (defArgs s_radd) (defBody s_radd) (defScope s_radd) .none kVadd dcadd pmadd anadd cdadd ctadd), sladd⟩)
    (cadd : PySem.W.codeIn K cdadd "Ratio.__add__" = true)
    (kadd : PySem.W.keepIn K (.ref fadd) = true)
    (iadd : PySem.W.isFn K (.ref fadd) = true)
    (aover : PySem.W.findIn K (.ref CR) "over" = some (some (.ref fover)))
    (lover : K.lookup fover = some ⟨ocover, odover, .func (PySem.W.fnOf "over" "Ratio.over" (defArgs s_rover) (defBody s_rover) (defScope s_rover) .none kVover dcover pmover anover cdover ctover), slover⟩)
    (cover : PySem.W.codeIn K cdover "Ratio.over" = true)
    (kover : PySem.W.keepIn K (.ref fover) = true)
    (iover : PySem.W.isFn K (.ref fover) = true)
    (aisp : PySem.W.nsIn K mainGlobals "_is_prime" = some (some (.ref fisp)))
    (lisp : K.lookup fisp = some ⟨ocisp, odisp, .func (PySem.W.fnOf "_is_prime" "_is_prime" (defArgs s_isprime) (defBody s_isprime) (defScope s_isprime) .none kVisp dcisp pmisp anisp cdisp ctisp), slisp⟩)
    (cisp : PySem.W.codeIn K cdisp "_is_prime" = true)
    (kisp : PySem.W.keepIn K (.ref fisp) = true)
    (ainv : PySem.W.nsIn K mainGlobals "_inverse" = some (some (.ref finv)))
    (linv : K.lookup finv = some ⟨ocinv, odinv, .func (PySem.W.fnOf "_inverse" "_inverse" (defArgs s_inverse) (defBody s_inverse) (defScope s_inverse) .none kVinv dcinv pminv aninv cdinv ctinv), slinv⟩)
    (cinv : PySem.W.codeIn K cdinv "_inverse" = true)
    (kinv : PySem.W.keepIn K (.ref finv) = true)
    (aF : PySem.W.nsIn K mainGlobals "Field" = some (some (.ref CF)))
    (pgF : PySem.W.plainGet K CF Str.empty = true)
    (hdF : PySem.W.hasDictIn K CF = true)
    (poF : PySem.W.plainOver K CF = true)
    (saF : PySem.W.findIn K (.ref CF) "__setattr__" = some (some (.builtin "object.__setattr__")))
    (mkF : PySem.W.makesIn K CF = true)
    (kcF : PySem.W.keepIn K (.ref CF) = true)
    (nF_prime : PySem.W.findIn K (.ref CF) "prime" = some none)
    (q1F : PySem.W.findIn K (.ref CF) "__class__" = some (some (.builtin "object.__class__")))
    (q2F : PySem.W.mroIn K CF (.type "object") = some true)
    (q3F : PySem.W.typeIn K (.ref CF) = some (.type "type"))
    (aFI : PySem.W.findIn K (.ref CF) "__init__" = some (some (.ref fFI)))
    (lFI : K.lookup fFI = some ⟨ocFI, odFI, .func (PySem.W.fnOf "__init__" "Field.__init__" (defArgs s_finit) (defBody s_finit) (defScope s_finit) (.ref dFI) kVFI dcFI pmFI anFI cdFI ctFI), slFI⟩)
    (cFI : PySem.W.codeIn K cdFI "Field.__init__" = true)
    (kFI : PySem.W.keepIn K (.ref fFI) = true)
    (iFI : PySem.W.isFn K (.ref fFI) = true)
    (eFI : K.lookup dFI = some ⟨oeFI, oe1FI, .seq #[Value.int 0 tkFI] nFI, skFI⟩)
    (afeq : PySem.W.findIn K (.ref CF) "__eq__" = some (some (.ref ffeq)))
    (lfeq : K.lookup ffeq = some ⟨ocfeq, odfeq, .func (PySem.W.fnOf "__eq__" "Field.__eq__" (defArgs s_feq) (defBody s_feq) (defScope s_feq) .none kVfeq dcfeq pmfeq anfeq cdfeq ctfeq), slfeq⟩)
    (cfeq : PySem.W.codeIn K cdfeq "Field.__eq__" = true)
    (kfeq : PySem.W.keepIn K (.ref ffeq) = true)
    (ifeq : PySem.W.isFn K (.ref ffeq) = true)
    (afnum : PySem.W.findIn K (.ref CF) "number" = some (some (.ref ffnum)))
    (lfnum : K.lookup ffnum = some ⟨ocfnum, odfnum, .func (PySem.W.fnOf "number" "Field.number" (defArgs s_fnum) (defBody s_fnum) (defScope s_fnum) .none kVfnum dcfnum pmfnum anfnum cdfnum ctfnum), slfnum⟩)
    (cfnum : PySem.W.codeIn K cdfnum "Field.number" = true)
    (kfnum : PySem.W.keepIn K (.ref ffnum) = true)
    (ifnum : PySem.W.isFn K (.ref ffnum) = true)
    (afover : PySem.W.findIn K (.ref CF) "over" = some (some (.ref ffover)))
    (lfover : K.lookup ffover = some ⟨ocfover, odfover, .func (PySem.W.fnOf "over" "Field.over" (defArgs s_fover) (defBody s_fover) (defScope s_fover) .none kVfover dcfover pmfover anfover cdfover ctfover), slfover⟩)
    (cfover : PySem.W.codeIn K cdfover "Field.over" = true)
    (kfover : PySem.W.keepIn K (.ref ffover) = true)
    (ifover : PySem.W.isFn K (.ref ffover) = true)
    (aseq : PySem.W.nsIn K mainGlobals "is_a_sequence" = some (some (.ref fseq)))
    (lseq : K.lookup fseq = some ⟨ocseq, odseq, .func (PySem.W.fnOf "is_a_sequence" "is_a_sequence" (defArgs s_isseq) (defBody s_isseq) (defScope s_isseq) .none kVseq dcseq pmseq anseq cdseq ctseq), slseq⟩)
    (cseq : PySem.W.codeIn K cdseq "is_a_sequence" = true)
    (kseq : PySem.W.keepIn K (.ref fseq) = true)
    (ataken : PySem.W.nsIn K mainGlobals "taken" = some (some (.ref ftaken)))
    (ltaken : K.lookup ftaken = some ⟨octaken, odtaken, .func (PySem.W.fnOf "taken" "taken" (defArgs s_taken) (defBody s_taken) (defScope s_taken) .none kVtaken dctaken pmtaken antaken cdtaken cttaken), sltaken⟩)
    (ctaken : PySem.W.codeIn K cdtaken "taken" = true)
    (ktaken : PySem.W.keepIn K (.ref ftaken) = true)
    (arow : PySem.W.nsIn K mainGlobals "_row" = some (some (.ref frow)))
    (lrow : K.lookup frow = some ⟨ocrow, odrow, .func (PySem.W.fnOf "_row" "_row" (defArgs s_row) (defBody s_row) (defScope s_row) .none kVrow dcrow pmrow anrow cdrow ctrow), slrow⟩)
    (crow : PySem.W.codeIn K cdrow "_row" = true)
    (krow : PySem.W.keepIn K (.ref frow) = true)
    (aP : PySem.W.nsIn K mainGlobals "Poly" = some (some (.ref CP)))
    (pgP : PySem.W.plainGet K CP Str.empty = true)
    (hdP : PySem.W.hasDictIn K CP = true)
    (poP : PySem.W.plainOver K CP = true)
    (saP : PySem.W.findIn K (.ref CP) "__setattr__" = some (some (.builtin "object.__setattr__")))
    (mkP : PySem.W.makesIn K CP = true)
    (kcP : PySem.W.keepIn K (.ref CP) = true)
    (nP_field : PySem.W.findIn K (.ref CP) "field" = some none)
    (nP_coefficients : PySem.W.findIn K (.ref CP) "coefficients" = some none)
    (nP_degree : PySem.W.findIn K (.ref CP) "degree" = some none)
    (q1P : PySem.W.findIn K (.ref CP) "__class__" = some (some (.builtin "object.__class__")))
    (q2P : PySem.W.mroIn K CP (.type "object") = some true)
    (q3P : PySem.W.typeIn K (.ref CP) = some (.type "type"))
    (aPI : PySem.W.findIn K (.ref CP) "__init__" = some (some (.ref fPI)))
    (lPI : K.lookup fPI = some ⟨ocPI, odPI, .func (PySem.W.fnOf "__init__" "Poly.__init__" (defArgs s_pinit) (defBody s_pinit) (defScope s_pinit) .none kVPI dcPI pmPI anPI cdPI ctPI), slPI⟩)
    (cPI : PySem.W.codeIn K cdPI "Poly.__init__" = true)
    (kPI : PySem.W.keepIn K (.ref fPI) = true)
    (iPI : PySem.W.isFn K (.ref fPI) = true)
    (apcoef : PySem.W.findIn K (.ref CP) "coefficient" = some (some (.ref fpcoef)))
    (lpcoef : K.lookup fpcoef = some ⟨ocpcoef, odpcoef, .func (PySem.W.fnOf "coefficient" "Poly.coefficient" (defArgs s_pcoef) (defBody s_pcoef) (defScope s_pcoef) .none kVpcoef dcpcoef pmpcoef anpcoef cdpcoef ctpcoef), slpcoef⟩)
    (cpcoef : PySem.W.codeIn K cdpcoef "Poly.coefficient" = true)
    (kpcoef : PySem.W.keepIn K (.ref fpcoef) = true)
    (ipcoef : PySem.W.isFn K (.ref fpcoef) = true)
    (apat : PySem.W.findIn K (.ref CP) "at" = some (some (.ref fpat)))
    (lpat : K.lookup fpat = some ⟨ocpat, odpat, .func (PySem.W.fnOf "at" "Poly.at" (defArgs s_pat) (defBody s_pat) (defScope s_pat) .none kVpat dcpat pmpat anpat cdpat ctpat), slpat⟩)
    (cpat : PySem.W.codeIn K cdpat "Poly.at" = true)
    (kpat : PySem.W.keepIn K (.ref fpat) = true)
    (ipat : PySem.W.isFn K (.ref fpat) = true)
    (apcall : PySem.W.findIn K (.ref CP) "__call__" = some (some (.ref fpcall)))
    (lpcall : K.lookup fpcall = some ⟨ocpcall, odpcall, .func (PySem.W.fnOf "__call__" "Poly.__call__" (defArgs s_pcall) (defBody s_pcall) (defScope s_pcall) .none kVpcall dcpcall pmpcall anpcall cdpcall ctpcall), slpcall⟩)
    (cpcall : PySem.W.codeIn K cdpcall "Poly.__call__" = true)
    (kpcall : PySem.W.keepIn K (.ref fpcall) = true)
    (ipcall : PySem.W.isFn K (.ref fpcall) = true)
    (alip : PySem.W.nsIn K mainGlobals "_law_is_prime" = some (some (.ref flip)))
    (llip : K.lookup flip = some ⟨oclip, odlip, .func (PySem.W.fnOf "_law_is_prime" "_law_is_prime" (defArgs s_lip) (defBody s_lip) (defScope s_lip) .none kVlip dclip pmlip anlip cdlip ctlip), sllip⟩)
    (clip : PySem.W.codeIn K cdlip "_law_is_prime" = true)
    (klip : PySem.W.keepIn K (.ref flip) = true)
    (alpr : PySem.W.nsIn K mainGlobals "_law_prime" = some (some (.ref flpr)))
    (llpr : K.lookup flpr = some ⟨oclpr, odlpr, .func (PySem.W.fnOf "_law_prime" "_law_prime" (defArgs s_lpr) (defBody s_lpr) (defScope s_lpr) .none kVlpr dclpr pmlpr anlpr cdlpr ctlpr), sllpr⟩)
    (clpr : PySem.W.codeIn K cdlpr "_law_prime" = true)
    (klpr : PySem.W.keepIn K (.ref flpr) = true)
    (apair : PySem.W.nsIn K mainGlobals "_law_pair" = some (some (.ref fpair)))
    (lpair : K.lookup fpair = some ⟨ocpair, odpair, .func (PySem.W.fnOf "_law_pair" "_law_pair" (defArgs s_pair) (defBody s_pair) (defScope s_pair) .none kVpair dcpair pmpair anpair cdpair ctpair), slpair⟩)
    (cpair : PySem.W.codeIn K cdpair "_law_pair" = true)
    (kpair : PySem.W.keepIn K (.ref fpair) = true)
    (aplus : PySem.W.nsIn K mainGlobals "_law_plus" = some (some (.ref fplus)))
    (lplus : K.lookup fplus = some ⟨ocplus, odplus, .func (PySem.W.fnOf "_law_plus" "_law_plus" (defArgs s_plus) (defBody s_plus) (defScope s_plus) .none kVplus dcplus pmplus anplus cdplus ctplus), slplus⟩)
    (cplus : PySem.W.codeIn K cdplus "_law_plus" = true)
    (kplus : PySem.W.keepIn K (.ref fplus) = true)
    (atimes : PySem.W.nsIn K mainGlobals "_law_times" = some (some (.ref ftimes)))
    (ltimes : K.lookup ftimes = some ⟨octimes, odtimes, .func (PySem.W.fnOf "_law_times" "_law_times" (defArgs s_times) (defBody s_times) (defScope s_times) .none kVtimes dctimes pmtimes antimes cdtimes cttimes), sltimes⟩)
    (ctimes : PySem.W.codeIn K cdtimes "_law_times" = true)
    (ktimes : PySem.W.keepIn K (.ref ftimes) = true)
    (agiven : PySem.W.nsIn K mainGlobals "_law_given" = some (some (.ref fgiven)))
    (lgiven : K.lookup fgiven = some ⟨ocgiven, odgiven, .func (PySem.W.fnOf "_law_given" "_law_given" (defArgs s_given) (defBody s_given) (defScope s_given) .none kVgiven dcgiven pmgiven angiven cdgiven ctgiven), slgiven⟩)
    (cgiven : PySem.W.codeIn K cdgiven "_law_given" = true)
    (kgiven : PySem.W.keepIn K (.ref fgiven) = true)
    (apassed : PySem.W.nsIn K mainGlobals "_law_passed" = some (some (.ref fpassed)))
    (lpassed : K.lookup fpassed = some ⟨ocpassed, odpassed, .func (PySem.W.fnOf "_law_passed" "_law_passed" (defArgs s_passed) (defBody s_passed) (defScope s_passed) .none kVpassed dcpassed pmpassed anpassed cdpassed ctpassed), slpassed⟩)
    (cpassed : PySem.W.codeIn K cdpassed "_law_passed" = true)
    (kpassed : PySem.W.keepIn K (.ref fpassed) = true)
    (anumber : PySem.W.nsIn K mainGlobals "_law_number" = some (some (.ref fnumber)))
    (lnumber : K.lookup fnumber = some ⟨ocnumber, odnumber, .func (PySem.W.fnOf "_law_number" "_law_number" (defArgs s_number) (defBody s_number) (defScope s_number) .none kVnumber dcnumber pmnumber annumber cdnumber ctnumber), slnumber⟩)
    (cnumber : PySem.W.codeIn K cdnumber "_law_number" = true)
    (knumber : PySem.W.keepIn K (.ref fnumber) = true)
    (asmall : PySem.W.nsIn K mainGlobals "_law_small" = some (some (.ref fsmall)))
    (lsmall : K.lookup fsmall = some ⟨ocsmall, odsmall, .func (PySem.W.fnOf "_law_small" "_law_small" (defArgs s_small) (defBody s_small) (defScope s_small) .none kVsmall dcsmall pmsmall ansmall cdsmall ctsmall), slsmall⟩)
    (csmall : PySem.W.codeIn K cdsmall "_law_small" = true)
    (ksmall : PySem.W.keepIn K (.ref fsmall) = true)
    (atrimmed : PySem.W.nsIn K mainGlobals "_law_trimmed" = some (some (.ref ftrimmed)))
    (ltrimmed : K.lookup ftrimmed = some ⟨octrimmed, odtrimmed, .func (PySem.W.fnOf "_law_trimmed" "_law_trimmed" (defArgs s_trimmed) (defBody s_trimmed) (defScope s_trimmed) .none kVtrimmed dctrimmed pmtrimmed antrimmed cdtrimmed cttrimmed), sltrimmed⟩)
    (ctrimmed : PySem.W.codeIn K cdtrimmed "_law_trimmed" = true)
    (ktrimmed : PySem.W.keepIn K (.ref ftrimmed) = true)
    (alread : PySem.W.nsIn K mainGlobals "_law_read" = some (some (.ref flread)))
    (llread : K.lookup flread = some ⟨oclread, odlread, .func (PySem.W.fnOf "_law_read" "_law_read" (defArgs s_lread) (defBody s_lread) (defScope s_lread) .none kVlread dclread pmlread anlread cdlread ctlread), sllread⟩)
    (clread : PySem.W.codeIn K cdlread "_law_read" = true)
    (klread : PySem.W.keepIn K (.ref flread) = true)
    (arowt : PySem.W.nsIn K mainGlobals "_law_row" = some (some (.ref frowt)))
    (lrowt : K.lookup frowt = some ⟨ocrowt, odrowt, .func (PySem.W.fnOf "_law_row" "_law_row" (defArgs s_rowt) (defBody s_rowt) (defScope s_rowt) .none kVrowt dcrowt pmrowt anrowt cdrowt ctrowt), slrowt⟩)
    (crowt : PySem.W.codeIn K cdrowt "_law_row" = true)
    (krowt : PySem.W.keepIn K (.ref frowt) = true)
    (atold : PySem.W.nsIn K mainGlobals "_law_told_poly" = some (some (.ref ftold)))
    (ltold : K.lookup ftold = some ⟨octold, odtold, .func (PySem.W.fnOf "_law_told_poly" "_law_told_poly" (defArgs s_told) (defBody s_told) (defScope s_told) .none kVtold dctold pmtold antold cdtold cttold), sltold⟩)
    (ctold : PySem.W.codeIn K cdtold "_law_told_poly" = true)
    (ktold : PySem.W.keepIn K (.ref ftold) = true)
    (avalue : PySem.W.nsIn K mainGlobals "_law_value" = some (some (.ref fvalue)))
    (lvalue : K.lookup fvalue = some ⟨ocvalue, odvalue, .func (PySem.W.fnOf "_law_value" "_law_value" (defArgs s_value) (defBody s_value) (defScope s_value) .none kVvalue dcvalue pmvalue anvalue cdvalue ctvalue), slvalue⟩)
    (cvalue : PySem.W.codeIn K cdvalue "_law_value" = true)
    (kvalue : PySem.W.keepIn K (.ref fvalue) = true)
    (arefused : PySem.W.nsIn K mainGlobals "_law_refused" = some (some (.ref frefused)))
    (lrefused : K.lookup frefused = some ⟨ocrefused, odrefused, .func (PySem.W.fnOf "_law_refused" "_law_refused" (defArgs s_refused) (defBody s_refused) (defScope s_refused) .none kVrefused dcrefused pmrefused anrefused cdrefused ctrefused), slrefused⟩)
    (crefused : PySem.W.codeIn K cdrefused "_law_refused" = true)
    (krefused : PySem.W.keepIn K (.ref frefused) = true)
    (acounted : PySem.W.nsIn K mainGlobals "_law_counted" = some (some (.ref fcounted)))
    (lcounted : K.lookup fcounted = some ⟨occounted, odcounted, .func (PySem.W.fnOf "_law_counted" "_law_counted" (defArgs s_counted) (defBody s_counted) (defScope s_counted) .none kVcounted dccounted pmcounted ancounted cdcounted ctcounted), slcounted⟩)
    (ccounted : PySem.W.codeIn K cdcounted "_law_counted" = true)
    (kcounted : PySem.W.keepIn K (.ref fcounted) = true)
    (alat : PySem.W.nsIn K mainGlobals "_law_at" = some (some (.ref flat)))
    (llat : K.lookup flat = some ⟨oclat, odlat, .func (PySem.W.fnOf "_law_at" "_law_at" (defArgs s_lat) (defBody s_lat) (defScope s_lat) .none kVlat dclat pmlat anlat cdlat ctlat), sllat⟩)
    (clat : PySem.W.codeIn K cdlat "_law_at" = true)
    (klat : PySem.W.keepIn K (.ref flat) = true)
    (arefusals : PySem.W.nsIn K mainGlobals "_law_refusals" = some (some (.ref frefusals)))
    (lrefusals : K.lookup frefusals = some ⟨ocrefusals, odrefusals, .func (PySem.W.fnOf "_law_refusals" "_law_refusals" (defArgs s_refusals) (defBody s_refusals) (defScope s_refusals) .none kVrefusals dcrefusals pmrefusals anrefusals cdrefusals ctrefusals), slrefusals⟩)
    (crefusals : PySem.W.codeIn K cdrefusals "_law_refusals" = true)
    (krefusals : PySem.W.keepIn K (.ref frefusals) = true)
    (ala : PySem.W.nsIn K mainGlobals "law" = some (some (.ref fla)))
    (lla : K.lookup fla = some ⟨ocla, odla, .func (PySem.W.fnOf "law" "law" (defArgs s_law) (defBody s_law) (defScope s_law) .none kVla dcla pmla anla cdla ctla), slla⟩)
    (cla : PySem.W.codeIn K cdla "law" = true)
    (kla : PySem.W.keepIn K (.ref fla) = true)
    (w_int : PySem.W.subIn K (.type "int") (.ref CR) = some false)
    (w_str : PySem.W.subIn K (.type "str") (.ref CR) = some false)
    (w_NoneType : PySem.W.subIn K (.type "NoneType") (.ref CR) = some false)
    (w_bool : PySem.W.subIn K (.type "bool") (.ref CR) = some false)
    (w_list : PySem.W.subIn K (.type "list") (.ref CR) = some false)
    (w_tuple : PySem.W.subIn K (.type "tuple") (.ref CR) = some false)
    (w_dict : PySem.W.subIn K (.type "dict") (.ref CR) = some false)
    (wF_int : PySem.W.subIn K (.type "int") (.ref CF) = some false)
    (nf_int : PySem.W.notFirst K CR (.type "int") = true)
    (sf0 : PySem.W.selfFirst K CR = true)
    (g_isqrt : PySem.W.nsIn K mainGlobals "isqrt" = some (some (.builtin "math.isqrt")))
    (g_GP : PySem.W.nsIn K mainGlobals "GREATEST_PRIME" = some (some (.int 9973 tkGP)))
    (aRd : PySem.W.nsIn K mainGlobals "Ready" = some (some (.ref CRd)))
    (hdRd : PySem.W.hasDictIn K CRd = true)
    (q3Rd : PySem.W.typeIn K (.ref CRd) = some (.type "type"))
    (wd_int : PySem.W.subIn K (.type "int") (.ref CRd) = some false)
    (wd_str : PySem.W.subIn K (.type "str") (.ref CRd) = some false)
    (wd_NoneType : PySem.W.subIn K (.type "NoneType") (.ref CRd) = some false)
    (wd_bool : PySem.W.subIn K (.type "bool") (.ref CRd) = some false)
    (wd_list : PySem.W.subIn K (.type "list") (.ref CRd) = some false)
    (wd_tuple : PySem.W.subIn K (.type "tuple") (.ref CRd) = some false)
    (wd_dict : PySem.W.subIn K (.type "dict") (.ref CRd) = some false)
    (wd_R : PySem.W.subIn K (.ref CR) (.ref CRd) = some false)
    (wd_self : PySem.W.subIn K (.ref CRd) (.ref CRd) = some true)
    (wR_list : PySem.W.subIn K (.ref CR) (.type "list") = some false)
    (wR_tuple : PySem.W.subIn K (.ref CR) (.type "tuple") = some false)
    (cvP : PySem.W.findCls K (.ref CP) (.type "type") "MOST" = some (.val (.int 100 tkMO)))
    (rdP : PySem.W.readsIn K CP (.type "type") = true)
    (gaP : PySem.W.specialIn K (.ref CP) "__getattribute__" = some (some (.builtin "type.__getattribute__")))
    (fiPc : PySem.W.fnIn K fpcall = true)
    (aNF : PySem.W.nsIn K mainGlobals "NoField" = some (some (.ref CNF)))
    (xLNF : K.lookup CNF = some (excClassObj nmNF qNF CNF NaNF bsNF [.ref CS, .type "ValueError", .type "Exception", .type "BaseException", .type "object"] true snNF subNF abNF colNF ddNF m0NF m1NF m2NF m3NF m5NF "ValueError.__new__"))
    (x3NF : PySem.W.typeIn K (.ref CNF) = some (.type "type"))
    (x4NF : PySem.W.keepIn K (.ref CNF) = true)
    (x2NF : PySem.W.subIn K (.ref CNF) (.type "BaseException") = some true)
    (x7NF : PySem.W.subIn K (.ref CNF) (.ref CNF) = some true)
    (y8NF : PySem.W.hasDictIn K CNF = true)
    (aNN : PySem.W.nsIn K mainGlobals "NoNumber" = some (some (.ref CNN)))
    (xLNN : K.lookup CNN = some (excClassObj nmNN qNN CNN NaNN bsNN [.ref CS, .type "ValueError", .type "Exception", .type "BaseException", .type "object"] true snNN subNN abNN colNN ddNN m0NN m1NN m2NN m3NN m5NN "ValueError.__new__"))
    (x3NN : PySem.W.typeIn K (.ref CNN) = some (.type "type"))
    (x4NN : PySem.W.keepIn K (.ref CNN) = true)
    (x2NN : PySem.W.subIn K (.ref CNN) (.type "BaseException") = some true)
    (x7NN : PySem.W.subIn K (.ref CNN) (.ref CNN) = some true)
    (y8NN : PySem.W.hasDictIn K CNN = true)
    (aNC : PySem.W.nsIn K mainGlobals "NoCount" = some (some (.ref CNC)))
    (xLNC : K.lookup CNC = some (excClassObj nmNC qNC CNC NaNC bsNC [.ref CS, .type "ValueError", .type "Exception", .type "BaseException", .type "object"] true snNC subNC abNC colNC ddNC m0NC m1NC m2NC m3NC m5NC "ValueError.__new__"))
    (x3NC : PySem.W.typeIn K (.ref CNC) = some (.type "type"))
    (x4NC : PySem.W.keepIn K (.ref CNC) = true)
    (x2NC : PySem.W.subIn K (.ref CNC) (.type "BaseException") = some true)
    (x7NC : PySem.W.subIn K (.ref CNC) (.ref CNC) = some true)
    (y8NC : PySem.W.hasDictIn K CNC = true)
    (xLS : K.lookup CS = some (excClassObj nmS qS CS NaS bsS [.type "ValueError", .type "Exception", .type "BaseException", .type "object"] true snS subS abS colS ddS m0S m1S m2S m3S m5S "ValueError.__new__"))
    (n1S : K.lookup NaS = some ⟨ncS, ndS, .dict neS npS, nsS⟩)
    (n2S : (neS.toList.all fun e => match e.key with | .str _ _ => true | _ => false) = true)
    (n3S : PySem.W.nsIn K NaS "__init__" = some none)
    (n1NF : K.lookup NaNF = some ⟨ncNF, ndNF, .dict neNF npNF, nsNF⟩)
    (n2NF : (neNF.toList.all fun e => match e.key with | .str _ _ => true | _ => false) = true)
    (n3NF : PySem.W.nsIn K NaNF "__init__" = some none)
    (n1NN : K.lookup NaNN = some ⟨ncNN, ndNN, .dict neNN npNN, nsNN⟩)
    (n2NN : (neNN.toList.all fun e => match e.key with | .str _ _ => true | _ => false) = true)
    (n3NN : PySem.W.nsIn K NaNN "__init__" = some none)
    (n1NC : K.lookup NaNC = some ⟨ncNC, ndNC, .dict neNC npNC, nsNC⟩)
    (n2NC : (neNC.toList.all fun e => match e.key with | .str _ _ => true | _ => false) = true)
    (n3NC : PySem.W.nsIn K NaNC "__init__" = some none)
    (aPL : PySem.W.nsIn K mainGlobals "NoPoly" = some (some (.ref CPL)))
    (x3PL : PySem.W.typeIn K (.ref CPL) = some (.type "type"))
    (y8PL : PySem.W.hasDictIn K CPL = true)
    (aPLI : PySem.W.findIn K (.ref CPL) "__init__" = some (some (.ref fPLI)))
    (lPLI : K.lookup fPLI = some ⟨ocPLI, odPLI, .func (PySem.W.fnOf "__init__" "NoPoly.__init__" (defArgs s_placeInit) (defBody s_placeInit) (defScope s_placeInit) .none kVPLI dcPLI pmPLI anPLI cdPLI ctPLI), slPLI⟩)
    (cPLI : PySem.W.codeIn K cdPLI "NoPoly.__init__" = true)
    (kPLI : PySem.W.keepIn K (.ref fPLI) = true)
    (iPLI : PySem.W.isFn K (.ref fPLI) = true)
    (xLPL : K.lookup CPL = some (excClassObj nmPL qPL CPL NaPL bsPL [.ref CS, .type "ValueError", .type "Exception", .type "BaseException", .type "object"] true snPL subPL abPL colPL ddPL m0PL m1PL m2PL m3PL m5PL "ValueError.__new__"))
    (x1PL : PySem.W.findIn K (.ref CPL) "__setattr__" = some (some (.builtin "object.__setattr__")))
    (x2PL : PySem.W.subIn K (.ref CPL) (.type "BaseException") = some true)
    (x4PL : PySem.W.keepIn K (.ref CPL) = true)
    (x5PL : PySem.W.findIn K (.ref CPL) "place" = some none)
    (x6PL : PySem.W.typeIn K (.ref fPLI) = some (.type "function"))
    (x7PL : PySem.W.subIn K (.ref CPL) (.ref CPL) = some true)
    (x8PL : PySem.W.subIn K (.ref CPL) (.ref CS) = some true)
    (x9PL : PySem.W.subIn K (.ref CPL) (.type "ValueError") = some true)
    (y2PL : PySem.W.findIn K (.ref CPL) "__getattribute__" = some (some (.builtin "BaseException.__getattribute__")))
    (y3PL : PySem.W.findIn K (.ref CPL) "__getattr__" = some none)
    (y4PL : PySem.W.findIn K (.ref CPL) "__class__" = some (some (.builtin "object.__class__")))
    (y7PL : PySem.W.mroIn K CPL (.type "object") = some true) :
    ∃ fd : FuncData, (∀ (s : Shared) (v : Value), BindsTo s fd ⟨[v], []⟩ [("_law_script", v)]) ∧ ∀ base : Heap, K.In base → base.Ns mainGlobals mg → FnOk P w K mg base CX0 15 fa fd ["_law_script"] (spLaw K) := by
  have e := hfa.symm.trans (PySem.W.mg_of X G ala)
  cases e
  have m_S : mg "SeriesError" = some (.ref CS) := PySem.W.mg_of X G aS
  have m_N : mg "NoRatio" = some (.ref CN) := PySem.W.mg_of X G aN
  have F_NI := fun_mk (st := s_noRatioInit) lNI cNI kNI
  have b_NI := F_NI.binds (ps := ["self", "word"]) fun _ _ _ _ _ _ us hl => match us, hl with | [_, _], _ => rfl
  have NN : NTx K mg CN fNI := ⟨⟨⟨nmN, qN, NaN, bsN, _, snN, subN, abN, colN, ddN, m0N, m1N, m2N, m3N, m5N, xLN, rfl⟩, x1N, x2N, x3N, x4N⟩, x5N, aNI, x6N⟩
  have teN := PySem.W.exm_ref x2N y8N x3N x7N
  have xfN : XfC K CN := ⟨y2N, y3N, x2N, y8N⟩
  have eiN : EIx K CN := ⟨cls_some y8N, y2N, y3N, x2N, y4N, y5, y6, y7N⟩
  have F_II := fun_mk (st := s_isint) lII cII kII
  have b_II := F_II.binds (ps := ["value"]) fun _ _ _ _ _ _ us hl => match us, hl with | [_], _ => rfl
  have m_II : mg "is_an_integer" = some (.ref fII) := PySem.W.mg_of X G aII
  have m_R : mg "Ratio" = some (.ref CR) := PySem.W.mg_of X G aR
  have F_RI : FunD K "__init__" "Ratio.__init__" (defArgs s_ratioInit) (defBody s_ratioInit) (defScope s_ratioInit) [.int 1] [] fRI _ := ⟨⟨_, _, _, _, _, _, _, _, _, _, rfl, lRI, cRI, .inr ⟨by simp, dRI, _, [Value.int 1 tkRI], nRI, rfl, eRI, rfl, .cons ⟨_, rfl⟩ .nil⟩, .inl rfl⟩, kRI⟩
  have T : CTx K CR := ⟨⟨pgR, hdR, poR, saR⟩, nR_top, nR_bottom⟩
  have Y : ITy K CR := ⟨q1R, y5, y6, q2R, kit_ty2 (by decide +kernel) w3, kit_ty2 (by decide +kernel) w4⟩
  have GT : GTx mg CN := ⟨PySem.W.mg_of X G g_gcd, m_N⟩
  obtain ⟨ds0, v0, b_R⟩ := F_RI.binds1 (ps := ["self", "top", "bottom"]) 3 1 (by simp) rfl fun _ _ _ _ _ _ _ us its hl hi => match us, its, hl, hi with | [_, _, _], [_], _, _ => ⟨_, rfl, rfl⟩
  cases v0
  obtain ⟨ds1, v1, b_R1⟩ := F_RI.binds1 (ps := ["self", "top", "bottom"]) 2 0 (by simp) rfl fun _ _ _ _ _ _ _ us its hl hi => match us, its, hl, hi with | [_, _], [_], _, _ => ⟨_, rfl, rfl⟩
  have M : Mk K CR fRI := ⟨mkR, aRI, iRI, kcR⟩
  have z_len := PySem.W.mg_none_of X G z_len
  have z_abs := PySem.W.mg_none_of X G z_abs
  have z_int := PySem.W.mg_none_of X G z_int
  have z_range := PySem.W.mg_none_of X G z_range
  have z_isinstance := PySem.W.mg_none_of X G z_isinstance
  have z_bool := PySem.W.mg_none_of X G z_bool
  have z_list := PySem.W.mg_none_of X G z_list
  have z_tuple := PySem.W.mg_none_of X G z_tuple
  have z_min := PySem.W.mg_none_of X G z_min
  have z_reversed := PySem.W.mg_none_of X G z_reversed
  have D : DTx mg := ⟨z_len, z_abs, z_int, z_range⟩
  have I : ITx mg := ⟨z_isinstance, z_int, z_bool⟩
  have F_state := fun_mk (st := s_state) lstate cstate kstate
  have b_state := F_state.binds (ps := ["_law_script"]) fun _ _ _ _ _ _ us hl => match us, hl with | [_], _ => rfl
  have m_state : mg "_law_state" = some (.ref fstate) := PySem.W.mg_of X G astate
  have F_draw := fun_mk (st := s_draw) ldraw cdraw kdraw
  have b_draw := F_draw.binds (ps := ["_law_state_here", "_law_many"]) fun _ _ _ _ _ _ us hl => match us, hl with | [_, _], _ => rfl
  have m_draw : mg "_law_draw" = some (.ref fdraw) := PySem.W.mg_of X G adraw
  have F_gcd := fun_mk (st := s_gcd) lgcd cgcd kgcd
  have b_gcd := F_gcd.binds (ps := ["_law_one", "_law_other"]) fun _ _ _ _ _ _ us hl => match us, hl with | [_, _], _ => rfl
  have m_gcd : mg "_law_gcd" = some (.ref fgcd) := PySem.W.mg_of X G agcd
  have F_lisint := fun_mk (st := s_lisint) llisint clisint klisint
  have b_lisint := F_lisint.binds (ps := ["_law_told"]) fun _ _ _ _ _ _ us hl => match us, hl with | [_], _ => rfl
  have m_lisint : mg "_law_is_integer" = some (.ref flisint) := PySem.W.mg_of X G alisint
  have F_isnum := fun_mk (st := s_isnum) lisnum cisnum kisnum
  have b_isnum := F_isnum.binds (ps := ["value"]) fun _ _ _ _ _ _ us hl => match us, hl with | [_], _ => rfl
  have m_isnum : mg "is_number" = some (.ref fisnum) := PySem.W.mg_of X G aisnum
  have F_asr := fun_mk (st := s_asratio) lasr casr kasr
  have b_asr := F_asr.binds (ps := ["number"]) fun _ _ _ _ _ _ us hl => match us, hl with | [_], _ => rfl
  have m_asr : mg "as_ratio" = some (.ref fasr) := PySem.W.mg_of X G aasr
  have F_eq := fun_mk (st := s_req) leq ceq keq
  have b_eq := F_eq.binds (ps := ["self", "other"]) fun _ _ _ _ _ _ us hl => match us, hl with | [_, _], _ => rfl
  have F_mul := fun_mk (st := s_rmul) lmul cmul kmul
  have b_mul := F_mul.binds (ps := ["self", "other"]) fun _ _ _ _ _ _ us hl => match us, hl with | [_, _], _ => rfl
  have F_add := fun_mk (st := s_radd) ladd cadd kadd
  have b_add := F_add.binds (ps := ["self", "other"]) fun _ _ _ _ _ _ us hl => match us, hl with | [_, _], _ => rfl
  have F_over := fun_mk (st := s_rover) lover cover kover
  have b_over := F_over.binds (ps := ["self", "other"]) fun _ _ _ _ _ _ us hl => match us, hl with | [_, _], _ => rfl
  have F_isp := fun_mk (st := s_isprime) lisp cisp kisp
  have b_isp := F_isp.binds (ps := ["count"]) fun _ _ _ _ _ _ us hl => match us, hl with | [_], _ => rfl
  have m_isp : mg "_is_prime" = some (.ref fisp) := PySem.W.mg_of X G aisp
  have F_inv := fun_mk (st := s_inverse) linv cinv kinv
  have b_inv := F_inv.binds (ps := ["number", "prime"]) fun _ _ _ _ _ _ us hl => match us, hl with | [_, _], _ => rfl
  have m_inv : mg "_inverse" = some (.ref finv) := PySem.W.mg_of X G ainv
  have m_F : mg "Field" = some (.ref CF) := PySem.W.mg_of X G aF
  have F_FI : FunD K "__init__" "Field.__init__" (defArgs s_finit) (defBody s_finit) (defScope s_finit) [.int 0] [] fFI _ := ⟨⟨_, _, _, _, _, _, _, _, _, _, rfl, lFI, cFI, .inr ⟨by simp, dFI, _, [Value.int 0 tkFI], nFI, rfl, eFI, rfl, .cons ⟨_, rfl⟩ .nil⟩, .inl rfl⟩, kFI⟩
  have F_feq := fun_mk (st := s_feq) lfeq cfeq kfeq
  have b_feq := F_feq.binds (ps := ["self", "other"]) fun _ _ _ _ _ _ us hl => match us, hl with | [_, _], _ => rfl
  have F_fnum := fun_mk (st := s_fnum) lfnum cfnum kfnum
  have b_fnum := F_fnum.binds (ps := ["self", "value"]) fun _ _ _ _ _ _ us hl => match us, hl with | [_, _], _ => rfl
  have F_fover := fun_mk (st := s_fover) lfover cfover kfover
  have b_fover := F_fover.binds (ps := ["self", "one", "other"]) fun _ _ _ _ _ _ us hl => match us, hl with | [_, _, _], _ => rfl
  have F_seq := fun_mk (st := s_isseq) lseq cseq kseq
  have b_seq := F_seq.binds (ps := ["value"]) fun _ _ _ _ _ _ us hl => match us, hl with | [_], _ => rfl
  have m_seq : mg "is_a_sequence" = some (.ref fseq) := PySem.W.mg_of X G aseq
  have F_taken := fun_mk (st := s_taken) ltaken ctaken ktaken
  have b_taken := F_taken.binds (ps := ["field", "values"]) fun _ _ _ _ _ _ us hl => match us, hl with | [_, _], _ => rfl
  have m_taken : mg "taken" = some (.ref ftaken) := PySem.W.mg_of X G ataken
  have F_row := fun_mk (st := s_row) lrow crow krow
  have b_row := F_row.binds (ps := ["field", "coefficients"]) fun _ _ _ _ _ _ us hl => match us, hl with | [_, _], _ => rfl
  have m_row : mg "_row" = some (.ref frow) := PySem.W.mg_of X G arow
  have m_P : mg "Poly" = some (.ref CP) := PySem.W.mg_of X G aP
  have F_PI := fun_mk (st := s_pinit) lPI cPI kPI
  have b_PI := F_PI.binds (ps := ["self", "field", "coefficients"]) fun _ _ _ _ _ _ us hl => match us, hl with | [_, _, _], _ => rfl
  have F_pcoef := fun_mk (st := s_pcoef) lpcoef cpcoef kpcoef
  have b_pcoef := F_pcoef.binds (ps := ["self", "k"]) fun _ _ _ _ _ _ us hl => match us, hl with | [_, _], _ => rfl
  have F_pat := fun_mk (st := s_pat) lpat cpat kpat
  have b_pat := F_pat.binds (ps := ["self", "x"]) fun _ _ _ _ _ _ us hl => match us, hl with | [_, _], _ => rfl
  have F_pcall := fun_mk (st := s_pcall) lpcall cpcall kpcall
  have b_pcall := F_pcall.binds (ps := ["self", "x"]) fun _ _ _ _ _ _ us hl => match us, hl with | [_, _], _ => rfl
  have F_lip := fun_mk (st := s_lip) llip clip klip
  have b_lip := F_lip.binds (ps := ["_law_value_here"]) fun _ _ _ _ _ _ us hl => match us, hl with | [_], _ => rfl
  have m_lip : mg "_law_is_prime" = some (.ref flip) := PySem.W.mg_of X G alip
  have F_lpr := fun_mk (st := s_lpr) llpr clpr klpr
  have b_lpr := F_lpr.binds (ps := ["_law_state_here"]) fun _ _ _ _ _ _ us hl => match us, hl with | [_], _ => rfl
  have m_lpr : mg "_law_prime" = some (.ref flpr) := PySem.W.mg_of X G alpr
  have F_pair := fun_mk (st := s_pair) lpair cpair kpair
  have b_pair := F_pair.binds (ps := ["_law_prime_here", "_law_top", "_law_bottom"]) fun _ _ _ _ _ _ us hl => match us, hl with | [_, _, _], _ => rfl
  have m_pair : mg "_law_pair" = some (.ref fpair) := PySem.W.mg_of X G apair
  have F_plus := fun_mk (st := s_plus) lplus cplus kplus
  have b_plus := F_plus.binds (ps := ["_law_prime_here", "_law_one", "_law_other"]) fun _ _ _ _ _ _ us hl => match us, hl with | [_, _, _], _ => rfl
  have m_plus : mg "_law_plus" = some (.ref fplus) := PySem.W.mg_of X G aplus
  have F_times := fun_mk (st := s_times) ltimes ctimes ktimes
  have b_times := F_times.binds (ps := ["_law_prime_here", "_law_one", "_law_other"]) fun _ _ _ _ _ _ us hl => match us, hl with | [_, _, _], _ => rfl
  have m_times : mg "_law_times" = some (.ref ftimes) := PySem.W.mg_of X G atimes
  have F_given := fun_mk (st := s_given) lgiven cgiven kgiven
  have b_given := F_given.binds (ps := ["_law_pair_here"]) fun _ _ _ _ _ _ us hl => match us, hl with | [_], _ => rfl
  have m_given : mg "_law_given" = some (.ref fgiven) := PySem.W.mg_of X G agiven
  have F_passed := fun_mk (st := s_passed) lpassed cpassed kpassed
  have b_passed := F_passed.binds (ps := ["_law_prime_here", "_law_pair_here", "_law_k"]) fun _ _ _ _ _ _ us hl => match us, hl with | [_, _, _], _ => rfl
  have m_passed : mg "_law_passed" = some (.ref fpassed) := PySem.W.mg_of X G apassed
  have F_number := fun_mk (st := s_number) lnumber cnumber knumber
  have b_number := F_number.binds (ps := ["_law_state_here", "_law_prime_here"]) fun _ _ _ _ _ _ us hl => match us, hl with | [_, _], _ => rfl
  have m_number : mg "_law_number" = some (.ref fnumber) := PySem.W.mg_of X G anumber
  have F_small := fun_mk (st := s_small) lsmall csmall ksmall
  have b_small := F_small.binds (ps := ["_law_state_here", "_law_prime_here", "_law_size"]) fun _ _ _ _ _ _ us hl => match us, hl with | [_, _, _], _ => rfl
  have m_small : mg "_law_small" = some (.ref fsmall) := PySem.W.mg_of X G asmall
  have F_trimmed := fun_mk (st := s_trimmed) ltrimmed ctrimmed ktrimmed
  have b_trimmed := F_trimmed.binds (ps := ["_law_row_here"]) fun _ _ _ _ _ _ us hl => match us, hl with | [_], _ => rfl
  have m_trimmed : mg "_law_trimmed" = some (.ref ftrimmed) := PySem.W.mg_of X G atrimmed
  have F_lread := fun_mk (st := s_lread) llread clread klread
  have b_lread := F_lread.binds (ps := ["_law_prime_here", "_law_told"]) fun _ _ _ _ _ _ us hl => match us, hl with | [_, _], _ => rfl
  have m_lread : mg "_law_read" = some (.ref flread) := PySem.W.mg_of X G alread
  have F_rowt := fun_mk (st := s_rowt) lrowt crowt krowt
  have b_rowt := F_rowt.binds (ps := ["_law_prime_here", "_law_told"]) fun _ _ _ _ _ _ us hl => match us, hl with | [_, _], _ => rfl
  have m_rowt : mg "_law_row" = some (.ref frowt) := PySem.W.mg_of X G arowt
  have F_told := fun_mk (st := s_told) ltold ctold ktold
  have b_told := F_told.binds (ps := ["_law_prime_here", "_law_told"]) fun _ _ _ _ _ _ us hl => match us, hl with | [_, _], _ => rfl
  have m_told : mg "_law_told_poly" = some (.ref ftold) := PySem.W.mg_of X G atold
  have F_value := fun_mk (st := s_value) lvalue cvalue kvalue
  have b_value := F_value.binds (ps := ["_law_prime_here", "_law_row_here", "_law_x"]) fun _ _ _ _ _ _ us hl => match us, hl with | [_, _, _], _ => rfl
  have m_value : mg "_law_value" = some (.ref fvalue) := PySem.W.mg_of X G avalue
  have F_refused := fun_mk (st := s_refused) lrefused crefused krefused
  have b_refused := F_refused.binds (ps := ["_law_field", "_law_row_here"]) fun _ _ _ _ _ _ us hl => match us, hl with | [_, _], _ => rfl
  have m_refused : mg "_law_refused" = some (.ref frefused) := PySem.W.mg_of X G arefused
  have F_counted := fun_mk (st := s_counted) lcounted ccounted kcounted
  have b_counted := F_counted.binds (ps := ["_law_poly", "_law_k"]) fun _ _ _ _ _ _ us hl => match us, hl with | [_, _], _ => rfl
  have m_counted : mg "_law_counted" = some (.ref fcounted) := PySem.W.mg_of X G acounted
  have F_lat := fun_mk (st := s_lat) llat clat klat
  have b_lat := F_lat.binds (ps := ["_law_poly", "_law_x", "_law_way"]) fun _ _ _ _ _ _ us hl => match us, hl with | [_, _, _], _ => rfl
  have m_lat : mg "_law_at" = some (.ref flat) := PySem.W.mg_of X G alat
  have F_refusals := fun_mk (st := s_refusals) lrefusals crefusals krefusals
  have b_refusals := F_refusals.binds (ps := ["_law_field", "_law_prime_here", "_law_given_here", "_law_first", "_law_second", "_law_odd"]) fun _ _ _ _ _ _ us hl => match us, hl with | [_, _, _, _, _, _], _ => rfl
  have m_refusals : mg "_law_refusals" = some (.ref frefusals) := PySem.W.mg_of X G arefusals
  have F_la := fun_mk (st := s_law) lla cla kla
  have b_la := F_la.binds (ps := ["_law_script"]) fun _ _ _ _ _ _ us hl => match us, hl with | [_], _ => rfl
  have m_Rd : mg "Ready" = some (.ref CRd) := PySem.W.mg_of X G aRd
  have m_NF : mg "NoField" = some (.ref CNF) := PySem.W.mg_of X G aNF
  have m_NN : mg "NoNumber" = some (.ref CNN) := PySem.W.mg_of X G aNN
  have m_NC : mg "NoCount" = some (.ref CNC) := PySem.W.mg_of X G aNC
  have RNNF : RNx K mg "NoField" CNF := ⟨exc_in xLNF (ns_ok n1NF n2NF) n3NF (tail1 xLS (ns_ok n1S n2S) n3S), m_NF, x4NF, x2NF, x3NF⟩
  have teNF := PySem.W.exm_ref x2NF y8NF x3NF x7NF
  have RNNN : RNx K mg "NoNumber" CNN := ⟨exc_in xLNN (ns_ok n1NN n2NN) n3NN (tail1 xLS (ns_ok n1S n2S) n3S), m_NN, x4NN, x2NN, x3NN⟩
  have teNN := PySem.W.exm_ref x2NN y8NN x3NN x7NN
  have RNNC : RNx K mg "NoCount" CNC := ⟨exc_in xLNC (ns_ok n1NC n2NC) n3NC (tail1 xLS (ns_ok n1S n2S) n3S), m_NC, x4NC, x2NC, x3NC⟩
  have teNC := PySem.W.exm_ref x2NC y8NC x3NC x7NC
  have m_PL : mg "NoPoly" = some (.ref CPL) := PySem.W.mg_of X G aPL
  have F_PLI := fun_mk (st := s_placeInit) lPLI cPLI kPLI
  have b_PLI := F_PLI.binds (ps := ["self", "place"]) fun _ _ _ _ _ _ us hl => match us, hl with | [_, _], _ => rfl
  have NPL : NTxF K "place" CPL fPLI := ⟨⟨⟨nmPL, qPL, NaPL, bsPL, _, snPL, subPL, abPL, colPL, ddPL, m0PL, m1PL, m2PL, m3PL, m5PL, xLPL, rfl⟩, x1PL, x2PL, x3PL, x4PL⟩, x5PL, aPLI, x6PL⟩
  have tePL := PySem.W.exm_ref x2PL y8PL x3PL x7PL
  have xfPL : XfC K CPL := ⟨y2PL, y3PL, x2PL, y8PL⟩
  have eiPL : EIx K CPL := ⟨cls_some y8PL, y2PL, y3PL, x2PL, y4PL, y5, y6, y7PL⟩
  have Z : KZx K CR := ⟨kit_tyo hdR q3R w_int, kit_tyo hdR q3R w_str, kit_tyo hdR q3R w_NoneType⟩
  have Z3 : KZ3 K CR := ⟨kit_tyo hdR q3R w_bool, kit_tyo hdR q3R w_list, kit_tyo hdR q3R w_tuple, kit_tyo hdR q3R w_dict⟩
  have KR : KRd K CR CRd := ⟨kit_tyo hdRd q3Rd wd_int, kit_tyo hdRd q3Rd wd_str, kit_tyo hdRd q3Rd wd_NoneType, kit_tyo hdRd q3Rd wd_bool, kit_tyo hdRd q3Rd wd_list, kit_tyo hdRd q3Rd wd_tuple, kit_tyo hdRd q3Rd wd_dict, kit_ownF hdRd q3Rd wd_R wd_self, kit_ty2 (by decide +kernel) wR_list, kit_ty2 (by decide +kernel) wR_tuple⟩
  have d_mul : PySem.dunder Operator.Mult.info.2 = ("__mul__" : Str) := by decide +kernel
  have O_mul : OwnOp K CR fmul (PySem.dunder Operator.Mult.info.2) := ⟨by rw [d_mul]; exact amul, imul⟩
  have d_add : PySem.dunder Operator.Add.info.2 = ("__add__" : Str) := by decide +kernel
  have O_add : OwnOp K CR fadd (PySem.dunder Operator.Add.info.2) := ⟨by rw [d_add]; exact aadd, iadd⟩
  have TF : FTx K CF := ⟨⟨pgF, hdF, poF, saF⟩, nF_prime⟩
  have YF : IFy K CF := ⟨q1F, y5, y6, q2F, kit_tyo hdF q3F wF_int⟩
  have MF : Mk K CF fFI := ⟨mkF, aFI, iFI, kcF⟩
  have TP : PTx K CP := ⟨⟨pgP, hdP, poP, saP⟩, nP_field, nP_coefficients, nP_degree⟩
  have YP : IPy K CP := ⟨q1P, y5, y6, q2P⟩
  have MP : Mk K CP fPI := ⟨mkP, aPI, iPI, kcP⟩
  have rdc : ClX.CRead K CP (.type "type") := ⟨rdP, gaP⟩
  have cvc : ClX.CVal K CP (.type "type") "MOST" (.int 100) (.int 100 tkMO) := ⟨cvP, ⟨_, rfl⟩⟩
  have IC : ICall K CP fpcall := ⟨apcall, ipcall, fiPc⟩
  have RT : RTx mg := ⟨PySem.W.mg_of X G g_isqrt, z_range⟩
  have BQ : QTx mg := ⟨z_isinstance, z_list, z_tuple, z_len⟩
  have GP : mg "GREATEST_PRIME" = some (.int 9973 tkGP) := PySem.W.mg_of X G g_GP
  obtain ⟨ds2, v2, b_F⟩ := F_FI.binds1 (ps := ["self", "prime"]) 2 1 (by simp) rfl fun _ _ _ _ _ _ _ us its hl hi => match us, its, hl, hi with | [_, _], [_], _, _ => ⟨_, rfl, rfl⟩
  cases v2
  have nfFF : PySem.W.notFirst K CF (.ref CF) = true := by simp [PySem.W.notFirst]
  refine ⟨PySem.W.fnOf "law" "law" (defArgs s_law) (defBody s_law) (defScope s_law) .none kVla dcla pmla anla cdla ctla, fun s v => .of_eq rfl, fun base _ _ => ?_⟩
  have G_NI := ok_noRatioInit (P := P) (w := w) (mg := mg) (base := base) F_NI NN
  have G_II := ok_isint (P := P) (w := w) (mg := mg) (base := base) F_II I
  have G_R := ok_ratioInit (P := P) (w := w) (mg := mg) (base := base) F_RI T NN GT G_NI b_NI G_II m_II kII b_II
  have G_draw := ok_drawA  (P := P) (w := w) (mg := mg) (base := base) F_draw D
  have G_drawS := ok_draw (P := P) (w := w) (mg := mg) (base := base) F_draw D
  have G_state := ok_state  (P := P) (w := w) (mg := mg) (base := base) F_state D
  have G_gcd := ok_gcd  (P := P) (w := w) (mg := mg) (base := base) F_gcd D
  have G_lisint := ok_lisint  (P := P) (w := w) (mg := mg) (base := base) F_lisint I
  have G_isnum := ok_isnum  (P := P) (w := w) (mg := mg) (base := base) F_isnum I m_R G_II m_II kII b_II
  have G_asr := ok_asratio (P := P) (w := w) (mg := mg) (base := base) F_asr T Y Z I m_R M G_R b_R1 v1
  have G_add := ok_radd  (P := P) (w := w) (mg := mg) (base := base) F_add T Y Z m_R M G_R b_R G_isnum m_isnum kisnum b_isnum G_asr m_asr kasr b_asr
  have G_mul := ok_rmul  (P := P) (w := w) (mg := mg) (base := base) F_mul T Y Z m_R M G_R b_R G_isnum m_isnum kisnum b_isnum G_asr m_asr kasr b_asr
  have G_over := ok_rover  (P := P) (w := w) (mg := mg) (base := base) F_over T Y Z m_R M G_R b_R G_asr m_asr kasr b_asr
  have G_eq := ok_req  (P := P) (w := w) (mg := mg) (base := base) F_eq T Y Z I m_R G_II m_II kII b_II
  have G_isp := ok_isprime  (P := P) (w := w) (mg := mg) (base := base) F_isp RT
  have G_inv := ok_inverse  (P := P) (w := w) (mg := mg) (base := base) F_inv
  have G_F := ok_finit (P := P) (w := w) (mg := mg) (base := base) F_FI TF RNNF GP G_II m_II kII b_II G_isp m_isp kisp b_isp
  have G_feq := ok_feq  (P := P) (w := w) (mg := mg) (base := base) F_feq TF YF I m_F
  have G_numI := ok_numI (P := P) (w := w) (mg := mg) (base := base) F_fnum T TF Z I m_R RNNN G_isnum m_isnum kisnum b_isnum G_asr m_asr kasr b_asr
  have G_overI := ok_overI (P := P) (w := w) (mg := mg) (base := base) F_fover TF RNNN ⟨afnum, ifnum, kfnum⟩ G_numI b_fnum G_inv m_inv kinv b_inv
  have G_fnum := ok_num (P := P) (w := w) (mg := mg) (base := base) F_fnum T TF Y Z I m_R RNNN G_isnum m_isnum kisnum b_isnum G_asr m_asr kasr b_asr ⟨afover, ifover, kfover⟩ G_overI b_fover
  have G_lip := ok_lip (P := P) (w := w) (mg := mg) (base := base) F_lip D
  have G_lpr := ok_lpr (P := P) (w := w) (mg := mg) (base := base) F_lpr D G_drawS m_draw kdraw b_draw G_lip m_lip klip b_lip
  have G_PLI := ok_placeInit  (P := P) (w := w) (mg := mg) (base := base) F_PLI NPL
  have G_seq := ok_isseq  (P := P) (w := w) (mg := mg) (base := base) F_seq BQ
  have G_taken := ok_taken  (P := P) (w := w) (mg := mg) (base := base) F_taken TF m_NN teNN (⟨afnum, ifnum, kfnum⟩) G_fnum b_fnum
  have G_row := ok_row  (P := P) (w := w) (mg := mg) (base := base) F_row BQ m_Rd m_P m_PL NPL G_PLI b_PLI rdc cvc G_seq m_seq kseq b_seq G_taken m_taken ktaken b_taken
  have G_PI := ok_pinit  (P := P) (w := w) (mg := mg) (base := base) F_PI BQ TP ⟨aeq, ieq⟩ nf_int G_eq b_eq G_row m_row krow b_row
  have G_pcoef := ok_pcoef  (P := P) (w := w) (mg := mg) (base := base) F_pcoef TF TP RNNC (⟨afnum, ifnum, kfnum⟩) G_fnum b_fnum G_II m_II kII b_II
  have G_pat := ok_pat  (P := P) (w := w) (mg := mg) (base := base) F_pat TF TP z_reversed (⟨afnum, ifnum, kfnum⟩) G_fnum b_fnum sf0 O_mul G_mul b_mul O_add G_add b_add
  have G_pcall := ok_pcall  (P := P) (w := w) (mg := mg) (base := base) F_pcall TP (⟨apat, ipat, kpat⟩) G_pat b_pat
  have G_pair := ok_pair  (P := P) (w := w) (mg := mg) (base := base) F_pair D G_gcd m_gcd kgcd b_gcd
  have G_plus := ok_plus  (P := P) (w := w) (mg := mg) (base := base) F_plus G_pair m_pair kpair b_pair
  have G_times := ok_times  (P := P) (w := w) (mg := mg) (base := base) F_times G_pair m_pair kpair b_pair
  have G_given := ok_given  (P := P) (w := w) (mg := mg) (base := base) F_given m_R M G_R b_R
  have G_passed := ok_passed  (P := P) (w := w) (mg := mg) (base := base) F_passed D m_R M G_R b_R G_given m_given kgiven b_given
  have G_number := ok_number  (P := P) (w := w) (mg := mg) (base := base) F_number G_draw m_draw kdraw b_draw G_pair m_pair kpair b_pair
  have G_small := ok_small  (P := P) (w := w) (mg := mg) (base := base) F_small D G_number m_number knumber b_number
  have G_trimmed := ok_trimmed  (P := P) (w := w) (mg := mg) (base := base) F_trimmed D
  have G_lread := ok_lread  (P := P) (w := w) (mg := mg) (base := base) F_lread T Y I m_R G_lisint m_lisint klisint b_lisint G_gcd m_gcd kgcd b_gcd
  have G_rowt := ok_rowt  (P := P) (w := w) (mg := mg) (base := base) F_rowt I BQ G_lread m_lread klread b_lread
  have G_told := ok_told  (P := P) (w := w) (mg := mg) (base := base) F_told TP YP TF YF I D m_P m_F MF G_F b_F ⟨afeq, ifeq⟩ nfFF G_feq b_feq G_rowt m_rowt krowt b_rowt G_trimmed m_trimmed ktrimmed b_trimmed G_lisint m_lisint klisint b_lisint
  have G_value := ok_value  (P := P) (w := w) (mg := mg) (base := base) F_value D G_plus m_plus kplus b_plus G_times m_times ktimes b_times
  have G_refused := ok_refused  (P := P) (w := w) (mg := mg) (base := base) F_refused m_P m_PL NPL tePL xfPL MP G_PI b_PI
  have G_counted := ok_counted  (P := P) (w := w) (mg := mg) (base := base) F_counted TP m_NC teNC (⟨apcoef, ipcoef, kpcoef⟩) G_pcoef b_pcoef
  have G_lat := ok_lat  (P := P) (w := w) (mg := mg) (base := base) F_lat TP m_NN teNN (⟨apat, ipat, kpat⟩) G_pat b_pat IC G_pcall b_pcall
  have G_refusals := ok_refusals  (P := P) (w := w) (mg := mg) (base := base) F_refusals D BQ z_min T Y Z Z3 KR m_R M G_R b_R G_refused m_refused krefused b_refused
  exact ok_law F_la D BQ z_min T Y Z Z3 KR TP m_R m_F m_P M MF MP rdc cvc G_R b_R1 v1 G_F b_F G_PI b_PI (⟨apcoef, ipcoef, kpcoef⟩) G_pcoef b_pcoef (⟨apat, ipat, kpat⟩) G_pat b_pat IC G_pcall b_pcall G_state m_state kstate b_state G_draw m_draw kdraw b_draw G_lpr m_lpr klpr b_lpr G_number m_number knumber b_number G_small m_small ksmall b_small G_passed m_passed kpassed b_passed G_trimmed m_trimmed ktrimmed b_trimmed G_told m_told ktold b_told G_lread m_lread klread b_lread G_counted m_counted kcounted b_counted G_lat m_lat klat b_lat G_value m_value kvalue b_value G_refusals m_refusals krefusals b_refusals
theorem walk {l : PySem.W.OpenLaw} {q : Program} {loose : List Str} {XP : (Str → Option Value) → Heap → Prop} {YP : World → Heap → Prop} {d : DefRec} {K : Params → PySem.W.Frag} (hn : l.most = some 63) (hdf : d.params.defaults = [])
    (hY : ∀ (w : World) (h : Heap), YP w h → (K w.params).In h)
    (F : ∀ (w : World) (mg : Str → Option Value) (fa : Addr) (h : Heap), (K w.params).In h → h.Ns mainGlobals mg → mg d.name = some (.ref fa) →
      ∃ fd : FuncData, (∀ (s : Shared) (u : Value), BindsTo s fd ⟨[u], []⟩ [("_law_script", u)]) ∧ ∀ base : Heap, (K w.params).In base → base.Ns mainGlobals mg → FnOk l.prog w (K w.params) mg base CX0 15 fa fd ["_law_script"] (spLaw (K w.params))) :
    PySem.W.WalkO q loose XP YP l.row.toRowW d [] (fun f vs => PySem.call f vs) :=
  L2.walk_of (n := 63) (k := 15) (x := "_law_script") (CX := fun _ => CX0) (sp := fun w => spLaw (K w.params)) hn (by decide) hdf ⟨rfl, by decide, by decide⟩ hY F (fun _ _ a ns hl _ hS => ⟨a, ns, rfl, hS, hl, fun _ => rfl⟩) fun _ _ _ _ _ z => z
end Sq

open PySem PySem.W PyProof.Rows
set_option maxRecDepth 100000 in
set_option maxHeartbeats 0 in
theorem PySem.Challenge.cw_seriessquares_k05_poly_made_holds : PySem.Challenge.rw_seriessquares_k05_poly_made.Holds := by
  w_on; o_law; k_head; (case hw => w_witness2)
  k_fill
  refine Sq.walk (l := PySem.Challenge.rw_seriessquares_k05_poly_made) rfl rfl (fun w h Y => PySem.W.kIn_of Y) ?F
  case F =>
    intro w mg fa h KX G hmg
    refine' Sq.all_mk KX G hmg ?aS ?x3S ?y8S ?aN ?x3N ?y8N ?aNI ?lNI ?cNI ?kNI ?iNI ?y5 ?y6 ?xLN ?x1N ?x2N ?x4N ?x5N ?x6N ?x7N ?x8N ?x9N ?y2N ?y3N ?y4N ?y7N ?aII ?lII ?cII ?kII ?aR ?pgR ?hdR ?poR ?saR ?mkR ?kcR ?nR_top ?nR_bottom ?q1R ?q2R ?q3R ?aRI ?lRI ?cRI ?kRI ?iRI ?eRI ?w3 ?w4 ?g_gcd ?z_len ?z_abs ?z_int ?z_range ?z_isinstance ?z_bool ?z_list ?z_tuple ?z_min ?z_reversed ?astate ?lstate ?cstate ?kstate ?adraw ?ldraw ?cdraw ?kdraw ?agcd ?lgcd ?cgcd ?kgcd ?alisint ?llisint ?clisint ?klisint ?aisnum ?lisnum ?cisnum ?kisnum ?aasr ?lasr ?casr ?kasr ?aeq ?leq ?ceq ?keq ?ieq ?amul ?lmul ?cmul ?kmul ?imul ?aadd ?ladd ?cadd ?kadd ?iadd ?aover ?lover ?cover ?kover ?iover ?aisp ?lisp ?cisp ?kisp ?ainv ?linv ?cinv ?kinv ?aF ?pgF ?hdF ?poF ?saF ?mkF ?kcF ?nF_prime ?q1F ?q2F ?q3F ?aFI ?lFI ?cFI ?kFI ?iFI ?eFI ?afeq ?lfeq ?cfeq ?kfeq ?ifeq ?afnum ?lfnum ?cfnum ?kfnum ?ifnum ?afover ?lfover ?cfover ?kfover ?ifover ?aseq ?lseq ?cseq ?kseq ?ataken ?ltaken ?ctaken ?ktaken ?arow ?lrow ?crow ?krow ?aP ?pgP ?hdP ?poP ?saP ?mkP ?kcP ?nP_field ?nP_coefficients ?nP_degree ?q1P ?q2P ?q3P ?aPI ?lPI ?cPI ?kPI ?iPI ?apcoef ?lpcoef ?cpcoef ?kpcoef ?ipcoef ?apat ?lpat ?cpat ?kpat ?ipat ?apcall ?lpcall ?cpcall ?kpcall ?ipcall ?alip ?llip ?clip ?klip ?alpr ?llpr ?clpr ?klpr ?apair ?lpair ?cpair ?kpair ?aplus ?lplus ?cplus ?kplus ?atimes ?ltimes ?ctimes ?ktimes ?agiven ?lgiven ?cgiven ?kgiven ?apassed ?lpassed ?cpassed ?kpassed ?anumber ?lnumber ?cnumber ?knumber ?asmall ?lsmall ?csmall ?ksmall ?atrimmed ?ltrimmed ?ctrimmed ?ktrimmed ?alread ?llread ?clread ?klread ?arowt ?lrowt ?crowt ?krowt ?atold ?ltold ?ctold ?ktold ?avalue ?lvalue ?cvalue ?kvalue ?arefused ?lrefused ?crefused ?krefused ?acounted ?lcounted ?ccounted ?kcounted ?alat ?llat ?clat ?klat ?arefusals ?lrefusals ?crefusals ?krefusals ?ala ?lla ?cla ?kla ?w_int ?w_str ?w_NoneType ?w_bool ?w_list ?w_tuple ?w_dict ?wF_int ?nf_int ?sf0 ?g_isqrt ?g_GP ?aRd ?hdRd ?q3Rd ?wd_int ?wd_str ?wd_NoneType ?wd_bool ?wd_list ?wd_tuple ?wd_dict ?wd_R ?wd_self ?wR_list ?wR_tuple ?cvP ?rdP ?gaP ?fiPc ?aNF ?xLNF ?x3NF ?x4NF ?x2NF ?x7NF ?y8NF ?aNN ?xLNN ?x3NN ?x4NN ?x2NN ?x7NN ?y8NN ?aNC ?xLNC ?x3NC ?x4NC ?x2NC ?x7NC ?y8NC ?xLS ?n1S ?n2S ?n3S ?n1NF ?n2NF ?n3NF ?n1NN ?n2NN ?n3NN ?n1NC ?n2NC ?n3NC ?aPL ?x3PL ?y8PL ?aPLI ?lPLI ?cPLI ?kPLI ?iPLI ?xLPL ?x1PL ?x2PL ?x4PL ?x5PL ?x6PL ?x7PL ?x8PL ?x9PL ?y2PL ?y3PL ?y4PL ?y7PL
    (case aS => k_is)
    (case x3S => k_is)
    (case y8S => k_is)
    (case aN => k_is)
    (case x3N => k_is)
    (case y8N => k_is)
    (case aNI => k_is)
    (case lNI => k_is)
    (case cNI => k_is)
    (case kNI => k_is)
    (case iNI => k_is)
    (case y5 => k_is)
    (case y6 => k_is)
    (case xLN => k_is)
    (case x1N => k_is)
    (case x2N => k_is)
    (case x4N => k_is)
    (case x5N => k_is)
    (case x6N => k_is)
    (case x7N => k_is)
    (case x8N => k_is)
    (case x9N => k_is)
    (case y2N => k_is)
    (case y3N => k_is)
    (case y4N => k_is)
    (case y7N => k_is)
    (case aII => k_is)
    (case lII => k_is)
    (case cII => k_is)
    (case kII => k_is)
    (case aR => k_is)
    (case pgR => k_is)
    (case hdR => k_is)
    (case poR => k_is)
    (case saR => k_is)
    (case mkR => k_is)
    (case kcR => k_is)
    (case nR_top => k_is)
    (case nR_bottom => k_is)
    (case q1R => k_is)
    (case q2R => k_is)
    (case q3R => k_is)
    (case aRI => k_is)
    (case lRI => k_is)
    (case cRI => k_is)
    (case kRI => k_is)
    (case iRI => k_is)
    (case eRI => k_is)
    (case w3 => k_is)
    (case w4 => k_is)
    (case g_gcd => k_is)
    (case z_len => k_is)
    (case z_abs => k_is)
    (case z_int => k_is)
    (case z_range => k_is)
    (case z_isinstance => k_is)
    (case z_bool => k_is)
    (case z_list => k_is)
    (case z_tuple => k_is)
    (case z_min => k_is)
    (case z_reversed => k_is)
    (case astate => k_is)
    (case lstate => k_is)
    (case cstate => k_is)
    (case kstate => k_is)
    (case adraw => k_is)
    (case ldraw => k_is)
    (case cdraw => k_is)
    (case kdraw => k_is)
    (case agcd => k_is)
    (case lgcd => k_is)
    (case cgcd => k_is)
    (case kgcd => k_is)
    (case alisint => k_is)
    (case llisint => k_is)
    (case clisint => k_is)
    (case klisint => k_is)
    (case aisnum => k_is)
    (case lisnum => k_is)
    (case cisnum => k_is)
    (case kisnum => k_is)
    (case aasr => k_is)
    (case lasr => k_is)
    (case casr => k_is)
    (case kasr => k_is)
    (case aeq => k_is)
    (case leq => k_is)
    (case ceq => k_is)
    (case keq => k_is)
    (case ieq => k_is)
    (case amul => k_is)
    (case lmul => k_is)
    (case cmul => k_is)
    (case kmul => k_is)
    (case imul => k_is)
    (case aadd => k_is)
    (case ladd => k_is)
    (case cadd => k_is)
    (case kadd => k_is)
    (case iadd => k_is)
    (case aover => k_is)
    (case lover => k_is)
    (case cover => k_is)
    (case kover => k_is)
    (case iover => k_is)
    (case aisp => k_is)
    (case lisp => k_is)
    (case cisp => k_is)
    (case kisp => k_is)
    (case ainv => k_is)
    (case linv => k_is)
    (case cinv => k_is)
    (case kinv => k_is)
    (case aF => k_is)
    (case pgF => k_is)
    (case hdF => k_is)
    (case poF => k_is)
    (case saF => k_is)
    (case mkF => k_is)
    (case kcF => k_is)
    (case nF_prime => k_is)
    (case q1F => k_is)
    (case q2F => k_is)
    (case q3F => k_is)
    (case aFI => k_is)
    (case lFI => k_is)
    (case cFI => k_is)
    (case kFI => k_is)
    (case iFI => k_is)
    (case eFI => k_is)
    (case afeq => k_is)
    (case lfeq => k_is)
    (case cfeq => k_is)
    (case kfeq => k_is)
    (case ifeq => k_is)
    (case afnum => k_is)
    (case lfnum => k_is)
    (case cfnum => k_is)
    (case kfnum => k_is)
    (case ifnum => k_is)
    (case afover => k_is)
    (case lfover => k_is)
    (case cfover => k_is)
    (case kfover => k_is)
    (case ifover => k_is)
    (case aseq => k_is)
    (case lseq => k_is)
    (case cseq => k_is)
    (case kseq => k_is)
    (case ataken => k_is)
    (case ltaken => k_is)
    (case ctaken => k_is)
    (case ktaken => k_is)
    (case arow => k_is)
    (case lrow => k_is)
    (case crow => k_is)
    (case krow => k_is)
    (case aP => k_is)
    (case pgP => k_is)
    (case hdP => k_is)
    (case poP => k_is)
    (case saP => k_is)
    (case mkP => k_is)
    (case kcP => k_is)
    (case nP_field => k_is)
    (case nP_coefficients => k_is)
    (case nP_degree => k_is)
    (case q1P => k_is)
    (case q2P => k_is)
    (case q3P => k_is)
    (case aPI => k_is)
    (case lPI => k_is)
    (case cPI => k_is)
    (case kPI => k_is)
    (case iPI => k_is)
    (case apcoef => k_is)
    (case lpcoef => k_is)
    (case cpcoef => k_is)
    (case kpcoef => k_is)
    (case ipcoef => k_is)
    (case apat => k_is)
    (case lpat => k_is)
    (case cpat => k_is)
    (case kpat => k_is)
    (case ipat => k_is)
    (case apcall => k_is)
    (case lpcall => k_is)
    (case cpcall => k_is)
    (case kpcall => k_is)
    (case ipcall => k_is)
    (case alip => k_is)
    (case llip => k_is)
    (case clip => k_is)
    (case klip => k_is)
    (case alpr => k_is)
    (case llpr => k_is)
    (case clpr => k_is)
    (case klpr => k_is)
    (case apair => k_is)
    (case lpair => k_is)
    (case cpair => k_is)
    (case kpair => k_is)
    (case aplus => k_is)
    (case lplus => k_is)
    (case cplus => k_is)
    (case kplus => k_is)
    (case atimes => k_is)
    (case ltimes => k_is)
    (case ctimes => k_is)
    (case ktimes => k_is)
    (case agiven => k_is)
    (case lgiven => k_is)
    (case cgiven => k_is)
    (case kgiven => k_is)
    (case apassed => k_is)
    (case lpassed => k_is)
    (case cpassed => k_is)
    (case kpassed => k_is)
    (case anumber => k_is)
    (case lnumber => k_is)
    (case cnumber => k_is)
    (case knumber => k_is)
    (case asmall => k_is)
    (case lsmall => k_is)
    (case csmall => k_is)
    (case ksmall => k_is)
    (case atrimmed => k_is)
    (case ltrimmed => k_is)
    (case ctrimmed => k_is)
    (case ktrimmed => k_is)
    (case alread => k_is)
    (case llread => k_is)
    (case clread => k_is)
    (case klread => k_is)
    (case arowt => k_is)
    (case lrowt => k_is)
    (case crowt => k_is)
    (case krowt => k_is)
    (case atold => k_is)
    (case ltold => k_is)
    (case ctold => k_is)
    (case ktold => k_is)
    (case avalue => k_is)
    (case lvalue => k_is)
    (case cvalue => k_is)
    (case kvalue => k_is)
    (case arefused => k_is)
    (case lrefused => k_is)
    (case crefused => k_is)
    (case krefused => k_is)
    (case acounted => k_is)
    (case lcounted => k_is)
    (case ccounted => k_is)
    (case kcounted => k_is)
    (case alat => k_is)
    (case llat => k_is)
    (case clat => k_is)
    (case klat => k_is)
    (case arefusals => k_is)
    (case lrefusals => k_is)
    (case crefusals => k_is)
    (case krefusals => k_is)
    (case ala => k_is)
    (case lla => k_is)
    (case cla => k_is)
    (case kla => k_is)
    (case w_int => k_is)
    (case w_str => k_is)
    (case w_NoneType => k_is)
    (case w_bool => k_is)
    (case w_list => k_is)
    (case w_tuple => k_is)
    (case w_dict => k_is)
    (case wF_int => k_is)
    (case nf_int => k_is)
    (case sf0 => k_is)
    (case g_isqrt => k_is)
    (case g_GP => k_is)
    (case aRd => k_is)
    (case hdRd => k_is)
    (case q3Rd => k_is)
    (case wd_int => k_is)
    (case wd_str => k_is)
    (case wd_NoneType => k_is)
    (case wd_bool => k_is)
    (case wd_list => k_is)
    (case wd_tuple => k_is)
    (case wd_dict => k_is)
    (case wd_R => k_is)
    (case wd_self => k_is)
    (case wR_list => k_is)
    (case wR_tuple => k_is)
    (case cvP => k_is)
    (case rdP => k_is)
    (case gaP => k_is)
    (case fiPc => k_is)
    (case aNF => k_is)
    (case xLNF => k_is)
    (case x3NF => k_is)
    (case x4NF => k_is)
    (case x2NF => k_is)
    (case x7NF => k_is)
    (case y8NF => k_is)
    (case aNN => k_is)
    (case xLNN => k_is)
    (case x3NN => k_is)
    (case x4NN => k_is)
    (case x2NN => k_is)
    (case x7NN => k_is)
    (case y8NN => k_is)
    (case aNC => k_is)
    (case xLNC => k_is)
    (case x3NC => k_is)
    (case x4NC => k_is)
    (case x2NC => k_is)
    (case x7NC => k_is)
    (case y8NC => k_is)
    (case xLS => k_is)
    (case n1S => k_is)
    (case n2S => rfl)
    (case n3S => k_is)
    (case n1NF => k_is)
    (case n2NF => rfl)
    (case n3NF => k_is)
    (case n1NN => k_is)
    (case n2NN => rfl)
    (case n3NN => k_is)
    (case n1NC => k_is)
    (case n2NC => rfl)
    (case n3NC => k_is)
    (case aPL => k_is)
    (case x3PL => k_is)
    (case y8PL => k_is)
    (case aPLI => k_is)
    (case lPLI => k_is)
    (case cPLI => k_is)
    (case kPLI => k_is)
    (case iPLI => k_is)
    (case xLPL => k_is)
    (case x1PL => k_is)
    (case x2PL => k_is)
    (case x4PL => k_is)
    (case x5PL => k_is)
    (case x6PL => k_is)
    (case x7PL => k_is)
    (case x8PL => k_is)
    (case x9PL => k_is)
    (case y2PL => k_is)
    (case y3PL => k_is)
    (case y4PL => k_is)
    (case y7PL => k_is)

