import PyProof.Rows.All
import Wide.All
import OpenK.AllK
import Wide.FinOn
import HandS.ForMost
import HandS.ForExc
import HandS.Codes
import HandS.Wide
import HandS.Gcd
import HandS.Flow
import HandS.IsInst
import HandS.ExcInit
import HandS.ExcField
import HandS.ExcIs
import HandS.Defaults
import HandS.MakeKw
import HandS.MakeKwOnly
import HandS.TryOnly
import HandS.EndBits
import KE.KExcIs
import KE.KOpsOwn
import HandS.OwnEq
import HandS.Star
import OpenK.KOps
import HandS.ClsMeth
import HandS.Conv
import HandS.Deep
import HandS.TupAny
import HandS.Style
import PySem.Challenge.RW_seriessquares_k09_series_made
set_option Elab.async false
set_option linter.all false
set_option maxRecDepth 100000
set_option maxHeartbeats 4000000
namespace Sq
open PySem L2
def top (i : Nat) : Stmt := PySem.Challenge.pw_seriessquares_k09_series_made.main.body.getD i (.Pass ⟨0, 0, 0, 0⟩)
abbrev s_state : Stmt := top 43
abbrev s_draw : Stmt := top 44
abbrev s_gcd : Stmt := top 45
abbrev s_lisint : Stmt := top 46
/-- the heap stands but at p -/
def But (p : Addr) (H H' : Hp) : Prop := ∀ b o, H b = some o → b ≠ p → H' b = some o
theorem But.refl (p : Addr) (H : Hp) : But p H H := fun _ _ h _ => h
theorem But.trans {p : Addr} {H H1 H2 : Hp} (a : But p H H1) (b : But p H1 H2) : But p H H2 := fun c o h n => b c o (a c o h n) n
theorem But.upd {p : Addr} {H H1 : Hp} {o : HO} (a : But p H H1) : But p H (upd H1 p o) := fun c u h n => (upd_ne n).trans (a c u h n)
theorem But.new {p q : Addr} {H H1 : Hp} {o : HO} (a : But p H H1) (n : H1 q = none) : But p H (L2.upd H1 q o) := fun c u h nc => (upd_ne (ne_of_none (a c u h nc) n)).trans (a c u h nc)
theorem Same.but {p : Addr} {H H1 : Hp} (a : Same H H1) : But p H H1 := fun c u h _ => a c u h
/-- the five things of the state, and the script's ints -/
def St5 (H : Hp) (p a : Addr) (ns : List Int) (i l m c : Int) : Prop := H p = some (.lst [.ref a, .int i, .int l, .int m, .int c]) ∧ H a = some (.lst (ns.map V.int)) ∧ a ≠ p ∧ 0 ≤ i ∧ 0 ≤ m ∧ m < 2147483648
def StAt (H : Hp) (p : Addr) : Prop := ∃ a ns i l m c, St5 H p a ns i l m c
def spDraw : Sp := fun vs H Q _ => ∃ (p : Addr) (n : Int), vs = [.ref p, .int n] ∧ 0 < n ∧ n < 1073741824 ∧ StAt H p ∧ ∀ v H', 0 ≤ v → v < n → StAt H' p → But p H H' → Q (.int v) H'
/-- the state, its numbers at a -/
def StA (H : Hp) (p a : Addr) : Prop := ∃ ns i l m c, St5 H p a ns i l m c
theorem StA.at_ {H : Hp} {p a : Addr} (S : StA H p a) : StAt H p := ⟨a, S⟩
def spDrawA : Sp := fun vs H Q _ => ∃ (p : Addr) (n : Int) (a : Addr), vs = [.ref p, .int n] ∧ 0 < n ∧ n < 1073741824 ∧ StA H p a ∧ ∀ v H', 0 ≤ v → v < n → StA H' p a → But p H H' → Q (.int v) H'
theorem St5.set {H : Hp} {p a : Addr} {ns : List Int} {i l m c : Int} (S : St5 H p a ns i l m c) {i' l' m' c' : Int} (h0 : 0 ≤ i') (h1 : 0 ≤ m') (h2 : m' < 2147483648) :
    St5 (upd H p (.lst [.ref a, .int i', .int l', .int m', .int c'])) p a ns i' l' m' c' := ⟨upd_same, (upd_ne S.2.2.1).trans S.2.1, S.2.2.1, h0, h1, h2⟩
structure DTx (mg : Str → Option Value) : Prop where
  b_len : mg "len" = none
  b_abs : mg "abs" = none
  b_int : mg "int" = none
  b_range : mg "range" = none
section
variable {P : Program} {w : World} {K : PySem.W.Frag} {mg : Str → Option Value} {base : Heap}
theorem sc_draw : FnScope ["_law_state_here", "_law_many", "_law_item", "_law_found", "_law_twice"] ["_law_state_here", "_law_many"] (defScope s_draw) := ⟨rfl, rfl, rfl, by decide +kernel, rfl, by decide +kernel, by decide +kernel⟩
theorem ok_drawA {f : Addr} {fd : FuncData} (F : Fun K "_law_draw" "_law_draw" s_draw f fd) (T : DTx mg) : FnOk P w K mg base CX0 1 f fd ["_law_state_here", "_law_many"] spDrawA := by
  refine F.ok sc_draw (fun vs H Q E h => ?_) (fun cdv A outer s H vs Q E hr h => ?_)
  · obtain ⟨p, n, a, rfl, _⟩ := h
    rfl
  · obtain ⟨p, n, a, rfl, hn0, hn1, ⟨ns, i, l, m, c, S⟩, k⟩ := h
    refine ⟨_, (C8.pss_cut (ps_asg (pe_op op_add (pe_ix ix_list (pv 0) pe_int (fun _ _ => rfl)) pe_int) (pg_sub (pv 0) pe_int set_list))
      (C8.pss_cut (ps_if (PW.pt (pw_and (pt_cmpR op_le (pe_ix ix_list (pv 0) pe_int (fun _ _ => rfl)) pe_int (nomark _)) (pw_and1 (pt_cmpR op_lt (pe_ix ix_list (pv 0) pe_int (fun _ _ => rfl)) (pe_callB call_len_seq (by rfl) T.b_len (by decide +kernel) (pa_cons (pe_ix ix_list (pv 0) pe_int (fun _ _ => rfl)) pa_nil)) (nomark _)))))
        (pss_cons (ps_set (i := 2) sc_draw.nd rfl (Or.inl rfl) (pe_ix ix_list (pe_ix ix_list (pv 0) pe_int (fun _ _ => rfl)) (pe_ix ix_list (pv 0) pe_int (fun _ _ => rfl)) (fun _ _ => rfl)))
      (pss_cons (ps_asg (pe_op op_add (pe_ix ix_list (pv 0) pe_int (fun _ _ => rfl)) pe_int) (pg_sub (pv 0) pe_int set_list))
      (pss_one (ps_if (pt_cmpR op_ge (pe_callB call_abs (by rfl) T.b_abs (by decide +kernel) (pa_cons (pv 2) pa_nil)) (pe_op op_pow pe_int pe_int) (nomark _))
        (pss_one (ps_asg (pe_callB call_abs (by rfl) T.b_abs (by decide +kernel) (pa_cons (pv 2) pa_nil)) (pg_sub (pv 0) pe_int set_list)))
        (pss_cons (ps_asg pe_int (pg_sub (pv 0) pe_int set_list))
      (pss_one (ps_asg (pe_op op_mod (pe_callTy call_int1 (by rfl) T.b_int (by decide +kernel) (pa_cons (pe_op op_add (pe_op op_add (pe_op op_mul (pe_ix ix_list (pv 0) pe_int (fun _ _ => rfl)) pe_int) (pv 2)) (pe_op op_mul pe_int (pe_ix ix_list (pv 0) pe_int (fun _ _ => rfl)))) pa_nil)) pe_int) (pg_sub (pv 0) pe_int set_list))))))))
        pss_nil)
      (pss_cons (ps_if (pt_cmpR op_gt (pe_ix ix_list (pv 0) pe_int (fun _ _ => rfl)) pe_int (nomark _))
        (pss_cons (ps_set (i := 3) sc_draw.nd rfl (Or.inl rfl) (pe_op op_mod (pe_callTy call_int1 (by rfl) T.b_int (by decide +kernel) (pa_cons (pe_ix ix_list (pv 0) pe_int (fun _ _ => rfl)) pa_nil)) (pv 1)))
      (pss_cons (ps_asg (pe_op op_fdiv (pe_ix ix_list (pv 0) pe_int (fun _ _ => rfl)) (pv 1)) (pg_sub (pv 0) pe_int set_list))
      (pss_one (ps_ret (pv 3)))))
        pss_nil)
      (pss_cons (ps_asg (pe_op op_mod (pe_callTy call_int1 (by rfl) T.b_int (by decide +kernel) (pa_cons (pe_op op_add (pe_op op_add (pe_op op_mul (pe_ix ix_list (pv 0) pe_int (fun _ _ => rfl)) pe_int) (pe_op op_mul pe_int (pe_ix ix_list (pv 0) pe_int (fun _ _ => rfl)))) pe_int) pa_nil)) pe_int) (pg_sub (pv 0) pe_int set_list))
      (pss_cons (ps_set (i := 4) sc_draw.nd rfl (Or.inl rfl) (pe_op op_mod (pe_callTy call_int1 (by rfl) T.b_int (by decide +kernel) (pa_cons (pe_op op_mul (pe_ix ix_list (pv 0) pe_int (fun _ _ => rfl)) (pe_op op_add (pe_op op_fdiv (pe_ix ix_list (pv 0) pe_int (fun _ _ => rfl)) pe_int) pe_int)) pa_nil)) pe_int))
      (pss_one (ps_ret (pe_op op_mod (pe_op op_fdiv (pv 4) pe_int) (pv 1))))))))), ?_⟩
    obtain ⟨hp, ha, hap, h0, h1, h2⟩ := id S
    -- the count
    refine ⟨fun σ H' => σ = [some (.ref p), some (.int n), none, none, none] ∧ St5 H' p a ns i l m (c + 1) ∧ But p H H', ⟨_, rfl, _, _, _, _, rfl, rfl, SqL.of hp, rfl, _, _, rfl, rfl, _, rfl, _, _, _, _, rfl, rfl, hp, rfl, rfl, S.set h0 h1 h2, (But.refl _ _).upd⟩, ?_⟩
    rintro σ H1 ⟨rfl, S1, B1⟩
    obtain ⟨hp1, ha1, _⟩ := id S1
    -- the next number of the script
    refine ⟨fun σ H' => ∃ v2, σ = [some (.ref p), some (.int n), v2, none, none] ∧ (∃ i l m, St5 H' p a ns i l m (c + 1)) ∧ But p H H', ?_, ?_⟩
    · refine ⟨_, rfl, _, _, _, _, rfl, rfl, SqL.of hp1, rfl, _, _, rfl, rfl, _, rfl, ?_⟩
      refine ite2 (fun c1 => ?_) (fun c1 => iteF ⟨none, rfl, ⟨i, l, m, S1⟩, B1⟩)
      refine ⟨_, rfl, _, _, _, _, rfl, rfl, SqL.of hp1, rfl, _, rfl, _, _, _, _, rfl, rfl, SqL.of hp1, rfl, _, _, rfl, .inl (SqL.of ha1), _, _, rfl, rfl, _, rfl, ?_⟩
      refine ite2 (fun c2 => ?_) (fun c2 => ⟨none, rfl, ⟨i, l, m, S1⟩, B1⟩)
      have c2' : i.toNat < ns.length := by
        have := of_decide_eq_true c2
        rw [List.length_map] at this
        omega
      have hz : (ns.map V.int)[i.toNat]? = some (V.int ns[i.toNat]) := by
        rw [List.getElem?_map, List.getElem?_eq_getElem c2']
        rfl
      refine ⟨_, rfl, _, _, _, _, rfl, rfl, SqL.of hp1, rfl, _, rfl, _, _, _, _, rfl, rfl, SqL.of hp1, rfl, _, _, _, _, rfl, rfl, SqL.of ha1, at_of (j := i.toNat) (by omega) hz, ?_⟩
      generalize ns[i.toNat] = z
      refine ⟨_, rfl, _, _, _, _, rfl, rfl, SqL.of hp1, rfl, _, _, rfl, rfl, _, rfl, _, _, _, _, rfl, rfl, hp1, rfl, ?_⟩
      have S2 := S1.set (i' := i + 1) (l' := l) (m' := m) (c' := c + 1) (by omega) h1 h2
      refine ⟨_, rfl, _, rfl, _, _, rfl, rfl, ⟨by decide, by decide, by decide⟩, _, _, rfl, rfl, _, rfl, ?_⟩
      refine ite2 (fun c3 => ?_) (fun c3 => ?_)
      · refine ⟨_, rfl, _, rfl, _, rfl, _, _, _, _, rfl, rfl, S2.1, rfl, ?_⟩
        exact ⟨_, rfl, ⟨_, _, _, S2.set (by omega) h1 h2⟩, B1.upd.upd⟩
      · refine ⟨_, rfl, _, _, _, _, rfl, rfl, S2.1, rfl, ?_⟩
        have S3 := S2.set (i' := i + 1) (l' := 0) (m' := m) (c' := c + 1) (by omega) h1 h2
        refine ⟨_, rfl, _, _, _, _, rfl, rfl, SqL.of S3.1, rfl, _, _, rfl, rfl, .inr (by decide), _, rfl, _, _, rfl, rfl, _, rfl, _, _, _, _, rfl, rfl, SqL.of S3.1, rfl, _, _, rfl, rfl, .inl (by decide), _, _, rfl, rfl, .inl ⟨_, rfl, ?_⟩⟩
        refine ⟨_, _, rfl, rfl, (by show (0 : Int) < 2147483629; decide), _, rfl, _, _, _, _, rfl, rfl, S3.1, rfl, ?_⟩
        exact ⟨_, rfl, ⟨_, _, _, S3.set (by omega) (Int.emod_nonneg _ (by decide)) (Int.lt_trans (Int.emod_lt_of_pos _ (by decide)) (by decide))⟩, B1.upd.upd.upd⟩
    · rintro σ H2 ⟨v2, rfl, ⟨i, l, m, S2⟩, B2⟩
      obtain ⟨hp2, ha2, hap2, h02, h12, h22⟩ := id S2
      refine ⟨_, rfl, _, _, _, _, rfl, rfl, SqL.of hp2, rfl, _, _, rfl, rfl, _, rfl, ?_⟩
      refine ite2 (fun c1 => ?_) (fun c1 => ?_)
      · refine ⟨_, rfl, _, _, _, _, rfl, rfl, SqL.of hp2, rfl, .inl ⟨_, rfl, _, rfl, _, _, rfl, rfl, hn0, ?_⟩⟩
        refine ⟨_, rfl, _, _, _, _, rfl, rfl, SqL.of hp2, rfl, _, rfl, _, _, rfl, rfl, ⟨hn0, hn1⟩, _, rfl, _, _, _, _, rfl, rfl, hp2, rfl, ?_⟩
        exact ⟨_, rfl, k _ _ (Int.emod_nonneg _ (by omega)) (Int.emod_lt_of_pos _ hn0) ⟨ns, _, _, _, _, S2.set h02 h12 h22⟩ B2.upd⟩
      · refine ⟨_, rfl, _, _, _, _, rfl, rfl, SqL.of hp2, rfl, _, _, rfl, rfl, .inr (by decide), _, rfl, _, _, _, _, rfl, rfl, SqL.of hp2, rfl, _, _, rfl, rfl, .inl (by decide), _, _, rfl, rfl, _, _, rfl, rfl, .inl ⟨_, rfl, ?_⟩⟩
        refine ⟨_, _, rfl, rfl, (by show (0 : Int) < 2147483647; decide), _, rfl, _, _, _, _, rfl, rfl, hp2, rfl, ?_⟩
        have m0 : 0 ≤ (m * 48271 + 7919 * (c + 1) + 1) % 2147483647 := Int.emod_nonneg _ (by decide)
        have m1 : (m * 48271 + 7919 * (c + 1) + 1) % 2147483647 < 2147483647 := Int.emod_lt_of_pos _ (by decide)
        have S3 := S2.set (i' := i) (l' := l) (m' := (m * 48271 + 7919 * (c + 1) + 1) % 2147483647) (c' := c + 1) h02 m0 (by omega)
        refine ⟨_, rfl, _, _, _, _, rfl, rfl, SqL.of S3.1, rfl, _, rfl, _, _, _, _, rfl, rfl, SqL.of S3.1, rfl, _, _, rfl, rfl, ⟨by decide, by decide⟩, _, _, rfl, rfl, _, _, rfl, rfl, .inl ⟨Int.lt_of_lt_of_le (by decide) m0, Int.lt_trans m1 (by decide)⟩, .inl ⟨_, rfl, ?_⟩⟩
        refine ⟨_, _, rfl, rfl, (by show (0 : Int) < 2147483399; decide), ?_⟩
        refine ⟨_, rfl, _, _, rfl, rfl, ⟨by decide, by decide⟩, _, rfl, _, _, rfl, rfl, hn0, ?_⟩
        exact k _ _ (Int.emod_nonneg _ (by omega)) (Int.emod_lt_of_pos _ hn0) ⟨ns, _, _, _, _, S3⟩ B2.upd
theorem ok_draw {f : Addr} {fd : FuncData} (F : Fun K "_law_draw" "_law_draw" s_draw f fd) (T : DTx mg) : FnOk P w K mg base CX0 1 f fd ["_law_state_here", "_law_many"] spDraw :=
  (ok_drawA F T).imp fun vs H Q E ⟨p, n, e, h0, h1, ⟨a, S⟩, k⟩ => ⟨p, n, a, e, h0, h1, S, fun v H' v0 v1 S' B => k v H' v0 v1 ⟨a, S'⟩ B⟩
end
end Sq
namespace Sq
open PySem L2
/-- the state is made: the items' list is a new one -/
def spState (K : PySem.W.Frag) : Sp := fun vs H Q _ => ∃ (s : Addr) (ns : List Int), vs = [.ref s] ∧ SqL K H s (ns.map V.int) ∧ ns.length ≤ 63 ∧ ∀ p H', H p = none → StAt H' p → Same H H' → Q (.ref p) H'
theorem same_new {H H1 : Hp} {q : Addr} {o : HO} (a : Same H H1) (n : H1 q = none) : Same H (L2.upd H1 q o) := fun c u h => (upd_ne (ne_of_none (a c u h) n)).trans (a c u h)
theorem same_at {H H1 : Hp} {q : Addr} {o : HO} (a : Same H H1) (n : H q = none) : Same H (L2.upd H1 q o) := fun c u h => (upd_ne (ne_of_none h n)).trans (a c u h)
theorem take_map (ns : List Int) (k : Nat) : cutV (ns.map V.int) none (some ((k : Nat) : Int)) = (ns.take k).map V.int := by
  unfold cutV
  rw [HT.sIx_none, HT.sIx_nat, List.drop_zero, List.length_map, List.map_take]
  rw [Nat.sub_zero]
  by_cases h : k ≤ ns.length
  · rw [Nat.min_eq_left h]
  · rw [Nat.min_eq_right (by omega), List.take_of_length_le (by simp), List.take_of_length_le (by simp; omega)]
theorem map_get {ns : List Int} {i : Nat} {y : V} (hi : (ns.map V.int)[i]? = some y) : ∃ z, ns[i]? = some z ∧ y = V.int z := by
  rw [List.getElem?_map] at hi
  cases e : ns[i]? with
  | none =>
    rw [e] at hi
    cases hi
  | some z =>
    rw [e] at hi
    exact ⟨z, rfl, (Option.some.inj hi).symm⟩
theorem take_more {α : Type} {l : List α} {i : Nat} {x : α} (h : l[i]? = some x) : l.take (i + 1) = l.take i ++ [x] := by
  rw [List.take_add_one, h]
  rfl
theorem seq_at {K : PySem.W.Frag} {H : Hp} {a b : Addr} {xs : List V} {o : HO} (h : SqL K H a xs) (n : b ≠ a) : SqL K (upd H b o) a xs := by
  rcases h with (h | ⟨o, h⟩) | h
  · exact .inl (.inl ((upd_ne n.symm).trans h))
  · exact .inl (.inr ⟨o, (upd_ne n.symm).trans h⟩)
  · exact .inr h
section
variable {P : Program} {w : World} {K : PySem.W.Frag} {mg : Str → Option Value} {base : Heap}
theorem sc_state : FnScope ["_law_script", "_law_items", "_law_item"] ["_law_script"] (defScope s_state) := ⟨rfl, rfl, rfl, by decide +kernel, rfl, by decide +kernel, by decide +kernel⟩
theorem ok_state {f : Addr} {fd : FuncData} (F : Fun K "_law_state" "_law_state" s_state f fd) (T : DTx mg) : FnOk P w K mg base CX0 1 f fd ["_law_script"] (spState K) := by
  refine F.ok sc_state (fun vs H Q E h => ?_) (fun cdv A outer s H vs Q E hr h => ?_)
  · obtain ⟨p, n, rfl, _⟩ := h
    rfl
  · obtain ⟨a, ns, rfl, hS, hl, k⟩ := h
    refine ⟨_, pss_cons (ps_setLc (i := 1) (own := [("_law_item", 2)]) (g := gName 2) (tt := tYes) rfl sc_state.nd rfl rfl (sw_true rfl rfl rfl (by decide +kernel))
        (pi_list (pe_slice sl_list (pv 0) po_none (po_some pe_int))) (blkOk_by (N := ["_law_script", "_law_items", "_law_item"]) (sc := defScope s_state) (by decide +kernel)) (fun _ _ _ _ _ => pg_name (i := 2) sc_state.nd rfl (Or.inl rfl)) (fun _ _ _ _ _ => pts_nil)
        (fun _ _ _ _ _ => pe_callTy call_int1 (by rfl) T.b_int (by decide +kernel) (pa_cons (pv 2) pa_nil)))
      (pss_one (ps_ret (pe_lst (pa_cons (pv 1) (pa_cons pe_int (pa_cons pe_int (pa_cons (pe_op op_add pe_int (pe_callB call_len_seq (by rfl) T.b_len (by decide +kernel) (pa_cons (pv 1) pa_nil))) (pa_cons pe_int pa_nil)))))))), ?_⟩
    refine ⟨_, rfl, _, rfl, _, _, rfl, hS, fun q hq => ?_⟩
    have et : cutV (ns.map V.int) none (some 63) = (ns.take 63).map V.int := take_map ns 63
    have hq1 : SqL K (upd H q (.lst (cutV (ns.map V.int) none (some 63)))) q ((ns.take 63).map V.int) := by
      rw [et]
      exact SqL.of upd_same
    refine ⟨_, rfl, ⟨_, hq1⟩, fun D hD => ?_⟩
    have hDq : D ≠ q := fun e => by
      rw [e, upd_same] at hD
      cases hD
    have hDH : H D = none := by
      rw [upd_ne hDq] at hD
      exact hD
    refine lc_list (K := K) (a := q) (xs := (ns.take 63).map V.int) (fun i H' => H' D = some (.lst ((ns.take i).map V.int)) ∧ Same H H' ∧ SqL K H' q ((ns.take 63).map V.int)) ?_ (fun i H' _ h => h.2.2) ?_ ?_
    · refine ⟨by simpa using upd_same, same_new (same_new (Same.refl H) hq) hD, ?_⟩
      exact Same.seq (same_new (Same.refl _) hD) hq1
    · rintro i y H2 hi ⟨hD2, s2, hq2⟩
      obtain ⟨z, hz, rfl⟩ := map_get hi
      refine ⟨rfl, _, rfl, .inl ⟨_, rfl, ?_⟩⟩
      have hi1 : i < (ns.take 63).length := (List.getElem?_eq_some_iff.mp hz).1
      have hi63 : i < 63 := by
        rw [List.length_take] at hi1
        omega
      have hz' : ns[i]? = some z := by
        rw [List.getElem?_take] at hz
        rw [if_pos hi63] at hz
        exact hz
      refine ⟨_, hD2, small1000 (by rw [List.length_map, List.length_take]; omega), ?_, same_at s2 hDH, ?_⟩
      · rw [take_more hz', List.map_append]
        exact upd_same
      · exact seq_at hq2 hDq
    · rintro H2 ⟨hD2, s2, hq2⟩
      refine ⟨_, rfl, _, rfl, _, _, rfl, .inl (SqL.of hD2), _, _, rfl, rfl, (by show 5 ≤ sizeLine; decide), fun p hp => ?_⟩
      have hpD : D ≠ p := ne_of_none hD2 hp
      refine k p _ (s2.free hp) ⟨D, (ns.take 63).take (ns.take 63).length, 0, 0, _, 0, upd_same, (upd_ne hpD).trans ?_, hpD, by omega, by omega, ?_⟩ (same_new s2 hp)
      · rw [hD2, List.take_take, List.length_map]
        congr 4
        simp
      · rw [List.length_map, List.length_take]
        omega
end
end Sq
namespace Sq
open PySem L2
theorem fmod_lt (x : Int) {y : Int} (h : y ≠ 0) : (x.fmod y).natAbs < y.natAbs := by
  have e := Int.fmod_eq_emod (a := x) (b := y)
  have h1 := Int.emod_nonneg x h
  have h2 := Int.emod_lt x h
  by_cases c : 0 ≤ y ∨ y ∣ x
  · rw [if_pos c] at e
    omega
  · rw [if_neg c] at e
    have h3 : ¬ y ∣ x := fun d => c (.inr d)
    have h4 : x % y ≠ 0 := fun z => h3 (Int.dvd_of_emod_eq_zero z)
    omega
theorem gcd_fmod (x y : Int) : Int.gcd y (x.fmod y) = Int.gcd x y := by
  rw [Int.fmod_def, Int.gcd_sub_mul_left_right, Int.gcd_comm]
def spGcd : Sp := fun vs H Q _ => ∃ a b : Int, vs = [.int a, .int b] ∧ Q (.int ((Int.gcd a b : Nat) : Int)) H
/-- is it an int, no bool: for a value whose type is known -/
def isI : V → Bool
  | .int _ => true
  | _ => false
def IsTy (K : PySem.W.Frag) (H : Hp) (x : V) : Prop := ∃ t b1 b2, TyX K H x t ∧ PySem.W.kitOne K t (.type "int") = some b1 ∧ PySem.W.kitOne K t (.type "bool") = some b2 ∧ (b1 && !b2) = isI x
theorem IsTy.int {K : PySem.W.Frag} {H : Hp} (i : Int) : IsTy K H (.int i) := ⟨.type "int", true, false, .base (.int i), kit_ty (by decide +kernel), kit_ty (by decide +kernel), rfl⟩
theorem IsTy.bl {K : PySem.W.Frag} {H : Hp} (i : Bool) : IsTy K H (.bl i) := ⟨.type "bool", true, true, .base (.bl i), kit_ty (by decide +kernel), kit_ty (by decide +kernel), rfl⟩
theorem IsTy.non {K : PySem.W.Frag} {H : Hp} : IsTy K H .non := ⟨.type "NoneType", false, false, .base .non, kit_ty (by decide +kernel), kit_ty (by decide +kernel), rfl⟩
theorem IsTy.str {K : PySem.W.Frag} {H : Hp} (z : Str) : IsTy K H (.str z) := ⟨.type "str", false, false, .base (.str z), kit_ty (by decide +kernel), kit_ty (by decide +kernel), rfl⟩
theorem IsTy.lst {K : PySem.W.Frag} {H : Hp} {a : Addr} {xs : List V} (e : H a = some (.lst xs)) : IsTy K H (.ref a) := ⟨.type "list", false, false, .base (.lst e), kit_ty (by decide +kernel), kit_ty (by decide +kernel), rfl⟩
theorem IsTy.tup {K : PySem.W.Frag} {H : Hp} {a : Addr} {xs : List V} (e : H a = some (.tup xs)) : IsTy K H (.ref a) := ⟨.type "tuple", false, false, .base (.tup e), kit_ty (by decide +kernel), kit_ty (by decide +kernel), rfl⟩
theorem IsTy.dK {K : PySem.W.Frag} {H : Hp} {a : Addr} {xs : List (Key × V)} (e : H a = some (.dK xs)) : IsTy K H (.ref a) := ⟨.type "dict", false, false, .base (.dK e), kit_ty (by decide +kernel), kit_ty (by decide +kernel), rfl⟩
def spIsInt (K : PySem.W.Frag) : Sp := fun vs H Q _ => ∃ x, vs = [x] ∧ IsTy K H x ∧ Q (.bl (isI x)) H
def spGreat : Sp := fun vs H Q _ => ∃ p, vs = [.ref p] ∧ StAt H p ∧ ∀ v H', v.natAbs < 2 ^ 120 → StAt H' p → But p H H' → Q (.int v) H'
structure ITx (mg : Str → Option Value) : Prop where
  b_isinstance : mg "isinstance" = none
  b_int : mg "int" = none
  b_bool : mg "bool" = none
section
variable {P : Program} {w : World} {K : PySem.W.Frag} {mg : Str → Option Value} {base : Heap}
theorem sc_gcd : FnScope ["_law_one", "_law_other"] ["_law_one", "_law_other"] (defScope s_gcd) := ⟨rfl, rfl, rfl, by decide +kernel, rfl, by decide +kernel, by decide +kernel⟩
theorem ok_gcd {f : Addr} {fd : FuncData} (F : Fun K "_law_gcd" "_law_gcd" s_gcd f fd) (T : DTx mg) : FnOk P w K mg base CX0 1 f fd ["_law_one", "_law_other"] spGcd := by
  refine F.ok sc_gcd (fun vs H Q E h => ?_) (fun cdv A outer s H vs Q E hr h => ?_)
  · obtain ⟨a, b, rfl, _⟩ := h
    rfl
  · obtain ⟨a, b, rfl, k⟩ := h
    refine ⟨_, (pss_cons (ps_while PassesOwn.never (pt_cmpR op_ne (pv 1) pe_int (nomark _)) (pss_one (ps_par (i := 0) (j := 1) (by rfl) sc_gcd.nd rfl rfl (by decide) rfl rfl (pa_cons (pv 1) (pa_cons (pe_op op_modN (pe_callTy call_int1 (by rfl) T.b_int (by decide +kernel) (pa_cons (pv 0) pa_nil)) (pv 1)) pa_nil)) (by rfl))))
      (pss_one (ps_ret (pe_callB call_abs (by rfl) T.b_abs (by decide +kernel) (pa_cons (pv 0) pa_nil))))), ?_⟩
    refine while_by (fun σ H' => ∃ x y : Int, σ = [some (.int x), some (.int y)] ∧ Int.gcd x y = Int.gcd a b ∧ H' = H) (fun σ _ => match σ with | [_, some (.int y)] => y.natAbs | _ => 0) ⟨a, b, rfl, rfl, rfl⟩ ?_ ?_
    · rintro σ H' ⟨x, y, rfl, hg, rfl⟩
      refine ⟨_, rfl, rfl, _, rfl, ?_⟩
      refine ite2 (fun c => ?_) (fun c => ?_)
      · have hy : y ≠ 0 := fun e => by
          rw [e] at c
          exact absurd c (by decide)
        refine ⟨_, rfl, _, rfl, .inl ⟨_, rfl, _, rfl, _, _, rfl, rfl, hy, ?_⟩⟩
        exact ⟨_, _, rfl, ⟨_, _, rfl, (gcd_fmod x y).trans hg, rfl⟩, fmod_lt x hy⟩
      · have hy : y = 0 := by
          by_cases e : y = 0
          · exact e
          · exact absurd (by simp [e]) c
        subst hy
        refine ⟨_, rfl, _, rfl, ?_⟩
        rw [← hg] at k
        rw [Int.gcd_zero] at k
        have e : (if x < 0 then -x else x) = ((x.natAbs : Nat) : Int) := by
          split <;> omega
        rw [e]
        exact k
    · rintro σ H' Q1 Q2 hi ⟨v, e, u, z, e2, c⟩
      exact ⟨v, e, u, z, e2, hi _ _ c⟩
theorem sc_lisint : FnScope ["_law_told"] ["_law_told"] (defScope s_lisint) := ⟨rfl, rfl, rfl, by decide +kernel, rfl, by decide +kernel, by decide +kernel⟩
theorem ok_lisint {f : Addr} {fd : FuncData} (F : Fun K "_law_is_integer" "_law_is_integer" s_lisint f fd) (T : ITx mg) : FnOk P w K mg base CX0 1 f fd ["_law_told"] (spIsInt K) := by
  refine F.ok sc_lisint (fun vs H Q E h => ?_) (fun cdv A outer s H vs Q E hr h => ?_)
  · obtain ⟨x, rfl, _⟩ := h
    rfl
  · obtain ⟨x, rfl, ⟨t, b1, b2, ht, h1, h2, h3⟩, k⟩ := h
    refine ⟨_, pss_one (ps_ret (pe_and (pe_callB call_isi (by rfl) T.b_isinstance (by decide +kernel) (pa_cons (pv 0) (pa_cons (pe_bltn (v := .ty "int") (by rfl) T.b_int (by decide +kernel) rfl) pa_nil)))
      (pe_one (pe_not (pe_callB call_isi (by rfl) T.b_isinstance (by decide +kernel) (pa_cons (pv 0) (pa_cons (pe_bltn (v := .ty "bool") (by rfl) T.b_bool (by decide +kernel) rfl) pa_nil))))))), ?_⟩
    refine ⟨_, rfl, _, _, _, _, b1, rfl, .ty _, ht, h1, _, rfl, ?_⟩
    cases b1 with
    | false =>
      refine iteF ?_
      rw [← h3] at k
      exact k
    | true =>
      refine iteT ?_
      refine ⟨_, rfl, _, _, _, _, b2, rfl, .ty _, ht, h2, _, rfl, ?_⟩
      rw [← h3] at k
      exact k
end
end Sq

namespace Sq
open PySem L2 PyProof.Rows
abbrev s_noRatioInit : Stmt := inClass (top 4) 0
abbrev s_isint : Stmt := top 11
abbrev s_ratioInit : Stmt := inClass (top 19) 0
/-- // by any number but 0 whose size is below 2 ^ 9000 -/
def CDivZ (_ j : Int) : Prop := j ≠ 0 ∧ j.natAbs < 2 ^ 8000
theorem op_fdivZ {X : Cx} : OpR X (binaryOp .FloorDiv) (rI CDivZ fun i j => .int (i.fdiv j)) := opI fun i j _ _ _ _ _ hc q =>
  floordiv_int hc.1 q (.inl (PyProof.noPylong_of_log2 (Nat.lt_of_lt_of_le (PySem.Flt.log2_lt_of (by decide) hc.2) (by decide))))
/-! ### the fraction in lowest terms -/
structure Low (a b t u : Int) : Prop where
  pos : 1 ≤ u
  cop : Int.gcd t u = 1
  val : t * b = a * u
  lt : t.natAbs ≤ a.natAbs
  lu : u.natAbs ≤ b.natAbs
theorem low_of {a b c : Int} (hb : b ≠ 0) (hc : c = (Int.gcd a b : Int) ∧ 0 < b ∨ c = -(Int.gcd a b : Int) ∧ b < 0) : Low a b (a.fdiv c) (b.fdiv c) := by
  have hg : 0 < Int.gcd a b := Int.gcd_pos_of_ne_zero_right a hb
  have da : c ∣ a := by
    rcases hc with ⟨rfl, _⟩ | ⟨rfl, _⟩
    · exact Int.gcd_dvd_left ..
    · exact Int.neg_dvd.mpr (Int.gcd_dvd_left ..)
  have db : c ∣ b := by
    rcases hc with ⟨rfl, _⟩ | ⟨rfl, _⟩
    · exact Int.gcd_dvd_right ..
    · exact Int.neg_dvd.mpr (Int.gcd_dvd_right ..)
  have c0 : c ≠ 0 := by omega
  obtain ⟨t, ht⟩ := da
  obtain ⟨u, hu⟩ := db
  have et : a.fdiv c = t := by rw [ht]; exact Int.mul_fdiv_cancel_left _ c0
  have eu : b.fdiv c = u := by rw [hu]; exact Int.mul_fdiv_cancel_left _ c0
  rw [et, eu]
  have cn : c.natAbs = Int.gcd a b := by omega
  have c1 : 1 ≤ c.natAbs := by omega
  have gcu : Int.gcd a b = c.natAbs * Int.gcd t u := by
    rw [ht, hu, Int.gcd_mul_left]
  refine ⟨?_, ?_, ?_, ?_, ?_⟩
  · have : 0 < u := by
      rcases hc with ⟨h1, h2⟩ | ⟨h1, h2⟩
      · refine Int.pos_of_mul_pos_right (a := c) ?_ (by omega)
        rw [← hu]
        exact h2
      · refine Int.pos_of_mul_pos_right (a := -c) ?_ (by omega)
        rw [Int.neg_mul, ← hu]
        omega
    omega
  · rw [cn] at gcu
    exact (Nat.eq_of_mul_eq_mul_left hg (by rw [Nat.mul_one]; exact gcu)).symm
  · rw [ht, hu, Int.mul_assoc, Int.mul_left_comm]
  · rw [ht, Int.natAbs_mul]
    exact Nat.le_mul_of_pos_left _ c1
  · rw [hu, Int.natAbs_mul]
    exact Nat.le_mul_of_pos_left _ c1
/-! ### the objects -/
def rfl_ (t u : Int) : List (Str × V) := putF "bottom" (.int u) (putF "top" (.int t) [])
theorem tb : ¬ (("top" : Str) = "bottom") := by decide +kernel
theorem rf_top (t u : Int) : (rfl_ t u).lookup ("top" : Str) = some (.int t) := by
  unfold rfl_
  rw [lookup_putF, if_neg tb, lookup_putF, if_pos rfl]
theorem rf_bottom (t u : Int) : (rfl_ t u).lookup ("bottom" : Str) = some (.int u) := by
  unfold rfl_
  rw [lookup_putF, if_pos rfl]
theorem rf_no (t u : Int) {m : Str} (h1 : ¬ m = "bottom") (h2 : ¬ m = "top") : (rfl_ t u).lookup m = none := by
  unfold rfl_
  rw [lookup_putF, if_neg h1, lookup_putF, if_neg h2]
  rfl
def RatAt (C : Addr) (H : Hp) (x : Addr) (t u : Int) : Prop := ∃ dx, H x = some (.ins C dx (rfl_ t u))
/-- what a NoRatio carries -/
def wordAt (z : Str) : HO := .xd [(("word" : Str), .str z)]
/-- the word that is due, if any -/
def dueW (u v : V) : Option Str := if isI u then (if isI v then (if v = .int 0 then some "zero" else none) else some "bottom") else some "top"
def spRatioInit (K : PySem.W.Frag) (C CN : Addr) : Sp := fun vs H Q E => ∃ (x dx : Addr) (u v : V), vs = [.ref x, u, v] ∧ H x = some (.ins C dx []) ∧ IsTy K H u ∧ IsTy K H v ∧ (∀ b, v = .int b → b.natAbs < 2 ^ 8000) ∧
  (∀ z, dueW u v = some z → ∀ d, H d = none → E (.ref CN) (some d) (upd H d (wordAt z))) ∧
  (∀ a b, u = .int a → v = .int b → b ≠ 0 → ∀ t w H', Low a b t w → RatAt C H' x t w → But x H H' → Q .non H')
def spWordInit (CN : Addr) : Sp := fun vs H Q _ => ∃ (a : Addr) (y : V), vs = [.ref a, y] ∧ H a = some (exo a CN none) ∧ ∀ dx, H dx = none → dx ≠ a → Q .non (upd (upd H dx (exd dx [(("word" : Str), y)])) a (exo a CN (some dx)))
/-- the class of an error with the field word -/
structure NTx (K : PySem.W.Frag) (mg : Str → Option Value) (CN fN : Addr) : Prop where
  oex : OexC K CN
  nw : PySem.W.findIn K (.ref CN) "word" = some none
  iC : PySem.W.findIn K (.ref CN) "__init__" = some (some (.ref fN))
  tI : PySem.W.typeIn K (.ref fN) = some (.type "function")
structure CTx (K : PySem.W.Frag) (C : Addr) : Prop where
  cl : Cls K C
  nT : NoAttr K C "top"
  nB : NoAttr K C "bottom"
section
variable {P : Program} {w : World} {K : PySem.W.Frag} {mg : Str → Option Value} {base : Heap}
theorem sc_noRatioInit : FnScope ["self", "word"] ["self", "word"] (defScope s_noRatioInit) := ⟨rfl, rfl, rfl, by decide +kernel, rfl, by decide +kernel, by decide +kernel⟩
theorem ok_noRatioInit {f CN fN : Addr} {fd : FuncData} (F : Fun K "__init__" "NoRatio.__init__" s_noRatioInit f fd) (T : NTx K mg CN fN) : FnOk P w K mg base CX0 1 f fd ["self", "word"] (spWordInit CN) := by
  refine F.ok sc_noRatioInit (fun vs H Q E h => ?_) (fun cdv A outer s H vs Q E hr h => ?_)
  · obtain ⟨x, y, rfl, _⟩ := h
    rfl
  · obtain ⟨a, y, rfl, ha, k⟩ := h
    refine ⟨_, pss_one (ps_ost (pv 0) (pv 1)), ?_⟩
    exact ⟨_, rfl, _, rfl, a, CN, rfl, T.oex, T.nw, .inl ⟨ha, fun dx h1 h2 => k dx h1 h2⟩⟩
theorem sc_isint : FnScope ["value"] ["value"] (defScope s_isint) := ⟨rfl, rfl, rfl, by decide +kernel, rfl, by decide +kernel, by decide +kernel⟩
theorem ok_isint {f : Addr} {fd : FuncData} (F : Fun K "is_an_integer" "is_an_integer" s_isint f fd) (T : ITx mg) : FnOk P w K mg base CX0 1 f fd ["value"] (spIsInt K) := by
  refine F.ok sc_isint (fun vs H Q E h => ?_) (fun cdv A outer s H vs Q E hr h => ?_)
  · obtain ⟨x, rfl, _⟩ := h
    rfl
  · obtain ⟨x, rfl, ⟨t, b1, b2, ht, h1, h2, h3⟩, k⟩ := h
    refine ⟨_, pss_one (ps_ret (pe_and (pe_callB call_isi (by rfl) T.b_isinstance (by decide +kernel) (pa_cons (pv 0) (pa_cons (pe_bltn (v := .ty "int") (by rfl) T.b_int (by decide +kernel) rfl) pa_nil)))
      (pe_one (pe_not (pe_callB call_isi (by rfl) T.b_isinstance (by decide +kernel) (pa_cons (pv 0) (pa_cons (pe_bltn (v := .ty "bool") (by rfl) T.b_bool (by decide +kernel) rfl) pa_nil))))))), ?_⟩
    refine ⟨_, rfl, _, _, _, _, b1, rfl, .ty _, ht, h1, _, rfl, ?_⟩
    cases b1 with
    | false =>
      refine iteF ?_
      rw [← h3] at k
      exact k
    | true =>
      refine iteT ?_
      refine ⟨_, rfl, _, _, _, _, b2, rfl, .ty _, ht, h2, _, rfl, ?_⟩
      rw [← h3] at k
      exact k
end
end Sq
namespace Sq
open PySem L2 PyProof.Rows
theorem xd_eq {H : Hp} {a d CN : Addr} {y : V} (ha : H a = none) (n : d ≠ a) : upd (L2.del (upd (upd (upd H a (exo a CN none)) d (exd d [(("word" : Str), y)])) a (exo a CN (some d))) a) d (.xd [(("word" : Str), y)]) = upd H d (.xd [(("word" : Str), y)]) := by
  funext b
  by_cases h1 : b = d
  · subst h1
    rw [upd_same, upd_same]
  · rw [upd_ne h1, upd_ne h1]
    by_cases h2 : b = a
    · subst h2
      rw [del_same, ha]
    · rw [del_ne h2, upd_ne h2, upd_ne h1, upd_ne h2]
theorem mkO_read {CN : Addr} {z : Str} {H : Hp} {E : XK} (h : ∀ d, H d = none → E (.ref CN) (some d) (upd H d (wordAt z))) : ∀ a, H a = none → spWordInit CN (.ref a :: ([.str z] ++ [])) (upd H a (exo a CN none))
    (fun v H2 => v = .non ∧ ∃ (d : Addr) (fs : List (Str × V)), H2 a = some (exo a CN (some d)) ∧ H2 d = some (exd d fs) ∧ H d = none ∧ E (.ref CN) (some d) (upd (L2.del H2 a) d (.xd fs))) (fun _ _ _ => False) := fun a ha => by
  refine ⟨a, _, rfl, upd_same, fun dx h1 h2 => ⟨rfl, dx, [(("word" : Str), V.str z)], upd_same, ?_, ?_, ?_⟩⟩
  · exact (upd_ne h2).trans upd_same
  · rw [upd_ne h2] at h1
    exact h1
  · rw [upd_ne h2] at h1
    rw [xd_eq ha h2]
    exact h dx h1
theorem isI_int : ∀ {u : V}, isI u = true → ∃ a, u = .int a
  | .int i, _ => ⟨i, rfl⟩
  | .non, h => by cases h
  | .bl _, h => by cases h
  | .str _, h => by cases h
  | .byt _, h => by cases h
  | .flt _, h => by cases h
  | .ref _, h => by cases h
  | .ty _, h => by cases h
structure GTx (mg : Str → Option Value) (CN : Addr) : Prop where
  g_gcd : mg "gcd" = some (.builtin "math.gcd")
  m_NoRatio : mg "NoRatio" = some (.ref CN)
section
variable {P : Program} {w : World} {K : PySem.W.Frag} {mg : Str → Option Value} {base : Heap}
theorem sc_ratioInit : FnScope ["self", "top", "bottom", "common"] ["self", "top", "bottom"] (defScope s_ratioInit) := ⟨rfl, rfl, rfl, by decide +kernel, rfl, by decide +kernel, by decide +kernel⟩
theorem ok_ratioInit {f C CN fN fI : Addr} {fd fdN fdI : FuncData} (F : FunD K "__init__" "Ratio.__init__" (defArgs s_ratioInit) (defBody s_ratioInit) (defScope s_ratioInit) [.int 1] [] f fd) (T : CTx K C) (N : NTx K mg CN fN) (G : GTx mg CN)
    (G_N : FnOk P w K mg base CX0 1 fN fdN ["self", "word"] (spWordInit CN)) (b_N : Binds K fdN ["self", "word"] [])
    (G_I : FnOk P w K mg base CX0 1 fI fdI ["value"] (spIsInt K)) (m_I : mg "is_an_integer" = some (.ref fI)) (k_I : PySem.W.keepIn K (.ref fI) = true) (b_I : Binds K fdI ["value"] []) :
    FnOk P w K mg base (L2.CX P w) 3 f fd ["self", "top", "bottom"] (spRatioInit K C CN) := by
  refine F.ok sc_ratioInit (fun vs H Q E h => ?_) (fun cdv A outer s H vs Q E hr h => ?_)
  · obtain ⟨x, dx, u, v, rfl, _⟩ := h
    rfl
  · obtain ⟨x, dx, u, v, rfl, hx, tu, tv, hs, kE, kQ⟩ := h
    have hr1 : Room 1 _ := hr.mono (by decide)
    have raise := fun (z : Str) => (mkO_read (CN := CN) (z := z) (H := H) (E := E))
    refine ⟨_, (pss_cons (ps_if (pt_not (pt_val (pe_call G_I hr1 rfl m_I k_I b_I .nil pass0 (pa_cons (pv 1) pa_nil)))) (pss_one (ps_raise rfl (takes_of rfl rfl rfl rfl) (pmk_oex N.oex N.iC N.tI G_N hr b_N .nil pass0 rfl G.m_NoRatio (pa_cons pe_str pa_nil)))) pss_nil)
      (pss_cons (ps_if (pt_not (pt_val (pe_call G_I hr1 rfl m_I k_I b_I .nil pass0 (pa_cons (pv 2) pa_nil)))) (pss_one (ps_raise rfl (takes_of rfl rfl rfl rfl) (pmk_oex N.oex N.iC N.tI G_N hr b_N .nil pass0 rfl G.m_NoRatio (pa_cons pe_str pa_nil)))) pss_nil)
      (pss_cons (ps_if (pt_cmpR op_eq (pv 2) pe_int (nomark _)) (pss_one (ps_raise rfl (takes_of rfl rfl rfl rfl) (pmk_oex N.oex N.iC N.tI G_N hr b_N .nil pass0 rfl G.m_NoRatio (pa_cons pe_str pa_nil)))) pss_nil)
      (pss_cons (ps_set (i := 3) sc_ratioInit.nd rfl (Or.inl rfl) (pe_callBfun cr_gcd rfl G.g_gcd (pa_cons (pv 1) (pa_cons (pv 2) pa_nil))))
      (C8.pss_cut (ps_if (pt_cmpR op_lt (pv 2) pe_int (nomark _)) (pss_one (ps_set (i := 3) sc_ratioInit.nd rfl (Or.inl rfl) (pe_un un_neg (pv 3)))) pss_nil)
      (pss_cons (ps_fld (pv 0) (pe_op op_fdivZ (pv 1) (pv 3)) rfl)
      (pss_one (ps_fld (pv 0) (pe_op op_fdivZ (pv 2) (pv 3)) rfl)))))))), ?_⟩
    refine ⟨_, rfl, u, rfl, tu, _, rfl, ?_⟩
    cases eu : isI u with
    | false =>
      refine iteT ⟨by decide, raise "top" ?_⟩
      exact kE "top" (by unfold dueW; rw [eu]; rfl)
    | true =>
      refine iteF ⟨_, rfl, v, rfl, tv, _, rfl, ?_⟩
      cases ev : isI v with
      | false =>
        refine iteT ⟨by decide, raise "bottom" ?_⟩
        exact kE "bottom" (by unfold dueW; rw [eu, ev]; rfl)
      | true =>
        obtain ⟨a, rfl⟩ : ∃ a, u = .int a := by
          exact isI_int eu
        obtain ⟨b, rfl⟩ : ∃ b, v = .int b := by
          exact isI_int ev
        refine iteF ⟨_, rfl, rfl, _, rfl, ?_⟩
        refine ite2 (fun c => ?_) (fun c => ?_)
        · refine ⟨by decide, raise "zero" ?_⟩
          have e : b = 0 := by simpa using c
          subst e
          exact kE "zero" rfl
        · have hb : b ≠ 0 := fun e => c (by simp [e])
          refine ⟨_, rfl, _, rfl, a, b, rfl, ?_⟩
          refine ⟨fun σ H' => H' = H ∧ ∃ c : Int, σ = [some (.ref x), some (.int a), some (.int b), some (.int c)] ∧ (c = (Int.gcd a b : Int) ∧ 0 < b ∨ c = -(Int.gcd a b : Int) ∧ b < 0), ?_, ?_⟩
          · refine ⟨_, rfl, _, _, rfl, rfl, _, rfl, ?_⟩
            refine ite2 (fun c1 => ?_) (fun c1 => ?_)
            · refine ⟨_, rfl, _, rfl, rfl, _, rfl, .inr ⟨rfl, of_decide_eq_true c1⟩⟩
            · have c2 : ¬ b < 0 := fun e => c1 (decide_eq_true e)
              exact ⟨rfl, _, rfl, .inl ⟨rfl, by omega⟩⟩
          · rintro σ H' ⟨rfl, g, rfl, hg⟩
            have L := low_of hb hg
            have hgb : Int.gcd a b ≤ b.natAbs := Nat.le_of_dvd (by omega) (Int.gcd_dvd_natAbs_right ..)
            have hgp : 0 < Int.gcd a b := Int.gcd_pos_of_ne_zero_right a hb
            have cz : CDivZ a g := ⟨by omega, by have := hs b rfl; omega⟩
            refine ⟨_, rfl, _, rfl, _, _, rfl, rfl, cz, _, rfl, x, C, dx, [], rfl, hx, T.cl, T.nT, (by show 0 < 1000; decide), ?_⟩
            refine ⟨_, rfl, _, rfl, _, _, rfl, rfl, cz, _, rfl, x, C, dx, _, rfl, upd_same, T.cl, T.nB, (by show 1 < 1000; decide), ?_⟩
            exact kQ a b rfl rfl hb _ _ _ L ⟨dx, upd_same⟩ (But.refl x _).upd.upd
end
end Sq

namespace Sq
open PySem L2 PyProof.Rows
/-- C(..) in a try's body: what leaves is wished for at the slots -/
def tMkS (C : Addr) (sp : Sp) (dvs : List V) (W : L2.St → XK) (t : TA) : TE := fun σ H Q => t σ H fun vs H1 => ∀ y dy, H1 y = none → H1 dy = none → dy ≠ y →
  sp (.ref y :: (vs ++ dvs)) (upd (upd H1 dy (.own y)) y (.ins C dy [])) (fun v H2 => v = .non ∧ Q (.ref y) H2) (W σ)
theorem pe_mkS {X : Cx} {CX : CXT} {k : Nat} {f C : Addr} {fd : FuncData} {ps : List Str} {sp : Sp} {dvs : List V} {ds : List Value} {W : L2.St → XK} {x : Str} {p pos : Pos} {e : Expr} {es : List Expr} {t : TA}
    (M : Mk X.K C f) (G : FnOk X.prog X.w X.K X.mg X.base CX k f fd ps sp) (room : Room (k + 1) X.A) (gl : Gl X x) (mx : X.mg x = some (.ref C)) (bi : Binds X.K fd ps ds) (dv : Vals dvs ds) (ok : ∀ σ, PassesAt CX X σ (W σ))
    (ha : PA X (e :: es) t) (nd : (x == ("__debug__" : Str)) = false := by decide) (st : starEach (e :: es) X.env = (false, eval e X.env) :: starEach es X.env := by rfl)
    (pl : (backTo pos (starEach es X.env)).any (·.1) = false := by rfl) : PE X (.Call (.Name x p) (e :: es) [] pos) (tMkS C sp dvs W t) := by
  refine ⟨fun pins s σ H Q I h => wpAny_Call_Name_kw (ld_glob I gl mx (PySem.W.callWith_K (h₀ := X.base) I.ok.mod.kin M.kp (thn (ha.run pos pins s σ H _ I h) fun us s1 hh => ?_) st pl) nd)⟩
  obtain ⟨vs, H1, I1, r, q⟩ := hh
  refine ⟨I1.kIn, ?_⟩
  have n1 : H1 (s1.heap.objs.size + 1) = none := I1.hok.fresh (Nat.le_succ _)
  have n0 : H1 s1.heap.objs.size = none := I1.hok.fresh (Nat.le_refl _)
  have want := q _ _ n1 n0 (Nat.ne_of_lt (Nat.lt_succ_self _))
  have J := Inv.made (C := C) I1
  have rr : Vals (V.ref (s1.heap.objs.size + 1) :: (vs ++ dvs)) (Value.ref (s1.heap.objs.size + 1) :: (us ++ ds)) := Paired.cons rfl (Vals.append r dv)
  have lens : (Value.ref (s1.heap.objs.size + 1) :: us ++ ds).length = ps.length := (rr.length.symm.trans (G.len _ _ _ _ want))
  have run := G.run _ X.stack _ _ ⟨Value.ref (s1.heap.objs.size + 1) :: us, []⟩ (Value.ref (s1.heap.objs.size + 1) :: (us ++ ds)) _ _ (W σ) (room.make C us []) (J.env0.make C us []) (bi _ (Value.ref (s1.heap.objs.size + 1) :: us) J.kIn lens) rr want
  refine wpAny_call (make_map (f := f) I1.kIn M.makes M.init (beq_iff_eq.mp M.fn) (codeAny_mono run fun res s2 out => ?_))
  cases res with
  | error er => exact ok σ pins _ _ er s2 J out
  | ok flow =>
    cases flow with
    | ret val =>
      obtain ⟨v, H3, J3, rv, ev, z⟩ := J.after out
      cases ev
      exact ⟨rv, V.ref (s1.heap.objs.size + 1), H3, J3, rfl, z⟩
    | next => cases out
    | brk => cases out
    | cont => cases out
/-- isinstance(e, c), e the caught error with its own dict -/
structure EIx (K : PySem.W.Frag) (D : Addr) : Prop where
  hcl : (PySem.W.clsIn K D).isSome = true
  hga : PySem.W.findIn K (.ref D) "__getattribute__" = some (some (.builtin "BaseException.__getattribute__"))
  hgt : PySem.W.findIn K (.ref D) "__getattr__" = some none
  hsub : PySem.W.subIn K (.ref D) (.type "BaseException") = some true
  ha : PySem.W.findIn K (.ref D) "__class__" = some (some (.builtin "object.__class__"))
  hn : PySem.W.specialIn K (.builtin "object.__class__") "__get__" = some (some (.builtin "getset_descriptor.__get__"))
  htk : PySem.W.takesIn K (.builtin "object.__class__") = some true
  hm : PySem.W.mroIn K D (.type "object") = some true
def rIsX (K : PySem.W.Frag) (D a : Addr) (cls : Value) (d : Option Addr) : List V → Hp → VK → Prop := fun xs H Q => ∃ (c : V) (cv : Value) (b : Bool) (dd : Addr) (fs : List (Str × V)), xs = [.ref a, c] ∧ ClsV c cv ∧ PySem.W.kitOne K (.ref D) cv = some b ∧
  cls = .ref D ∧ d = some dd ∧ H dd = some (.xd fs) ∧ Q (.bl b) H
theorem call_isX {X : Cx} {a D : Addr} {oe : Obj} {cls : Value} {d : Option Addr} {pn : List (Addr × Obj)} (C : EIx X.K D) (hz : Zc cls d oe) (hf : ∃ vs, oe.data = .fields vs) : CallR (X.suite a ((a, oe) :: pn)) (.builtin "isinstance") (rIsX X.K D a cls d) := by
  intro pins s σ H xs us Q I r h
  obtain ⟨c, cv, b, dd, fs, rfl, hcv, e, ec, ed, hd, q⟩ := h
  obtain ⟨x1, x2, e1, r1, r2⟩ : ∃ x1 x2, us = [x1, x2] ∧ RelV (.ref a) x1 ∧ RelV c x2 := by
    cases r with
    | cons rx rr =>
      cases rr with
      | cons rt rn =>
        cases rn
        exact ⟨_, _, rfl, rx, rt⟩
  subst e1
  have e1 : x1 = Value.ref a := r1
  subst e1
  have e2 := hcv.eq r2
  subst e2
  obtain ⟨hget, _⟩ := I.pin (a, oe) (List.mem_append.mpr (.inl List.mem_cons_self))
  obtain ⟨vs, hv⟩ := hf
  obtain ⟨mA, hns, _⟩ := (show ObjOk X.prog X.w H s.heap dd (.xd fs) from I.hok dd _ hd)
  obtain ⟨od, ho, _⟩ := lookIn_ns hns
  have J : PySem.W.InstAt s.heap a oe D (some od) := ⟨hget, hz.1.trans ec, by unfold PySem.W.notCls; rw [hv], by rw [hz.2, ed]; exact ho⟩
  exact PySem.W.kia_one (PySem.W.kitx_exc C.hcl C.hga C.hgt C.hsub C.ha C.hn C.htk C.hm) I.kIn J e (fun z => nomatch z) fun tk => ⟨.bl b, H, I.kept (t' := tk) fun _ _ z => z, rfl, q⟩
structure ITy (K : PySem.W.Frag) (C : Addr) : Prop where
  ha : PySem.W.findIn K (.ref C) "__class__" = some (some (.builtin "object.__class__"))
  hn : PySem.W.specialIn K (.builtin "object.__class__") "__get__" = some (some (.builtin "getset_descriptor.__get__"))
  htk : PySem.W.takesIn K (.builtin "object.__class__") = some true
  hm : PySem.W.mroIn K C (.type "object") = some true
  kI : PySem.W.kitOne K (.ref C) (.type "int") = some false
  kB : PySem.W.kitOne K (.ref C) (.type "bool") = some false
theorem kit_self {K : PySem.W.Frag} {C : Addr} : PySem.W.kitOne K (.ref C) (.ref C) = some true := by
  unfold PySem.W.kitOne
  rw [if_pos (by simp)]
theorem RatAt.ty {K : PySem.W.Frag} {C : Addr} {H : Hp} {x : Addr} {t u : Int} (T : CTx K C) (Y : ITy K C) (h : RatAt C H x t u) : TyX K H (.ref x) (.ref C) := by
  obtain ⟨dx, h⟩ := h
  exact .base (.ins h T.cl Y.ha Y.hn Y.htk Y.hm)
theorem RatAt.isTy {K : PySem.W.Frag} {C : Addr} {H : Hp} {x : Addr} {t u : Int} (T : CTx K C) (Y : ITy K C) (h : RatAt C H x t u) : IsTy K H (.ref x) := ⟨_, _, _, h.ty T Y, Y.kI, Y.kB, rfl⟩
theorem mul_ok {a b : Int} (ha : a.natAbs < 2 ^ 4000) (hb : b.natAbs < 2 ^ 4000) : CMulW a b := wide_mul ha hb (by decide) (by decide) (by decide)
theorem IsTy.same {K : PySem.W.Frag} {H H' : Hp} {x : V} (s : Same H H') (h : IsTy K H x) : IsTy K H' x := by
  obtain ⟨t, b1, b2, ty, h1, h2, h3⟩ := h
  refine ⟨t, b1, b2, ?_, h1, h2, h3⟩
  cases ty with
  | base b =>
    refine .base ?_
    cases b with
    | non => exact .non
    | bl => exact .bl _
    | int => exact .int _
    | str => exact .str _
    | flt => exact .flt _
    | lst e => exact .lst (s _ _ e)
    | frz e => exact .frz (s _ _ e)
    | tup e => exact .tup (s _ _ e)
    | dK e => exact .dK (s _ _ e)
    | dT e => exact .dT (s _ _ e)
    | ins e c1 c2 c3 c4 c5 => exact .ins (s _ _ e) c1 c2 c3 c4 c5
  | byt => exact .byt _
  | set e => exact .set (s _ _ e)
  | kList e c => exact .kList e c
  | kTuple e c => exact .kTuple e c
  | kDict e c => exact .kDict e c
  | fTuple e => exact .fTuple (s _ _ e)
  | fDict e => exact .fDict (s _ _ e)
theorem same_made {H H1 : Hp} {x dx C : Addr} (nx : H x = none) (nd : H dx = none) (k : But x (upd (upd H dx (.own x)) x (.ins C dx [])) H1) : Same H H1 := fun b o e =>
  k b o (by rw [upd_ne (ne_of_none e nx), upd_ne (ne_of_none e nd)]; exact e) (ne_of_none e nx)
theorem same_pair {H : Hp} {x dx C : Addr} (nx : H x = none) (nd : H dx = none) (ne : dx ≠ x) : Same H (upd (upd H dx (.own x)) x (.ins C dx [])) := same_new (same_new (Same.refl H) nd) ((upd_ne ne.symm).trans nx)
theorem due_none {a b : Int} (hb : b ≠ 0) : dueW (.int a) (.int b) = none := by
  unfold dueW
  have : ¬ (V.int b = V.int 0) := fun e => hb (V.int.inj e)
  simp [isI, this]
theorem due_top {u v : V} (h : isI u = false) : dueW u v = some ("top" : Str) := by
  unfold dueW
  simp [h]
theorem due_bottom {a : Int} {v : V} (h : isI v = false) : dueW (.int a) v = some ("bottom" : Str) := by
  unfold dueW
  rw [if_pos (show isI (.int a) = true from rfl), h, if_neg Bool.false_ne_true]
theorem mk_go {K : PySem.W.Frag} {C CN x dx : Addr} {H : Hp} {a b : Int} {Q : VK} {E : XK} (hb : b ≠ 0) (sb : b.natAbs < 2 ^ 8000) (nx : H x = none) (ndx : H dx = none) (_ne : dx ≠ x) (k : ∀ t u H', Low a b t u → RatAt C H' x t u → Same H H' → Q .non H') :
    spRatioInit K C CN [.ref x, .int a, .int b] (upd (upd H dx (.own x)) x (.ins C dx [])) Q E :=
  ⟨x, dx, _, _, rfl, upd_same, .int _, .int _, fun b' e => (by cases e; exact sb), fun z hz => (by rw [due_none hb] at hz; cases hz), fun a' b' ea eb _ t w H' L R Bt => by
    cases ea
    cases eb
    exact k t w H' L R (same_made nx ndx Bt)⟩
def spLaw (K : PySem.W.Frag) : Sp := fun vs H Q _ => ∃ (a : Addr) (ns : List Int), vs = [.ref a] ∧ SqL K H a (ns.map V.int) ∧ ns.length ≤ 63 ∧ ∀ H', Q (.bl true) H'
end Sq

namespace Sq
open PySem L2 PyProof.Rows
/-- o.m(..) in a try's body: what leaves is wished for at the slots -/
def tMtS (C : Addr) (m : Str) (sp : Sp) (W : L2.St → XK) (to : TE) (t : TA) : TE := fun σ H Q => to σ H fun x H1 => ∃ a dy fs, x = .ref a ∧ H1 a = some (.ins C dy fs) ∧ fs.lookup m = none ∧ t σ H1 fun vs H2 => sp (x :: vs) H2 Q (W σ)
theorem pe_mtS {X : Cx} {CX : CXT} {k : Nat} {f C : Addr} {fd : FuncData} {ps : List Str} {sp : Sp} {W : L2.St → XK} {m : Str} {apos pos : Pos} {o e : Expr} {es : List Expr} {to : TE} {t : TA} {pl : Sem Bool}
    (ho : PE X o to) (cl : Cls X.K C) (me : Meth X.K C m f) (G : FnOk X.prog X.w X.K X.mg X.base CX k f fd ps sp) (room : Room k X.A) (bi : Binds X.K fd ps []) (ok : ∀ σ, PassesAt CX X σ (W σ)) (ha : PA X (e :: es) t)
    (st : starEach (e :: es) X.env = (false, eval e X.env) :: starEach es X.env := by rfl) (np : (backTo pos (starEach es X.env)).any (·.1) = false := by rfl)
    (ev : eval (.Call (.Attribute o m apos) (e :: es) [] pos) X.env = (do let ov ← eval o X.env; standAt apos.atName; let (f, first) ← holding [ov] (getMethod ov m pl); callWith pos f first (backTo pos (starEach (e :: es) X.env)) (backToKw pos (keywordEach [] X.env))) := by rfl) :
    PE X (.Call (.Attribute o m apos) (e :: es) [] pos) (tMtS C m sp W to t) := by
  refine ⟨fun pins s σ H Q I h => PySem.W.methodCall_KW (pl := pl) (thn (ho.run pins s σ H _ I h) fun u s1 hh => ?_) ev⟩
  obtain ⟨x, H1, I1, rx, a, dy, fs, ex, ea, l, q⟩ := hh
  cases ex
  cases rx
  refine getmeth_ok I1 ea cl me l (PySem.W.callWith_K (first := [.ref a]) (h₀ := X.base) I.ok.mod.kin me.kp (thn (ha.run pos pins s1 σ H1 _ I1 q) fun us s2 h2 => ?_) st np)
  obtain ⟨vs, H2, I2, r, q2⟩ := h2
  exact ⟨I2.kIn, run_fnS (us := .ref a :: us) (vs := .ref a :: vs) G room bi (ok σ) I2 (.cons rfl r) q2⟩
/-! ### sizes by powers of two -/
def B (n : Nat) (x : Int) : Prop := x.natAbs < 2 ^ n
theorem B_le {n m : Nat} {x : Int} (h : B n x) (hn : n ≤ m) : B m x := Nat.lt_of_lt_of_le h (Nat.pow_le_pow_right (by decide) hn)
theorem B_mul {n m : Nat} {x y : Int} (h : B n x) (h' : B m y) : B (n + m) (x * y) := wide_lt h h'
theorem B_add {n m : Nat} {x y : Int} (h : B n x) (h' : B m y) : B (max n m + 1) (x + y) := by
  have a := B_le h (Nat.le_max_left n m)
  have b := B_le h' (Nat.le_max_right n m)
  unfold B at *
  rw [Nat.pow_succ]
  omega
theorem B_neg {n : Nat} {x : Int} (h : B n x) : B n (-x) := by
  unfold B at *
  omega
theorem B_sub {n m : Nat} {x y : Int} (h : B n x) (h' : B m y) : B (max n m + 1) (x - y) := by
  have := B_add h (B_neg h')
  rw [← Int.sub_eq_add_neg] at this
  exact this
theorem B_abs {n : Nat} {x y : Int} (h : B n x) (hy : y.natAbs ≤ x.natAbs) : B n y := Nat.lt_of_le_of_lt hy h
theorem mulB {n m : Nat} {x y : Int} (h : B n x) (h' : B m y) (hs : n + m + 2 ≤ 1000000) : CMulW x y := wide_mul (B_le h (Nat.le_succ n)) (B_le h' (Nat.le_succ m)) (Nat.succ_pos _) (Nat.succ_pos _) (by omega)
end Sq

namespace Sq
open PySem L2 PyProof.Rows
theorem cmpBack_of {X : Cx} {pins : List (Addr × Obj)} {σ : L2.St} {Q : VK} {u : Value} {s' : Shared} (h : EP X pins σ Q u s') : PySem.W.CmpBack (EP X pins σ Q) u s' := by
  cases u with
  | notImplemented =>
    obtain ⟨v, _, _, r, _⟩ := h
    cases v with
    | non => cases r
    | bl _ => cases r
    | ref _ => cases r
    | ty _ => cases r
    | int _ => obtain ⟨_, e⟩ := r; cases e
    | str _ => obtain ⟨_, e⟩ := r; cases e
    | byt _ => obtain ⟨_, e⟩ := r; cases e
    | flt _ => obtain ⟨_, e⟩ := r; cases e
  | _ => exact h
/-- an operator of an own class, found by its name -/
structure OwnOp (K : PySem.W.Frag) (C f : Addr) (nm : Str) : Prop where
  at_ : PySem.W.findIn K (.ref C) nm = some (some (.ref f))
  fn : PySem.W.isFn K (.ref f) = true
section
variable {X : Cx} {CX : CXT} {k : Nat} {f C : Addr} {fd : FuncData} {ps : List Str} {sp : Sp} {E : XK}
theorem inst_at {pins : List (Addr × Obj)} {σ : L2.St} {H : Hp} {s : Shared} {a C dx : Addr} {fs : List (Str × V)} (I : Inv X pins σ H s) (h : H a = some (.ins C dx fs)) : ∃ od, PySem.W.InstAt s.heap a (PySem.W.instObj C dx) C (some od) := by
  obtain ⟨mA, J, _⟩ := ins_get I.hok h
  obtain ⟨od, J, _⟩ := J.look
  exact ⟨od, J⟩
/-- a + b, both of the class at C -/
def rOwn2 (C : Addr) (sp : Sp) (E : XK) : R2 := fun x y H Q => ∃ a b dx dy fs gs, x = .ref a ∧ y = .ref b ∧ H a = some (.ins C dx fs) ∧ H b = some (.ins C dy gs) ∧ sp [x, y] H Q E
theorem op_own2 {op : Operator} (hc : PySem.W.selfFirst X.K C = true) (O : OwnOp X.K C f (PySem.dunder op.info.2)) (G : FnOk X.prog X.w X.K X.mg X.base CX k f fd ps sp) (hr : Room k X.A) (hb : Binds X.K fd ps []) (hx : Passes CX X E) :
    OpR X (binaryOp op) (rOwn2 C sp E) := by
  rintro pins s σ H x y v u Q I rx ry ⟨a, b, dx, dy, fs, gs, rfl, rfl, ha, hb', hsp⟩
  cases rx
  cases ry
  obtain ⟨od, J⟩ := inst_at I ha
  obtain ⟨od', J'⟩ := inst_at I hb'
  obtain ⟨m, hF⟩ := I.fr
  refine PySem.W.binop_K hF I.ok.mod.kin J J'.type hc O.at_ O.fn ?_
  exact wpAny_mono (run_fn (us := [.ref a, .ref b]) (vs := [.ref a, .ref b]) G hr hb .nil hx I (.cons rfl (.cons rfl .nil)) hsp) (fun _ _ h => cmpBack_of h) fun _ _ z => z
/-- a + i, a of the class at C, i an int -/
structure IntOp (K : PySem.W.Frag) (C : Addr) (nm : String) : Prop where
  h1 : ∃ fo, PySem.W.findIn K (.type "int") (PySem.dunder nm) = some fo
  h2 : ∃ ro, PySem.W.findIn K (.type "int") (dunderR nm) = some ro
  hsub : PySem.W.subIn K (.type "int") (.ref C) = some false
  hr : ∃ g : Addr, PySem.W.findIn K (.ref C) (dunderR nm) = some (some (.ref g))
def rOwnI (C : Addr) (sp : Sp) (E : XK) : R2 := fun x y H Q => ∃ a i dx fs, x = .ref a ∧ y = .int i ∧ H a = some (.ins C dx fs) ∧ sp [x, y] H Q E
theorem op_ownI {op : Operator} (hc : PySem.W.selfFirst X.K C = true) (O : OwnOp X.K C f (PySem.dunder op.info.2)) (N : IntOp X.K C op.info.2) (G : FnOk X.prog X.w X.K X.mg X.base CX k f fd ps sp) (hr : Room k X.A) (hb : Binds X.K fd ps []) (hx : Passes CX X E) :
    OpR X (binaryOp op) (rOwnI C sp E) := by
  rintro pins s σ H x y v u Q I rx ry ⟨a, i, dx, fs, rfl, rfl, ha, hsp⟩
  cases rx
  obtain ⟨t, rfl⟩ := ry
  obtain ⟨od, J⟩ := inst_at I ha
  obtain ⟨m, hF⟩ := I.fr
  obtain ⟨fo, h1⟩ := N.h1
  obtain ⟨ro, h2⟩ := N.h2
  obtain ⟨g, h3⟩ := N.hr
  refine PySem.W.ksp_binT (T := "int") hF I.ok.mod.kin J rfl hc O.at_ O.fn h3 (.inr ⟨g, rfl⟩) h1 h2 N.hsub ?_
  exact wpAny_mono (run_fn (us := [.ref a, .int i t]) (vs := [.ref a, .int i]) G hr hb .nil hx I (.cons rfl (.cons ⟨t, rfl⟩ .nil)) hsp) (fun _ _ h => cmpBack_of h) fun _ _ z => z
/-- -a -/
def rOwn1 (C : Addr) (sp : Sp) (E : XK) : V → Hp → VK → Prop := fun x H Q => ∃ a dx fs, x = .ref a ∧ H a = some (.ins C dx fs) ∧ sp [x] H Q E
theorem un_own (O : OwnOp X.K C f "__neg__") (G : FnOk X.prog X.w X.K X.mg X.base CX k f fd ps sp) (hr : Room k X.A) (hb : Binds X.K fd ps []) (hx : Passes CX X E) : UnR X (unaryOp .USub) (rOwn1 C sp E) := by
  rintro pins s σ H x v Q I rx ⟨a, dx, fs, rfl, ha, hsp⟩
  cases rx
  obtain ⟨od, J⟩ := inst_at I ha
  obtain ⟨m, hF⟩ := I.fr
  refine PySem.W.ksp_neg hF I.ok.mod.kin J O.at_ O.fn ?_
  exact run_fn (us := [.ref a]) (vs := [.ref a]) G hr hb .nil hx I (.cons rfl .nil) hsp
end
end Sq
namespace Sq
open PySem L2 PyProof.Rows
/-- a built-in operator of ints, upon an object that holds no int: NotImplemented -/
def SNot (a : Addr) : PySem.Spec := fun _ R s => (∃ o, s.heap.get? a = some o ∧ o.data = .plain) ∧ R (.ok (.ret .notImplemented)) s
theorem bin_not {nm : String} {g : Int → Int → Sem Fin} {i : Int} {t : Tok} {a : Addr} : Meets (Builtin.Int.intBinary nm g false ⟨[.int i t, .ref a], []⟩) (SNot a) := by
  rintro prog w A R s ⟨⟨o, ho, hd⟩, q⟩
  unfold Builtin.Int.intBinary
  refine wpAny_bind (wpAny_of_eq (a := ((Value.int i t : Value), [Value.ref a])) (by first | rfl | (simp only [slotArgs]; rfl)) ?_)
  refine wpAny_bind (wpAny_of_eq (a := i) (by rfl) ?_)
  refine wpAny_bind (wpAny_bind (wpAny_load ho ?_))
  rw [hd]
  exact wpAny_pure (wpAny_bind (wpAny_rule (wpAny_pure q)))
section
variable {X : Cx} {CX : CXT} {k : Nat} {f C : Addr} {fd : FuncData} {ps : List Str} {sp : Sp} {E : XK}
/-- i + a, i an int, a of the class at C -/
def rIOwn (C : Addr) (sp : Sp) (E : XK) : R2 := fun x y H Q => ∃ a i dx fs, x = .int i ∧ y = .ref a ∧ H a = some (.ins C dx fs) ∧ sp [y, x] H Q E
theorem bin1_right {M : Model} {A : Around} {E : Value → Shared → Prop} {s : Shared} {K : PySem.W.Frag} {a C f : Addr} {ox : Obj} {od : Option Obj} {nm : String} {i : Int} {t : Tok} {id : String} {Q : Option Value → Shared → Prop}
    (Y : K.In s.heap) (I : PySem.W.InstAt s.heap a ox C od) (hc : PySem.W.selfFirst K C = true) (fT : fillsNumberSlot (.type "int") nm = pure true) (sl : Slot "int" (PySem.dunder nm) id)
    (h0 : PySem.W.findIn K (.ref C) (PySem.dunder nm) = some (some (.ref f))) {g : Addr} (hs : PySem.W.findIn K (.ref C) (dunderR nm) = some (some (.ref g))) (hf : PySem.W.isFn K (.ref g) = true) (hsub : PySem.W.subIn K (.ref C) (.type "int") = some false)
    (hcall : wpAny M A (call (.builtin id) [.int i t, .ref a]) (fun v s' => v = .notImplemented ∧ s' = s) E s)
    (h : wpAny M A (call (.ref g) [.ref a, .int i t]) (PySem.W.CmpBack fun v s' => Q (some v) s') E s) : wpAny M A (binaryOp1 nm (.int i t) (.ref a)) Q E s := by
  obtain ⟨cd, rest, hcd, hm⟩ := PySem.W.ksp_first hc
  have L1 : PySem.W.Looks M s.heap (typeOf (.ref a)) (.ref C) := I.type
  have L2 : PySem.W.Looks M s.heap (fillsNumberSlot (.ref C) nm) true := PySem.W.fills_K Y hcd hm h0
  have L3 : PySem.W.Looks M s.heap (isSubtype (.ref C) (.type "int")) false := PySem.W.looks_subIn Y hsub
  have two : wpAny M A (tryMethod (.ref a) (dunderR nm) (.int i t)) (fun r s' => ∃ v, r = some v ∧ Q (some v) s') E s := PySem.W.ksp_try Y I hs hf h
  simp only [binaryOp1]
  refine wpAny_bind (wpAny_of_eq (a := Value.type "int") rfl (wpAny_bind (L1.here (wpAny_bind (wpAny_of_eq fT ?_)))))
  have ne : (Value.type "int" == Value.ref C) = false := Bool.eq_false_iff.mpr fun q => by cases beq_iff_eq.mp q
  simp only [ne, Bool.false_eq_true, if_false]
  refine wpAny_bind (L2.here ?_)
  simp only [Bool.and_self, if_true]
  refine wpAny_bind (L3.here ?_)
  have hpy : numberSlotInPython (.type "int") nm = pure false := rfl
  simp only [Bool.false_eq_true, if_false, pure_bind, Bool.not_false, Bool.and_self, if_true, hpy]
  refine wpAny_bind (m := tryMethod (.int i t) _ _) ?_
  have hT : s.TypeIs (.int i t) "int" := typeIs_int s i t
  unfold tryMethod
  refine wpAny_bind (wpAny_callSpecial?_slot hT sl (wpAny_mono hcall (fun v s1 h1 => ?_) fun _ _ z => z))
  obtain ⟨rfl, rfl⟩ := h1
  refine wpAny_pure (wpAny_bind (wpAny_mono two (fun r s2 h2 => ?_) fun _ _ z => z))
  obtain ⟨v, rfl, q⟩ := h2
  exact wpAny_bind (wpAny_rule (wpAny_pure q))
end
end Sq
namespace Sq
open PySem L2 PyProof.Rows
/-- what the class must say for i + a -/
structure RevOp (K : PySem.W.Frag) (C f g : Addr) (nm : String) : Prop where
  h0 : PySem.W.findIn K (.ref C) (PySem.dunder nm) = some (some (.ref f))
  hs : PySem.W.findIn K (.ref C) (dunderR nm) = some (some (.ref g))
  hf : PySem.W.isFn K (.ref g) = true
  hsub : PySem.W.subIn K (.ref C) (.type "int") = some false
/-- the built-in side of an operator of ints -/
structure BltOp (op : Operator) : Prop where
  fT : fillsNumberSlot (.type "int") op.info.2 = pure true
  sl : ∃ id B, Slot "int" (PySem.dunder op.info.2) id ∧ entryFor table id = some B ∧ (∀ a b : Value, argsOk id ⟨[a, b], []⟩) ∧ ∃ nm g, ∀ args, B args = Builtin.Int.intBinary nm g false args
theorem blt_add : BltOp .Add := ⟨F.fills_int_add, _, _, F.slot_int_add, F.entry_int_add, F.args_int_add_2, _, _, fun _ => rfl⟩
theorem blt_sub : BltOp .Sub := ⟨F.fills_int_sub, _, _, F.slot_int_sub, F.entry_int_sub, F.args_int_sub_2, _, _, fun _ => rfl⟩
theorem blt_mul : BltOp .Mult := ⟨F.fills_int_mul, _, _, F.slot_int_mul, F.entry_int_mul, F.args_int_mul_2, _, _, fun _ => rfl⟩
section
variable {X : Cx} {CX : CXT} {k : Nat} {f C : Addr} {fd : FuncData} {ps : List Str} {sp : Sp} {E : XK}
theorem bin_of1 {M : Model} {A : Around} {E : Value → Shared → Prop} {s : Shared} {op : Operator} {a b : Value} {Q : Value → Shared → Prop} (h : wpAny M A (binaryOp1 op.info.2 a b) (fun r s' => ∃ v, r = some v ∧ Q v s') E s) : wpAny M A (binaryOp op a b) Q E s := by
  rcases hi : op.info with ⟨sym, nm⟩
  rw [hi] at h
  simp only [binaryOp, hi]
  refine wpAny_holding (wpAny_bind (wpAny_mono h (fun r s' hr => ?_) fun _ _ z => z))
  obtain ⟨v, rfl, q⟩ := hr
  exact wpAny_pure q
theorem op_Iown {op : Operator} {g : Addr} (hc : PySem.W.selfFirst X.K C = true) (B : BltOp op) (R : RevOp X.K C f g op.info.2) (G : FnOk X.prog X.w X.K X.mg X.base CX k g fd ps sp) (hr : Room k X.A) (hb : Binds X.K fd ps []) (hx : Passes CX X E) :
    OpR X (binaryOp op) (rIOwn C sp E) := by
  rintro pins s σ H x y v u Q I rx ry ⟨a, i, dx, fs, rfl, rfl, ha, hsp⟩
  cases ry
  obtain ⟨t, rfl⟩ := rx
  obtain ⟨od, J⟩ := inst_at I ha
  obtain ⟨id, Bf, sl, en, ar, nm, gg, hB⟩ := B.sl
  refine bin_of1 (bin1_right I.kIn J hc B.fT sl R.h0 R.hs R.hf R.hsub ?_ ?_)
  · refine call_meets sl (typeIs_int s i t) en (ar _ _) (S := SNot a) ?_ ⟨⟨_, J.at_, rfl⟩, rfl, rfl⟩
    rw [hB]
    exact bin_not
  · refine wpAny_mono (run_fn (us := [.ref a, .int i t]) (vs := [.ref a, .int i]) G hr hb .nil hx I (.cons rfl (.cons ⟨t, rfl⟩ .nil)) hsp) (fun u s' h => ?_) fun _ _ z => z
    have c := cmpBack_of h
    cases u with
    | notImplemented => exact c.elim
    | _ => exact ⟨_, rfl, c⟩
/-- the class has only itself and object above it -/
structure MroOk (K : PySem.W.Frag) (C : Addr) (cd : ClassData) : Prop where
  hc : PySem.W.clsIn K C = some cd
  hm : cd.mro = [.ref C, .type "object"]
structure NoIn (K : PySem.W.Frag) (C : Addr) (nm : String) : Prop where
  h1 : PySem.W.findIn K (.ref C) (dunderI nm) = some none
  h2 : PySem.W.findIn K (.type "object") (dunderI nm) = some none
theorem no_inplace {K : PySem.W.Frag} {M : Model} {h : Heap} {cd : ClassData} {nm : String} {add : Bool} (Y : K.In h) (O : MroOk K C cd) (N : NoIn K C nm) : PySem.W.Looks M h (fillsInplaceSlot (.ref C) nm add) false := by
  intro A Q E s kk q
  have Lm : PySem.W.Looks M h (mroOf (.ref C)) cd.mro := (PySem.W.looks_clsIn Y O.hc).andThen (f := fun cd => pure cd.mro) .now
  have L1 : PySem.W.Looks M h (typeLookup (.ref C) (dunderI nm)) none := PySem.W.looks_findIn Y N.h1
  have L2 : PySem.W.Looks M h (typeLookup (.type "object") (dunderI nm)) none := PySem.W.looks_findIn Y N.h2
  unfold fillsInplaceSlot
  refine wpAny_bind (Lm A _ E s kk ?_)
  rw [O.hm, List.anyM_cons]
  refine wpAny_bind (wpAny_bind (L1 A _ E s kk (wpAny_pure ?_)))
  rw [if_neg Bool.false_ne_true, List.anyM_cons]
  refine wpAny_bind (wpAny_bind (L2 A _ E s kk (wpAny_pure ?_)))
  rw [if_neg Bool.false_ne_true, List.anyM_nil]
  exact wpAny_pure q
theorem inplace_of1 {M : Model} {A : Around} {E : Value → Shared → Prop} {s : Shared} {K : PySem.W.Frag} {op : Operator} {a : Addr} {b : Value} {ox : Obj} {od : Option Obj} {cd : ClassData} {Q : Value → Shared → Prop} (Y : K.In s.heap) (I : PySem.W.InstAt s.heap a ox C od) (O : MroOk K C cd) (N : NoIn K C op.info.2)
    (h : wpAny M A (binaryOp1 op.info.2 (.ref a) b) (fun r s' => ∃ v, r = some v ∧ Q v s') E s) : wpAny M A (inplaceOp op (.ref a) b) Q E s := by
  have L1 : PySem.W.Looks M s.heap (typeOf (.ref a)) (.ref C) := I.type
  have L2 : PySem.W.Looks M s.heap (fillsInplaceSlot (.ref C) op.info.2 (op == .Add)) false := no_inplace Y O N
  unfold inplaceOp
  refine wpAny_holding (wpAny_bind (L1.here (wpAny_bind (L2.here ?_))))
  simp only [Bool.false_eq_true, if_false]
  refine wpAny_bind (wpAny_mono h (fun r s' hr => ?_) fun _ _ z => z)
  obtain ⟨v, rfl, q⟩ := hr
  exact wpAny_pure q
theorem bin1_two {M : Model} {A : Around} {E : Value → Shared → Prop} {s : Shared} {K : PySem.W.Frag} {a : Addr} {b : Value} {ox : Obj} {od : Option Obj} {nm : String} {Q : Option Value → Shared → Prop} (Y : K.In s.heap) (I : PySem.W.InstAt s.heap a ox C od)
    (hb : PySem.W.Looks M s.heap (typeOf b) (.ref C)) (hc : PySem.W.selfFirst K C = true) (O : OwnOp K C f (PySem.dunder nm)) (h : wpAny M A (call (.ref f) [.ref a, b]) (PySem.W.CmpBack fun v s' => Q (some v) s') E s) : wpAny M A (binaryOp1 nm (.ref a) b) Q E s := by
  obtain ⟨cd, rest, hcd, hm⟩ := PySem.W.ksp_first hc
  have L1 : PySem.W.Looks M s.heap (typeOf (.ref a)) (.ref C) := I.type
  have L2 : PySem.W.Looks M s.heap (fillsNumberSlot (.ref C) nm) true := PySem.W.fills_K Y hcd hm O.at_
  have one : wpAny M A (tryMethod (.ref a) (PySem.dunder nm) b) (fun r s' => ∃ v, r = some v ∧ Q (some v) s') E s := PySem.W.ksp_try Y I O.at_ O.fn h
  simp only [binaryOp1]
  refine wpAny_bind (L1.here (wpAny_bind (hb.here (wpAny_bind (L2.here ?_)))))
  simp only [beq_self_eq_true, if_true]
  refine wpAny_bind (wpAny_pure ?_)
  simp only [Bool.and_false, Bool.false_eq_true, if_false, Bool.false_and, pure_bind, if_true]
  refine wpAny_bind (wpAny_mono one (fun r s' hr => ?_) fun _ _ z => z)
  obtain ⟨v, rfl, q⟩ := hr
  exact wpAny_pure q
theorem bin1_int {M : Model} {A : Around} {E : Value → Shared → Prop} {s : Shared} {K : PySem.W.Frag} {a : Addr} {i : Int} {t : Tok} {ox : Obj} {od : Option Obj} {nm : String} {Q : Option Value → Shared → Prop} (Y : K.In s.heap) (I : PySem.W.InstAt s.heap a ox C od)
    (hc : PySem.W.selfFirst K C = true) (O : OwnOp K C f (PySem.dunder nm)) (N : IntOp K C nm) (h : wpAny M A (call (.ref f) [.ref a, .int i t]) (PySem.W.CmpBack fun v s' => Q (some v) s') E s) : wpAny M A (binaryOp1 nm (.ref a) (.int i t)) Q E s := by
  obtain ⟨cd, rest, hcd, hm⟩ := PySem.W.ksp_first hc
  obtain ⟨fo, h1⟩ := N.h1
  obtain ⟨ro, h2⟩ := N.h2
  obtain ⟨g, h3⟩ := N.hr
  have L1 : PySem.W.Looks M s.heap (typeOf (.ref a)) (.ref C) := I.type
  have L2 : PySem.W.Looks M s.heap (fillsNumberSlot (.ref C) nm) true := PySem.W.fills_K Y hcd hm O.at_
  have L3 : PySem.W.Looks M s.heap (fillsNumberSlot (.type "int") nm) ((fo.isSome && !isSeqSlot fo) || (ro.isSome && !isSeqSlot ro)) := PySem.W.ksp_fillsT Y h1 h2
  have L4 : PySem.W.Looks M s.heap (isSubtype (.type "int") (.ref C)) false := PySem.W.looks_subIn Y N.hsub
  have L5 : PySem.W.Looks M s.heap (numberSlotInPython (.ref C) nm) true := PySem.W.ksp_inPy Y O.at_ h3 (.inr ⟨g, rfl⟩)
  have L6 : PySem.W.Looks M s.heap (typeLookup (.type "int") (dunderR nm)) ro := PySem.W.looks_findIn Y h2
  have one : wpAny M A (tryMethod (.ref a) (PySem.dunder nm) (.int i t)) (fun r s' => ∃ v, r = some v ∧ Q (some v) s') E s := PySem.W.ksp_try Y I O.at_ O.fn h
  have ne : (Value.ref C == Value.type "int") = false := Bool.eq_false_iff.mpr fun q => by cases beq_iff_eq.mp q
  have hpy : numberSlotInPython (.type "int") nm = pure false := rfl
  simp only [binaryOp1]
  refine wpAny_bind (L1.here (wpAny_bind (wpAny_of_eq (a := Value.type "int") rfl (wpAny_bind (L2.here ?_)))))
  simp only [ne, Bool.false_eq_true, if_false]
  refine wpAny_bind (L3.here ?_)
  generalize ((fo.isSome && !isSeqSlot fo) || (ro.isSome && !isSeqSlot ro)) = right
  cases right with
  | false =>
    simp only [Bool.and_false, Bool.false_eq_true, if_false, Bool.false_and, pure_bind, if_true]
    refine wpAny_bind (wpAny_mono one (fun r s' hr => ?_) fun _ _ z => z)
    obtain ⟨v, rfl, q⟩ := hr
    exact wpAny_pure q
  | true =>
    simp only [Bool.and_self, if_true]
    refine wpAny_bind (L4.here ?_)
    simp only [Bool.false_eq_true, if_false, pure_bind, Bool.not_false, Bool.and_self, if_true]
    refine wpAny_bind (L5.here ?_)
    simp only [if_true, hpy, pure_bind, Bool.not_false]
    refine wpAny_bind (L6.here (wpAny_bind (wpAny_mono one (fun r s' hr => ?_) fun _ _ z => z)))
    obtain ⟨v, rfl, q⟩ := hr
    exact wpAny_pure q
theorem back_some {pins : List (Addr × Obj)} {σ : L2.St} {Q : VK} {u : Value} {s' : Shared} (h : EP X pins σ Q u s') : PySem.W.CmpBack (fun v s' => ∃ w, some v = some w ∧ EP X pins σ Q w s') u s' := by
  have c := cmpBack_of h
  cases u with
  | notImplemented => exact c.elim
  | _ => exact ⟨_, rfl, c⟩
theorem ip_own2 {op : Operator} {cd : ClassData} (hc : PySem.W.selfFirst X.K C = true) (M : MroOk X.K C cd) (N : NoIn X.K C op.info.2) (O : OwnOp X.K C f (PySem.dunder op.info.2)) (G : FnOk X.prog X.w X.K X.mg X.base CX k f fd ps sp) (hr : Room k X.A) (hb : Binds X.K fd ps []) (hx : Passes CX X E) :
    OpR X (inplaceOp op) (rOwn2 C sp E) := by
  rintro pins s σ H x y v u Q I rx ry ⟨a, b, dx, dy, fs, gs, rfl, rfl, ha, hb', hsp⟩
  cases rx
  cases ry
  obtain ⟨od, J⟩ := inst_at I ha
  obtain ⟨od', J'⟩ := inst_at I hb'
  exact inplace_of1 I.kIn J M N (bin1_two I.kIn J J'.type hc O (wpAny_mono (run_fn (us := [.ref a, .ref b]) (vs := [.ref a, .ref b]) G hr hb .nil hx I (.cons rfl (.cons rfl .nil)) hsp) (fun _ _ h => back_some h) fun _ _ z => z))
theorem ip_ownI {op : Operator} {cd : ClassData} (hc : PySem.W.selfFirst X.K C = true) (M : MroOk X.K C cd) (N : NoIn X.K C op.info.2) (O : OwnOp X.K C f (PySem.dunder op.info.2)) (NI : IntOp X.K C op.info.2) (G : FnOk X.prog X.w X.K X.mg X.base CX k f fd ps sp) (hr : Room k X.A) (hb : Binds X.K fd ps []) (hx : Passes CX X E) :
    OpR X (inplaceOp op) (rOwnI C sp E) := by
  rintro pins s σ H x y v u Q I rx ry ⟨a, i, dx, fs, rfl, rfl, ha, hsp⟩
  cases rx
  obtain ⟨t, rfl⟩ := ry
  obtain ⟨od, J⟩ := inst_at I ha
  exact inplace_of1 I.kIn J M N (bin1_int I.kIn J hc O NI (wpAny_mono (run_fn (us := [.ref a, .int i t]) (vs := [.ref a, .int i]) G hr hb .nil hx I (.cons rfl (.cons ⟨t, rfl⟩ .nil)) hsp) (fun _ _ h => back_some h) fun _ _ z => z))
/-- a == y by the class's own ==; y is of the class, or of a built-in class -/
def rOwnEq (K : PySem.W.Frag) (C : Addr) (sp : Sp) (E : XK) : R2 := fun x y H Q => ∃ a dx fs t, x = .ref a ∧ H a = some (.ins C dx fs) ∧ TyX K H y t ∧ PySem.W.notFirst K C t = true ∧ sp [x, y] H Q E
theorem op_ownEq (O : OwnOp X.K C f "__eq__") (G : FnOk X.prog X.w X.K X.mg X.base CX k f fd ps sp) (hr : Room k X.A) (hb : Binds X.K fd ps []) (hx : Passes CX X E) : OpR X (compareOp .Eq) (rOwnEq X.K C sp E) := by
  rintro pins s σ H x y v u Q I rx ry ⟨a, dx, fs, t, rfl, ha, hty, hn, hsp⟩
  cases rx
  obtain ⟨od, J⟩ := inst_at I ha
  obtain ⟨m, hF⟩ := I.fr
  obtain ⟨Pt, KX, hp, _⟩ := kit_of I ry hty
  show wpAny (model X.prog X.w) X.A (richCompare .Eq (.ref a) u) (EP X pins σ Q) X.xe s
  refine PySem.W.cmp_K (op := .Eq) (tb := t) hr.units0 hF I.ok.mod.kin J (KX.ty _ _ I.kIn hp) hn O.at_ O.fn ?_
  exact wpAny_mono (run_fn (us := [.ref a, u]) (vs := [.ref a, y]) G hr hb .nil hx I (.cons rfl (.cons ry .nil)) hsp) (fun _ _ h => cmpBack_of h) fun _ _ z => z
end
end Sq

namespace Sq
open PySem L2 PyProof.Rows
/-- one or the other rule -/
theorem op_or {X : Cx} {f : Value → Value → Sem Value} {r1 r2 : R2} (h1 : OpR X f r1) (h2 : OpR X f r2) : OpR X f (fun x y H Q => r1 x y H Q ∨ r2 x y H Q) := by
  rintro pins s σ H x y v u Q I rx ry (h | h)
  · exact h1 pins s σ H x y v u Q I rx ry h
  · exact h2 pins s σ H x y v u Q I rx ry h
/-- X(), X an own error class without an __init__ -/
theorem pmk_own0 {X : Cx} {C : Addr} {bmB : List Value} {B newId initId : String} {x : Str} {p pos : Pos} (F : ExcBaseFacts B newId initId bmB) (q : PySem.W.excIn X.K C bmB newId = true) (gC : X.mg x = some (.ref C)) (kC : PySem.W.keepIn X.K (.ref C) = true)
    (r : Raises X (.ref C)) (hg : Gl X x) (nd : (x == ("__debug__" : Str)) = false := by decide) : PMk X (.Call (.Name x p) [] [] pos) (fun _ H Q => Q (.ref C) none H) := by
  intro pins s σ H Q I h
  refine wpAny_Call_Name_kw (ld_glob I hg gC (PySem.W.callWith_K0 I.kIn kC ?_) nd)
  show wpAny _ _ (call (.ref C) []) _ _ _
  obtain ⟨bm, N, nm, qn, bs, hdct, sn, sub, ab, col, dd, k0, k1, k2, k3, k5, mN, hC, hN, hni, T⟩ := exc_obj I.kIn q
  obtain ⟨hp, g, d, t, os⟩ := s
  exact wpAny_call_exc_subT F T hC hN hni (fun h' e hm => mk_of I hm r h (I.hok.gone hm.new)) (Nat.zero_le _)
/-- what the class must say for a != b by its own == -/
structure NeOp (K : PySem.W.Frag) (C f : Addr) : Prop where
  eq : PySem.W.findIn K (.ref C) "__eq__" = some (some (.ref f))
  fn : PySem.W.isFn K (.ref f) = true
  ne : PySem.W.findIn K (.ref C) "__ne__" = some (some (.builtin "object.__ne__"))
  ob : PySem.W.mroIn K C (.type "object") = some true
section
variable {X : Cx} {CX : CXT} {k : Nat} {f C : Addr} {fd : FuncData} {ps : List Str} {sp : Sp} {E : XK}
theorem if_bound {M : Model} {A : Around} {E : Value → Shared → Prop} {s : Shared} {K : PySem.W.Frag} {x : Addr} {ox : Obj} {od : Option Obj} {name : Str} {id : String} {args : List Value} {Q : Option Value → Shared → Prop} (Y : K.In s.heap) (I : PySem.W.InstAt s.heap x ox C od)
    (hs : PySem.W.findIn K (.ref C) name = some (some (.builtin id))) (hb : ∀ self : Value, bindSpecial (.builtin id) self = pure (Value.builtin id, [self])) (h : wpAny M A (call (.builtin id) (.ref x :: args)) (fun v => Q (some v)) E s) : wpAny M A (callSpecialIfBound? (.ref x) name args) Q E s := by
  simp only [callSpecialIfBound?, bindSpecialIfBound?]
  refine wpAny_holding (wpAny_bind (wpAny_bind (wpAny_bind (I.type.here ((PySem.W.looks_findIn Y hs).here ?_)))))
  have fin : wpAny M A (call (.builtin id) ([.ref x] ++ args) >>= fun v => pure (some v)) Q E s := wpAny_bind (wpAny_mono h (fun v s' h' => wpAny_pure h') fun _ _ h' => h')
  refine wpAny_bind (wpAny_askSetting (wpAny_ite ?_))
  split
  · exact wpAny_bind (wpAny_of_eq (hb _) (wpAny_pure fin))
  · exact wpAny_tryCatch (wpAny_bind (wpAny_of_eq (hb _) (wpAny_pure fin)))
end
end Sq

namespace Sq
open PySem L2 PyProof.Rows
abbrev s_isnum : Stmt := top 17
abbrev s_asratio : Stmt := top 18
abbrev s_req : Stmt := inClass (top 19) 1
abbrev s_radd : Stmt := inClass (top 19) 2
abbrev s_rradd : Stmt := inClass (top 19) 3
abbrev s_rsub : Stmt := inClass (top 19) 4
abbrev s_rrsub : Stmt := inClass (top 19) 5
abbrev s_rmul : Stmt := inClass (top 19) 6
abbrev s_rrmul : Stmt := inClass (top 19) 7
abbrev s_rneg : Stmt := inClass (top 19) 8
abbrev s_rover : Stmt := inClass (top 19) 9
/-! ### mathematics -/
theorem low_int {i T U : Int} (L : Low i 1 T U) : T = i ∧ U = 1 := by
  have v := L.val
  have p := L.pos
  have c := L.cop
  rw [Int.mul_one] at v
  rw [v, Int.gcd_comm] at c
  have d : Int.gcd U (i * U) = U.natAbs := Int.gcd_eq_natAbs_left (Int.dvd_mul_left ..)
  rw [d] at c
  have u1 : U = 1 := by omega
  rw [u1, Int.mul_one] at v
  exact ⟨v, u1⟩
theorem cancel_r {x y z : Int} (hz : z ≠ 0) (h : x * z = y * z) : x = y := Int.eq_of_mul_eq_mul_right hz h
/-- the value of a fraction in lowest terms, over a further fraction's -/
theorem low_add {a b c d t u t' u' T U : Int} (L1 : Low a b t u) (L2 : Low c d t' u') (L : Low (t * u' + t' * u) (u * u') T U) : T * (b * d) = (a * d + c * b) * U := by
  have h1 := L1.val
  have h2 := L2.val
  have h := L.val
  have n : u * u' ≠ 0 := Int.mul_ne_zero (by have := L1.pos; omega) (by have := L2.pos; omega)
  refine cancel_r n ?_
  grind
theorem low_sub {a b c d t u t' u' T U : Int} (L1 : Low a b t u) (L2 : Low c d t' u') (L : Low (t * u' - t' * u) (u * u') T U) : T * (b * d) = (a * d - c * b) * U := by
  have h1 := L1.val
  have h2 := L2.val
  have h := L.val
  have n : u * u' ≠ 0 := Int.mul_ne_zero (by have := L1.pos; omega) (by have := L2.pos; omega)
  refine cancel_r n ?_
  grind
theorem low_mul {a b c d t u t' u' T U : Int} (L1 : Low a b t u) (L2 : Low c d t' u') (L : Low (t * t') (u * u') T U) : T * (b * d) = a * c * U := by
  have h1 := L1.val
  have h2 := L2.val
  have h := L.val
  have n : u * u' ≠ 0 := Int.mul_ne_zero (by have := L1.pos; omega) (by have := L2.pos; omega)
  refine cancel_r n ?_
  grind
theorem low_over {a b c d t u t' u' T U : Int} (L1 : Low a b t u) (L2 : Low c d t' u') (hd : d ≠ 0) (hc : c ≠ 0) (L : Low (t * u') (u * t') T U) : T * (b * c) = a * d * U := by
  have h1 := L1.val
  have h2 := L2.val
  have h := L.val
  have t0 : t' ≠ 0 := fun e => by
    rw [e, Int.zero_mul] at h2
    have := L2.pos
    exact Int.mul_ne_zero hc (by omega) h2.symm
  have n : u * t' ≠ 0 := Int.mul_ne_zero (by have := L1.pos; omega) t0
  refine cancel_r n (cancel_r hd ?_)
  grind
theorem low_neg {a b t u T U : Int} (L1 : Low a b t u) (L : Low (-t) u T U) : T * b = -a * U := by
  have h1 := L1.val
  have h := L.val
  have n : u ≠ 0 := by have := L1.pos; omega
  refine cancel_r n ?_
  grind
theorem low_one : Low t 1 t 1 := ⟨by decide, by simp, by omega, Nat.le_refl _, Nat.le_refl _⟩
theorem low_eq {a b c d t u t' u' : Int} (hb : b ≠ 0) (hd : d ≠ 0) (L1 : Low a b t u) (L2 : Low c d t' u') : (t = t' ∧ u = u') ↔ a * d = c * b := by
  have h1 := L1.val
  have h2 := L2.val
  have p1 := L1.pos
  have p2 := L2.pos
  constructor
  · rintro ⟨rfl, rfl⟩
    refine cancel_r (z := u) (by omega) ?_
    grind
  · intro h
    have n : b * d ≠ 0 := Int.mul_ne_zero hb hd
    have e : t * u' = t' * u := cancel_r n (by grind)
    have e' : t.natAbs * u'.natAbs = t'.natAbs * u.natAbs := by rw [← Int.natAbs_mul, ← Int.natAbs_mul, e]
    have c1 : Nat.Coprime u.natAbs t.natAbs := Nat.Coprime.symm L1.cop
    have c2 : Nat.Coprime u'.natAbs t'.natAbs := Nat.Coprime.symm L2.cop
    have d1 : u.natAbs ∣ u'.natAbs := c1.dvd_of_dvd_mul_left (by rw [e']; exact Nat.dvd_mul_left ..)
    have d2 : u'.natAbs ∣ u.natAbs := c2.dvd_of_dvd_mul_left (by rw [← e']; exact Nat.dvd_mul_left ..)
    have eu : u.natAbs = u'.natAbs := Nat.dvd_antisymm d1 d2
    have eu2 : u = u' := by omega
    subst eu2
    exact ⟨cancel_r (z := u) (by omega) e, rfl⟩
theorem low_eqI {a b t u w : Int} (hb : b ≠ 0) (L1 : Low a b t u) : (u = 1 ∧ t = w) ↔ a = w * b := by
  have h := low_eq hb (by decide) L1 (low_one (t := w))
  rw [Int.mul_one] at h
  rw [← h]
  constructor
  · rintro ⟨a, b⟩
    exact ⟨b, a⟩
  · rintro ⟨a, b⟩
    exact ⟨b, a⟩
/-- of at most 1,500 bits -/
def Fit (t : Int) : Prop := t.natAbs < 2 ^ 1500
theorem up {t : Int} (h : Fit t) : t.natAbs < 2 ^ 4000 := Nat.lt_of_lt_of_le h (Nat.pow_le_pow_right (by decide) (by decide))
theorem fit_up {t : Int} (h : Fit t) : t.natAbs < 2 ^ 8000 := Nat.lt_of_lt_of_le h (Nat.pow_le_pow_right (by decide) (by decide))
theorem big2 {t u : Int} (h : Fit t) (h' : Fit u) : (t * u).natAbs < 2 ^ 8000 := Nat.lt_of_lt_of_le (wide_lt h h') (Nat.pow_le_pow_right (by decide) (by decide))
theorem fit_one : Fit 1 := Nat.lt_of_lt_of_le (show (1 : Int).natAbs < 2 ^ 1 from by decide) (Nat.pow_le_pow_right (by decide) (by decide))
theorem mul_ne {a b : Int} (h : a ≠ 0) (h' : b ≠ 0) : a * b ≠ 0 := Int.mul_ne_zero h h'
/-- y is the number t / u: a Ratio, or an int -/
def NumAt (C : Addr) (H : Hp) (y : V) (t u : Int) : Prop := (∃ r, y = .ref r ∧ RatAt C H r t u) ∨ (y = .int t ∧ u = 1)
theorem RatAt.same {C : Addr} {H H' : Hp} {x : Addr} {t u : Int} (s : Same H H') (h : RatAt C H x t u) : RatAt C H' x t u := by
  obtain ⟨dx, h⟩ := h
  exact ⟨dx, s _ _ h⟩
theorem NumAt.same {C : Addr} {H H' : Hp} {y : V} {t u : Int} (s : Same H H') (h : NumAt C H y t u) : NumAt C H' y t u := by
  rcases h with ⟨r, e, h⟩ | h
  · exact .inl ⟨r, e, h.same s⟩
  · exact .inr h
/-- isinstance(x, Ratio) of other things -/
structure KZx (K : PySem.W.Frag) (C : Addr) : Prop where
  kint : PySem.W.kitOne K (.type "int") (.ref C) = some false
  kstr : PySem.W.kitOne K (.type "str") (.ref C) = some false
  knon : PySem.W.kitOne K (.type "NoneType") (.ref C) = some false
def spIsNum (K : PySem.W.Frag) (C : Addr) : Sp := fun vs H Q _ => ∃ (y : V) (t : Value) (b : Bool), vs = [y] ∧ TyX K H y t ∧ PySem.W.kitOne K t (.ref C) = some b ∧ IsTy K H y ∧ Q (.bl (b || isI y)) H
theorem num_is {K : PySem.W.Frag} {C : Addr} {H : Hp} {y : V} {t u : Int} (T : CTx K C) (Y : ITy K C) (Z : KZx K C) (h : NumAt C H y t u) : ∃ (q : Value) (b : Bool), TyX K H y q ∧ PySem.W.kitOne K q (.ref C) = some b ∧ IsTy K H y ∧ (b || isI y) = true := by
  rcases h with ⟨r, rfl, h⟩ | ⟨rfl, _⟩
  · exact ⟨_, true, h.ty T Y, kit_self, h.isTy T Y, rfl⟩
  · exact ⟨.type "int", false, .base (.int _), Z.kint, .int _, rfl⟩
def spAsRatio (C : Addr) : Sp := fun vs H Q _ => ∃ (y : V) (t u : Int), vs = [y] ∧ NumAt C H y t u ∧ t.natAbs < 2 ^ 8000 ∧ ∀ r H', RatAt C H' r t u → Same H H' → Q (.ref r) H'
section
variable {P : Program} {w : World} {K : PySem.W.Frag} {mg : Str → Option Value} {base : Heap}
theorem sc_isnum : FnScope ["value"] ["value"] (defScope s_isnum) := ⟨rfl, rfl, rfl, by decide +kernel, rfl, by decide +kernel, by decide +kernel⟩
theorem ok_isnum {f C fI : Addr} {fd fdI : FuncData} (F : Fun K "is_number" "is_number" s_isnum f fd) (B : ITx mg) (m_C : mg "Ratio" = some (.ref C))
    (G_I : FnOk P w K mg base CX0 1 fI fdI ["value"] (spIsInt K)) (m_I : mg "is_an_integer" = some (.ref fI)) (k_I : PySem.W.keepIn K (.ref fI) = true) (b_I : Binds K fdI ["value"] []) : FnOk P w K mg base CX0 2 f fd ["value"] (spIsNum K C) := by
  refine F.ok sc_isnum (fun vs H Q E h => ?_) (fun cdv A outer s H vs Q E hr h => ?_)
  · obtain ⟨y, t, b, rfl, _⟩ := h
    rfl
  · obtain ⟨y, t, b, rfl, ty, kb, it, k⟩ := h
    refine ⟨_, pss_one (ps_ret (pe_or (pe_callB call_isi (by rfl) B.b_isinstance (by decide +kernel) (pa_cons (pv 0) (pa_cons (pe_glob (v := .ref C) rfl m_C rfl) pa_nil))) (pe_one (pe_call G_I hr rfl m_I k_I b_I .nil pass0 (pa_cons (pv 0) pa_nil))))), ?_⟩
    refine ⟨_, rfl, _, _, _, _, b, rfl, .own C, ty, kb, _, rfl, ?_⟩
    cases b with
    | true => exact iteT k
    | false => exact iteF ⟨_, rfl, _, rfl, it, k⟩
theorem sc_asratio : FnScope ["number"] ["number"] (defScope s_asratio) := ⟨rfl, rfl, rfl, by decide +kernel, rfl, by decide +kernel, by decide +kernel⟩
theorem ok_asratio {f C CN fR : Addr} {fd fdR : FuncData} {ds1 : List Value} (F : Fun K "as_ratio" "as_ratio" s_asratio f fd) (T : CTx K C) (Y : ITy K C) (Z : KZx K C) (B : ITx mg) (m_C : mg "Ratio" = some (.ref C)) (M : Mk K C fR)
    (G_R : FnOk P w K mg base (L2.CX P w) 3 fR fdR ["self", "top", "bottom"] (spRatioInit K C CN)) (b_R1 : Binds K fdR ["self", "top", "bottom"] ds1) (v_R1 : Vals [.int 1] ds1) : FnOk P w K mg base CX0 5 f fd ["number"] (spAsRatio C) := by
  refine F.ok sc_asratio (fun vs H Q E h => ?_) (fun cdv A outer s H vs Q E hr h => ?_)
  · obtain ⟨y, t, u, rfl, _⟩ := h
    rfl
  · obtain ⟨y, t, u, rfl, hy, st, k⟩ := h
    refine ⟨_, pss_cons (ps_if (pt_val (pe_callB call_isi (by rfl) B.b_isinstance (by decide +kernel) (pa_cons (pv 0) (pa_cons (pe_glob (v := .ref C) rfl m_C rfl) pa_nil)))) (pss_one (ps_ret (pv 0))) pss_nil)
      (pss_one (ps_ret (pe_make M G_R (hr.mono (by decide)) rfl m_C b_R1 v_R1 passL (pa_cons (pv 0) pa_nil)))), ?_⟩
    rcases hy with ⟨r, rfl, hr1⟩ | ⟨rfl, rfl⟩
    · refine ⟨_, rfl, _, _, _, _, true, rfl, .own C, hr1.ty T Y, kit_self, _, rfl, iteT ?_⟩
      exact ⟨_, rfl, k r H hr1 (Same.refl H)⟩
    · refine ⟨_, rfl, _, _, _, _, false, rfl, .own C, .base (.int _), Z.kint, _, rfl, iteF ?_⟩
      refine ⟨_, rfl, fun z dz nz ndz ne => mk_go (by decide) (fit_up fit_one) nz ndz ne fun a b H2 L R s2 => ⟨rfl, ?_⟩⟩
      obtain ⟨e1, e2⟩ := low_int L
      subst e1 e2
      exact k z H2 R s2
def spR_add (C : Addr) : Sp := fun vs H Q _ => ∃ (x : Addr) (y : V) (t u t' u' : Int), vs = [.ref x, y] ∧ RatAt C H x t u ∧ NumAt C H y t' u' ∧ 1 ≤ u ∧ 1 ≤ u' ∧ Fit t ∧ Fit u ∧ Fit t' ∧ Fit u' ∧
  ∀ z T U H', Low (t * u' + t' * u) (u * u') T U → RatAt C H' z T U → Same H H' → Q (.ref z) H'
theorem sc_radd : FnScope ["self", "other", "right"] ["self", "other"] (defScope s_radd) := ⟨rfl, rfl, rfl, by decide +kernel, rfl, by decide +kernel, by decide +kernel⟩
theorem ok_radd {f C CN fR fN fA : Addr} {fd fdR fdN fdA : FuncData} (F : Fun K "__add__" "Ratio.__add__" s_radd f fd) (T : CTx K C) (Y : ITy K C) (Z : KZx K C) (m_C : mg "Ratio" = some (.ref C)) (M : Mk K C fR)
    (G_R : FnOk P w K mg base (L2.CX P w) 3 fR fdR ["self", "top", "bottom"] (spRatioInit K C CN)) (b_R : Binds K fdR ["self", "top", "bottom"] [])
    (G_N : FnOk P w K mg base CX0 2 fN fdN ["value"] (spIsNum K C)) (m_N : mg "is_number" = some (.ref fN)) (k_N : PySem.W.keepIn K (.ref fN) = true) (b_N : Binds K fdN ["value"] [])
    (G_A : FnOk P w K mg base CX0 5 fA fdA ["number"] (spAsRatio C)) (m_A : mg "as_ratio" = some (.ref fA)) (k_A : PySem.W.keepIn K (.ref fA) = true) (b_A : Binds K fdA ["number"] []) :
    FnOk P w K mg base CX0 6 f fd ["self", "other"] (spR_add C) := by
  refine F.ok sc_radd (fun vs H Q E h => ?_) (fun cdv A outer s H vs Q E hr h => ?_)
  · obtain ⟨x, y, t, u, t', u', rfl, _⟩ := h
    rfl
  · obtain ⟨x, y, t, u, t', u', rfl, hx, hy, pu, pu', st, su, st', su', k⟩ := h
    refine ⟨_, (pss_cons (ps_if (pt_not (pt_val (pe_call G_N (hr.mono (by decide)) rfl m_N k_N b_N .nil pass0 (pa_cons (pv 1) pa_nil)))) (pss_one ps_never) pss_nil)
      (pss_cons (ps_set (i := 2) sc_radd.nd rfl (Or.inl rfl) (pe_call G_A hr rfl m_A k_A b_A .nil pass0 (pa_cons (pv 1) pa_nil)))
      (pss_one (ps_ret (pe_make M G_R (hr.mono (by decide)) rfl m_C b_R .nil passL (pa_cons (pe_op op_add (pe_op op_mulW (pe_fld (pv 0) rfl) (pe_fld (pv 2) rfl)) (pe_op op_mulW (pe_fld (pv 2) rfl) (pe_fld (pv 0) rfl))) (pa_cons (pe_op op_mulW (pe_fld (pv 0) rfl) (pe_fld (pv 2) rfl)) pa_nil))))))), ?_⟩
    obtain ⟨q, b, hq, kb, hi, hbi⟩ := num_is T Y Z hy
    refine ⟨_, rfl, y, q, b, rfl, hq, kb, hi, _, rfl, ?_⟩
    rw [hbi]
    refine iteF ?_
    refine ⟨_, rfl, y, t', u', rfl, hy, fit_up st', fun r H1 hr1 s1 => ?_⟩
    obtain ⟨dx, hx0⟩ := hx
    have hx1 := s1 _ _ hx0
    obtain ⟨dr, hr1⟩ := hr1
    refine ⟨_, rfl, x, C, dx, _, _, rfl, hx1, T.cl, T.nT, rf_top _ _, _, rfl, r, C, dr, _, _, rfl, hr1, T.cl, T.nB, rf_bottom _ _, _, _, rfl, rfl, mul_ok (up st) (up su'), ?_⟩
    refine ⟨_, rfl, r, C, dr, _, _, rfl, hr1, T.cl, T.nT, rf_top _ _, _, rfl, x, C, dx, _, _, rfl, hx1, T.cl, T.nB, rf_bottom _ _, _, _, rfl, rfl, mul_ok (up st') (up su), _, _, rfl, rfl, ?_⟩
    refine ⟨_, rfl, x, C, dx, _, _, rfl, hx1, T.cl, T.nB, rf_bottom _ _, _, rfl, r, C, dr, _, _, rfl, hr1, T.cl, T.nB, rf_bottom _ _, _, _, rfl, rfl, mul_ok (up su) (up su'), ?_⟩
    exact fun z dz nz ndz ne => mk_go (mul_ne (by omega) (by omega)) (big2 su su') nz ndz ne fun T U H2 L R s2 => ⟨rfl, k z T U H2 L R (s1.trans s2)⟩
def spR_sub (C : Addr) : Sp := fun vs H Q _ => ∃ (x : Addr) (y : V) (t u t' u' : Int), vs = [.ref x, y] ∧ RatAt C H x t u ∧ NumAt C H y t' u' ∧ 1 ≤ u ∧ 1 ≤ u' ∧ Fit t ∧ Fit u ∧ Fit t' ∧ Fit u' ∧
  ∀ z T U H', Low (t * u' - t' * u) (u * u') T U → RatAt C H' z T U → Same H H' → Q (.ref z) H'
theorem sc_rsub : FnScope ["self", "other", "right"] ["self", "other"] (defScope s_rsub) := ⟨rfl, rfl, rfl, by decide +kernel, rfl, by decide +kernel, by decide +kernel⟩
theorem ok_rsub {f C CN fR fN fA : Addr} {fd fdR fdN fdA : FuncData} (F : Fun K "__sub__" "Ratio.__sub__" s_rsub f fd) (T : CTx K C) (Y : ITy K C) (Z : KZx K C) (m_C : mg "Ratio" = some (.ref C)) (M : Mk K C fR)
    (G_R : FnOk P w K mg base (L2.CX P w) 3 fR fdR ["self", "top", "bottom"] (spRatioInit K C CN)) (b_R : Binds K fdR ["self", "top", "bottom"] [])
    (G_N : FnOk P w K mg base CX0 2 fN fdN ["value"] (spIsNum K C)) (m_N : mg "is_number" = some (.ref fN)) (k_N : PySem.W.keepIn K (.ref fN) = true) (b_N : Binds K fdN ["value"] [])
    (G_A : FnOk P w K mg base CX0 5 fA fdA ["number"] (spAsRatio C)) (m_A : mg "as_ratio" = some (.ref fA)) (k_A : PySem.W.keepIn K (.ref fA) = true) (b_A : Binds K fdA ["number"] []) :
    FnOk P w K mg base CX0 6 f fd ["self", "other"] (spR_sub C) := by
  refine F.ok sc_rsub (fun vs H Q E h => ?_) (fun cdv A outer s H vs Q E hr h => ?_)
  · obtain ⟨x, y, t, u, t', u', rfl, _⟩ := h
    rfl
  · obtain ⟨x, y, t, u, t', u', rfl, hx, hy, pu, pu', st, su, st', su', k⟩ := h
    refine ⟨_, (pss_cons (ps_if (pt_not (pt_val (pe_call G_N (hr.mono (by decide)) rfl m_N k_N b_N .nil pass0 (pa_cons (pv 1) pa_nil)))) (pss_one ps_never) pss_nil)
      (pss_cons (ps_set (i := 2) sc_rsub.nd rfl (Or.inl rfl) (pe_call G_A hr rfl m_A k_A b_A .nil pass0 (pa_cons (pv 1) pa_nil)))
      (pss_one (ps_ret (pe_make M G_R (hr.mono (by decide)) rfl m_C b_R .nil passL (pa_cons (pe_op op_sub (pe_op op_mulW (pe_fld (pv 0) rfl) (pe_fld (pv 2) rfl)) (pe_op op_mulW (pe_fld (pv 2) rfl) (pe_fld (pv 0) rfl))) (pa_cons (pe_op op_mulW (pe_fld (pv 0) rfl) (pe_fld (pv 2) rfl)) pa_nil))))))), ?_⟩
    obtain ⟨q, b, hq, kb, hi, hbi⟩ := num_is T Y Z hy
    refine ⟨_, rfl, y, q, b, rfl, hq, kb, hi, _, rfl, ?_⟩
    rw [hbi]
    refine iteF ?_
    refine ⟨_, rfl, y, t', u', rfl, hy, fit_up st', fun r H1 hr1 s1 => ?_⟩
    obtain ⟨dx, hx0⟩ := hx
    have hx1 := s1 _ _ hx0
    obtain ⟨dr, hr1⟩ := hr1
    refine ⟨_, rfl, x, C, dx, _, _, rfl, hx1, T.cl, T.nT, rf_top _ _, _, rfl, r, C, dr, _, _, rfl, hr1, T.cl, T.nB, rf_bottom _ _, _, _, rfl, rfl, mul_ok (up st) (up su'), ?_⟩
    refine ⟨_, rfl, r, C, dr, _, _, rfl, hr1, T.cl, T.nT, rf_top _ _, _, rfl, x, C, dx, _, _, rfl, hx1, T.cl, T.nB, rf_bottom _ _, _, _, rfl, rfl, mul_ok (up st') (up su), _, _, rfl, rfl, ?_⟩
    refine ⟨_, rfl, x, C, dx, _, _, rfl, hx1, T.cl, T.nB, rf_bottom _ _, _, rfl, r, C, dr, _, _, rfl, hr1, T.cl, T.nB, rf_bottom _ _, _, _, rfl, rfl, mul_ok (up su) (up su'), ?_⟩
    exact fun z dz nz ndz ne => mk_go (mul_ne (by omega) (by omega)) (big2 su su') nz ndz ne fun T U H2 L R s2 => ⟨rfl, k z T U H2 L R (s1.trans s2)⟩
def spR_mul (C : Addr) : Sp := fun vs H Q _ => ∃ (x : Addr) (y : V) (t u t' u' : Int), vs = [.ref x, y] ∧ RatAt C H x t u ∧ NumAt C H y t' u' ∧ 1 ≤ u ∧ 1 ≤ u' ∧ Fit t ∧ Fit u ∧ Fit t' ∧ Fit u' ∧
  ∀ z T U H', Low (t * t') (u * u') T U → RatAt C H' z T U → Same H H' → Q (.ref z) H'
theorem sc_rmul : FnScope ["self", "other", "right"] ["self", "other"] (defScope s_rmul) := ⟨rfl, rfl, rfl, by decide +kernel, rfl, by decide +kernel, by decide +kernel⟩
theorem ok_rmul {f C CN fR fN fA : Addr} {fd fdR fdN fdA : FuncData} (F : Fun K "__mul__" "Ratio.__mul__" s_rmul f fd) (T : CTx K C) (Y : ITy K C) (Z : KZx K C) (m_C : mg "Ratio" = some (.ref C)) (M : Mk K C fR)
    (G_R : FnOk P w K mg base (L2.CX P w) 3 fR fdR ["self", "top", "bottom"] (spRatioInit K C CN)) (b_R : Binds K fdR ["self", "top", "bottom"] [])
    (G_N : FnOk P w K mg base CX0 2 fN fdN ["value"] (spIsNum K C)) (m_N : mg "is_number" = some (.ref fN)) (k_N : PySem.W.keepIn K (.ref fN) = true) (b_N : Binds K fdN ["value"] [])
    (G_A : FnOk P w K mg base CX0 5 fA fdA ["number"] (spAsRatio C)) (m_A : mg "as_ratio" = some (.ref fA)) (k_A : PySem.W.keepIn K (.ref fA) = true) (b_A : Binds K fdA ["number"] []) :
    FnOk P w K mg base CX0 6 f fd ["self", "other"] (spR_mul C) := by
  refine F.ok sc_rmul (fun vs H Q E h => ?_) (fun cdv A outer s H vs Q E hr h => ?_)
  · obtain ⟨x, y, t, u, t', u', rfl, _⟩ := h
    rfl
  · obtain ⟨x, y, t, u, t', u', rfl, hx, hy, pu, pu', st, su, st', su', k⟩ := h
    refine ⟨_, (pss_cons (ps_if (pt_not (pt_val (pe_call G_N (hr.mono (by decide)) rfl m_N k_N b_N .nil pass0 (pa_cons (pv 1) pa_nil)))) (pss_one ps_never) pss_nil)
      (pss_cons (ps_set (i := 2) sc_rmul.nd rfl (Or.inl rfl) (pe_call G_A hr rfl m_A k_A b_A .nil pass0 (pa_cons (pv 1) pa_nil)))
      (pss_one (ps_ret (pe_make M G_R (hr.mono (by decide)) rfl m_C b_R .nil passL (pa_cons (pe_op op_mulW (pe_fld (pv 0) rfl) (pe_fld (pv 2) rfl)) (pa_cons (pe_op op_mulW (pe_fld (pv 0) rfl) (pe_fld (pv 2) rfl)) pa_nil))))))), ?_⟩
    obtain ⟨q, b, hq, kb, hi, hbi⟩ := num_is T Y Z hy
    refine ⟨_, rfl, y, q, b, rfl, hq, kb, hi, _, rfl, ?_⟩
    rw [hbi]
    refine iteF ?_
    refine ⟨_, rfl, y, t', u', rfl, hy, fit_up st', fun r H1 hr1 s1 => ?_⟩
    obtain ⟨dx, hx0⟩ := hx
    have hx1 := s1 _ _ hx0
    obtain ⟨dr, hr1⟩ := hr1
    refine ⟨_, rfl, x, C, dx, _, _, rfl, hx1, T.cl, T.nT, rf_top _ _, _, rfl, r, C, dr, _, _, rfl, hr1, T.cl, T.nT, rf_top _ _, _, _, rfl, rfl, mul_ok (up st) (up st'), ?_⟩
    refine ⟨_, rfl, x, C, dx, _, _, rfl, hx1, T.cl, T.nB, rf_bottom _ _, _, rfl, r, C, dr, _, _, rfl, hr1, T.cl, T.nB, rf_bottom _ _, _, _, rfl, rfl, mul_ok (up su) (up su'), ?_⟩
    exact fun z dz nz ndz ne => mk_go (mul_ne (by omega) (by omega)) (big2 su su') nz ndz ne fun T U H2 L R s2 => ⟨rfl, k z T U H2 L R (s1.trans s2)⟩
end
end Sq

namespace Sq
open PySem L2 PyProof.Rows
section
variable {P : Program} {w : World} {K : PySem.W.Frag} {mg : Str → Option Value} {base : Heap}
def spR_radd (C : Addr) : Sp := fun vs H Q _ => ∃ (x : Addr) (i t u : Int), vs = [.ref x, .int i] ∧ RatAt C H x t u ∧ 1 ≤ u ∧ Fit t ∧ Fit u ∧ Fit i ∧
  ∀ z T U H', Low (t * 1 + i * u) (u * 1) T U → RatAt C H' z T U → Same H H' → Q (.ref z) H'
theorem sc_rradd : FnScope ["self", "other"] ["self", "other"] (defScope s_rradd) := ⟨rfl, rfl, rfl, by decide +kernel, rfl, by decide +kernel, by decide +kernel⟩
theorem ok_rradd {f C fO fN : Addr} {fd fdO fdN : FuncData} (F : Fun K "__radd__" "Ratio.__radd__" s_rradd f fd) (T : CTx K C) (Y : ITy K C) (Z : KZx K C) (hc : PySem.W.selfFirst K C = true)
    (G_N : FnOk P w K mg base CX0 2 fN fdN ["value"] (spIsNum K C)) (m_N : mg "is_number" = some (.ref fN)) (k_N : PySem.W.keepIn K (.ref fN) = true) (b_N : Binds K fdN ["value"] [])
    (O : OwnOp K C fO (PySem.dunder Operator.Add.info.2)) (I : IntOp K C Operator.Add.info.2) (G_O : FnOk P w K mg base CX0 6 fO fdO ["self", "other"] (spR_add C)) (b_O : Binds K fdO ["self", "other"] []) :
    FnOk P w K mg base CX0 7 f fd ["self", "other"] (spR_radd C) := by
  refine F.ok sc_rradd (fun vs H Q E h => ?_) (fun cdv A outer s H vs Q E hr h => ?_)
  · obtain ⟨x, i, t, u, rfl, _⟩ := h
    rfl
  · obtain ⟨x, i, t, u, rfl, hx, pu, st, su, si, k⟩ := h
    refine ⟨_, (pss_cons (ps_if (pt_not (pt_val (pe_call G_N (hr.mono (by decide)) rfl m_N k_N b_N .nil pass0 (pa_cons (pv 1) pa_nil)))) (pss_one ps_never) pss_nil)
      (pss_one (ps_ret (pe_op (op_ownI (op := .Add) hc O I G_O hr b_O pass0) (pv 0) (pv 1))))), ?_⟩
    obtain ⟨q, b, hq, kb, hi, hbi⟩ := num_is (H := H) (y := .int i) (t := i) (u := 1) T Y Z (.inr ⟨rfl, rfl⟩)
    refine ⟨_, rfl, .int i, q, b, rfl, hq, kb, hi, _, rfl, ?_⟩
    rw [hbi]
    refine iteF ?_
    obtain ⟨dx, hx0⟩ := id hx
    exact ⟨_, rfl, _, rfl, x, i, dx, _, rfl, rfl, hx0, x, .int i, t, u, i, 1, rfl, hx, .inr ⟨rfl, rfl⟩, pu, by decide, st, su, si, fit_one, k⟩
def spR_rmul (C : Addr) : Sp := fun vs H Q _ => ∃ (x : Addr) (i t u : Int), vs = [.ref x, .int i] ∧ RatAt C H x t u ∧ 1 ≤ u ∧ Fit t ∧ Fit u ∧ Fit i ∧
  ∀ z T U H', Low (t * i) (u * 1) T U → RatAt C H' z T U → Same H H' → Q (.ref z) H'
theorem sc_rrmul : FnScope ["self", "other"] ["self", "other"] (defScope s_rrmul) := ⟨rfl, rfl, rfl, by decide +kernel, rfl, by decide +kernel, by decide +kernel⟩
theorem ok_rrmul {f C fO fN : Addr} {fd fdO fdN : FuncData} (F : Fun K "__rmul__" "Ratio.__rmul__" s_rrmul f fd) (T : CTx K C) (Y : ITy K C) (Z : KZx K C) (hc : PySem.W.selfFirst K C = true)
    (G_N : FnOk P w K mg base CX0 2 fN fdN ["value"] (spIsNum K C)) (m_N : mg "is_number" = some (.ref fN)) (k_N : PySem.W.keepIn K (.ref fN) = true) (b_N : Binds K fdN ["value"] [])
    (O : OwnOp K C fO (PySem.dunder Operator.Mult.info.2)) (I : IntOp K C Operator.Mult.info.2) (G_O : FnOk P w K mg base CX0 6 fO fdO ["self", "other"] (spR_mul C)) (b_O : Binds K fdO ["self", "other"] []) :
    FnOk P w K mg base CX0 7 f fd ["self", "other"] (spR_rmul C) := by
  refine F.ok sc_rrmul (fun vs H Q E h => ?_) (fun cdv A outer s H vs Q E hr h => ?_)
  · obtain ⟨x, i, t, u, rfl, _⟩ := h
    rfl
  · obtain ⟨x, i, t, u, rfl, hx, pu, st, su, si, k⟩ := h
    refine ⟨_, (pss_cons (ps_if (pt_not (pt_val (pe_call G_N (hr.mono (by decide)) rfl m_N k_N b_N .nil pass0 (pa_cons (pv 1) pa_nil)))) (pss_one ps_never) pss_nil)
      (pss_one (ps_ret (pe_op (op_ownI (op := .Mult) hc O I G_O hr b_O pass0) (pv 0) (pv 1))))), ?_⟩
    obtain ⟨q, b, hq, kb, hi, hbi⟩ := num_is (H := H) (y := .int i) (t := i) (u := 1) T Y Z (.inr ⟨rfl, rfl⟩)
    refine ⟨_, rfl, .int i, q, b, rfl, hq, kb, hi, _, rfl, ?_⟩
    rw [hbi]
    refine iteF ?_
    obtain ⟨dx, hx0⟩ := id hx
    exact ⟨_, rfl, _, rfl, x, i, dx, _, rfl, rfl, hx0, x, .int i, t, u, i, 1, rfl, hx, .inr ⟨rfl, rfl⟩, pu, by decide, st, su, si, fit_one, k⟩
def spR_rsub (C : Addr) : Sp := fun vs H Q _ => ∃ (x : Addr) (i t u : Int), vs = [.ref x, .int i] ∧ RatAt C H x t u ∧ 1 ≤ u ∧ Fit t ∧ Fit u ∧ Fit i ∧
  ∀ z T U H', Low (i * u - t * 1) (1 * u) T U → RatAt C H' z T U → Same H H' → Q (.ref z) H'
theorem sc_rrsub : FnScope ["self", "other"] ["self", "other"] (defScope s_rrsub) := ⟨rfl, rfl, rfl, by decide +kernel, rfl, by decide +kernel, by decide +kernel⟩
theorem ok_rrsub {f C fO fN fA : Addr} {fd fdO fdN fdA : FuncData} (F : Fun K "__rsub__" "Ratio.__rsub__" s_rrsub f fd) (T : CTx K C) (Y : ITy K C) (Z : KZx K C) (hc : PySem.W.selfFirst K C = true)
    (G_N : FnOk P w K mg base CX0 2 fN fdN ["value"] (spIsNum K C)) (m_N : mg "is_number" = some (.ref fN)) (k_N : PySem.W.keepIn K (.ref fN) = true) (b_N : Binds K fdN ["value"] [])
    (G_A : FnOk P w K mg base CX0 5 fA fdA ["number"] (spAsRatio C)) (m_A : mg "as_ratio" = some (.ref fA)) (k_A : PySem.W.keepIn K (.ref fA) = true) (b_A : Binds K fdA ["number"] [])
    (O : OwnOp K C fO (PySem.dunder Operator.Sub.info.2)) (G_O : FnOk P w K mg base CX0 6 fO fdO ["self", "other"] (spR_sub C)) (b_O : Binds K fdO ["self", "other"] []) :
    FnOk P w K mg base CX0 7 f fd ["self", "other"] (spR_rsub C) := by
  refine F.ok sc_rrsub (fun vs H Q E h => ?_) (fun cdv A outer s H vs Q E hr h => ?_)
  · obtain ⟨x, i, t, u, rfl, _⟩ := h
    rfl
  · obtain ⟨x, i, t, u, rfl, hx, pu, st, su, si, k⟩ := h
    refine ⟨_, (pss_cons (ps_if (pt_not (pt_val (pe_call G_N (hr.mono (by decide)) rfl m_N k_N b_N .nil pass0 (pa_cons (pv 1) pa_nil)))) (pss_one ps_never) pss_nil)
      (pss_one (ps_ret (pe_op (op_own2 (op := .Sub) hc O G_O hr b_O pass0) (pe_call G_A (hr.mono (by decide)) rfl m_A k_A b_A .nil pass0 (pa_cons (pv 1) pa_nil)) (pv 0))))), ?_⟩
    obtain ⟨q, b, hq, kb, hi, hbi⟩ := num_is (H := H) (y := .int i) (t := i) (u := 1) T Y Z (.inr ⟨rfl, rfl⟩)
    refine ⟨_, rfl, .int i, q, b, rfl, hq, kb, hi, _, rfl, ?_⟩
    rw [hbi]
    refine iteF ?_
    refine ⟨_, rfl, .int i, i, 1, rfl, .inr ⟨rfl, rfl⟩, fit_up si, fun r H1 hr1 s1 => ?_⟩
    obtain ⟨dx, hx0⟩ := id hx
    obtain ⟨dr, hr0⟩ := id hr1
    exact ⟨_, rfl, r, x, dr, dx, _, _, rfl, rfl, hr0, s1 _ _ hx0, r, .ref x, i, 1, t, u, rfl, hr1, .inl ⟨x, rfl, hx.same s1⟩, by decide, pu, si, fit_one, st, su, fun z T U H' L R s2 => k z T U H' L R (s1.trans s2)⟩
def spR_neg (C : Addr) : Sp := fun vs H Q _ => ∃ (x : Addr) (t u : Int), vs = [.ref x] ∧ RatAt C H x t u ∧ 1 ≤ u ∧ Fit u ∧ ∀ z T U H', Low (-t) u T U → RatAt C H' z T U → Same H H' → Q (.ref z) H'
theorem sc_rneg : FnScope ["self"] ["self"] (defScope s_rneg) := ⟨rfl, rfl, rfl, by decide +kernel, rfl, by decide +kernel, by decide +kernel⟩
theorem ok_rneg {f C CN fR : Addr} {fd fdR : FuncData} (F : Fun K "__neg__" "Ratio.__neg__" s_rneg f fd) (T : CTx K C) (Y : ITy K C) (Z : KZx K C) (m_C : mg "Ratio" = some (.ref C)) (M : Mk K C fR)
    (G_R : FnOk P w K mg base (L2.CX P w) 3 fR fdR ["self", "top", "bottom"] (spRatioInit K C CN)) (b_R : Binds K fdR ["self", "top", "bottom"] []) : FnOk P w K mg base CX0 5 f fd ["self"] (spR_neg C) := by
  refine F.ok sc_rneg (fun vs H Q E h => ?_) (fun cdv A outer s H vs Q E hr h => ?_)
  · obtain ⟨x, t, u, rfl, _⟩ := h
    rfl
  · obtain ⟨x, t, u, rfl, hx, pu, su, k⟩ := h
    refine ⟨_, pss_one (ps_ret (pe_make M G_R (hr.mono (by decide)) rfl m_C b_R .nil passL (pa_cons (pe_un un_neg (pe_fld (pv 0) rfl)) (pa_cons (pe_fld (pv 0) rfl) pa_nil)))), ?_⟩
    obtain ⟨dx, hx0⟩ := id hx
    refine ⟨_, rfl, x, C, dx, _, _, rfl, hx0, T.cl, T.nT, rf_top _ _, _, rfl, _, rfl, x, C, dx, _, _, rfl, hx0, T.cl, T.nB, rf_bottom _ _, ?_⟩
    exact fun z dz nz ndz ne => mk_go (by omega) (fit_up su) nz ndz ne fun T U H2 L R s2 => ⟨rfl, k z T U H2 L R s2⟩
def spR_over (C CN : Addr) : Sp := fun vs H Q E => ∃ (x : Addr) (y : V) (t u t' u' : Int), vs = [.ref x, y] ∧ RatAt C H x t u ∧ NumAt C H y t' u' ∧ 1 ≤ u ∧ 1 ≤ u' ∧ Fit t ∧ Fit u ∧ Fit t' ∧ Fit u' ∧
  (t' = 0 → ∀ H1 d, Same H H1 → H1 d = none → E (.ref CN) (some d) (upd H1 d (wordAt "zero"))) ∧
  (t' ≠ 0 → ∀ z T U H', Low (t * u') (u * t') T U → RatAt C H' z T U → Same H H' → Q (.ref z) H')
theorem sc_rover : FnScope ["self", "other", "right"] ["self", "other"] (defScope s_rover) := ⟨rfl, rfl, rfl, by decide +kernel, rfl, by decide +kernel, by decide +kernel⟩
theorem ok_rover {f C CN fR fA : Addr} {fd fdR fdA : FuncData} (F : Fun K "over" "Ratio.over" s_rover f fd) (T : CTx K C) (Y : ITy K C) (Z : KZx K C) (m_C : mg "Ratio" = some (.ref C)) (M : Mk K C fR)
    (G_R : FnOk P w K mg base (L2.CX P w) 3 fR fdR ["self", "top", "bottom"] (spRatioInit K C CN)) (b_R : Binds K fdR ["self", "top", "bottom"] [])
    (G_A : FnOk P w K mg base CX0 5 fA fdA ["number"] (spAsRatio C)) (m_A : mg "as_ratio" = some (.ref fA)) (k_A : PySem.W.keepIn K (.ref fA) = true) (b_A : Binds K fdA ["number"] []) : FnOk P w K mg base (L2.CX P w) 6 f fd ["self", "other"] (spR_over C CN) := by
  refine F.okX sc_rover (fun vs H Q E h => ?_) (fun cdv A outer s H vs Q E hr h => ?_)
  · obtain ⟨x, y, t, u, t', u', rfl, _⟩ := h
    rfl
  · obtain ⟨x, y, t, u, t', u', rfl, hx, hy, pu, pu', st, su, st', su', kE, k⟩ := h
    refine ⟨_, (pss_cons (ps_set (i := 2) sc_rover.nd rfl (Or.inl rfl) (pe_call G_A hr rfl m_A k_A b_A .nil pass0 (pa_cons (pv 1) pa_nil)))
      (pss_one (ps_ret (pe_make (E := E) M G_R (hr.mono (by decide)) rfl m_C b_R .nil (passes_call (takes_of rfl rfl rfl rfl) fun _ _ _ _ h => h) (pa_cons (pe_op op_mulW (pe_fld (pv 0) rfl) (pe_fld (pv 2) rfl)) (pa_cons (pe_op op_mulW (pe_fld (pv 0) rfl) (pe_fld (pv 2) rfl)) pa_nil)))))), ?_⟩
    refine ⟨_, rfl, y, t', u', rfl, hy, fit_up st', fun r H1 hr1 s1 => ?_⟩
    obtain ⟨dx, hx0⟩ := hx
    have hx1 := s1 _ _ hx0
    obtain ⟨dr, hr1⟩ := hr1
    refine ⟨_, rfl, x, C, dx, _, _, rfl, hx1, T.cl, T.nT, rf_top _ _, _, rfl, r, C, dr, _, _, rfl, hr1, T.cl, T.nB, rf_bottom _ _, _, _, rfl, rfl, mul_ok (up st) (up su'), ?_⟩
    refine ⟨_, rfl, x, C, dx, _, _, rfl, hx1, T.cl, T.nB, rf_bottom _ _, _, rfl, r, C, dr, _, _, rfl, hr1, T.cl, T.nT, rf_top _ _, _, _, rfl, rfl, mul_ok (up su) (up st'), ?_⟩
    intro z dz nz ndz ne
    by_cases h0 : t' = 0
    · have e0 : u * t' = 0 := by rw [h0, Int.mul_zero]
      refine ⟨z, dz, _, _, rfl, upd_same, .int _, .int _, fun b e => (by cases e; exact big2 su st'), fun w hw d hd => ?_, fun a b ea eb hb => (by cases eb; exact absurd e0 hb)⟩
      have hw1 : dueW (.int (t * u')) (.int (u * t')) = some w := hw
      rw [e0] at hw1
      have ew : w = "zero" := by
        have : dueW (.int (t * u')) (.int 0) = some ("zero" : Str) := rfl
        rw [this] at hw1
        exact (Option.some.inj hw1).symm
      subst ew
      exact kE h0 _ d (s1.trans (same_pair nz ndz ne)) hd
    · exact mk_go (mul_ne (by omega) h0) (big2 su st') nz ndz ne fun T U H2 L R s2 => ⟨rfl, k h0 z T U H2 L R (s1.trans s2)⟩
/-- self == other, other a number -/
def spR_eq (K : PySem.W.Frag) (C : Addr) : Sp := fun vs H Q _ => ∃ (x : Addr) (y : V) (t u : Int), vs = [.ref x, y] ∧ RatAt C H x t u ∧
  ((∃ r t' u', y = .ref r ∧ RatAt C H r t' u' ∧ Q (.bl (decide (t = t' ∧ u = u'))) H) ∨ (∃ i, y = .int i ∧ Q (.bl (decide (u = 1 ∧ t = i))) H) ∨
    (∃ q, TyX K H y q ∧ PySem.W.kitOne K q (.ref C) = some false ∧ IsTy K H y ∧ isI y = false ∧ Q (.bl false) H))
theorem sc_req : FnScope ["self", "other"] ["self", "other"] (defScope s_req) := ⟨rfl, rfl, rfl, by decide +kernel, rfl, by decide +kernel, by decide +kernel⟩
theorem dec_int2 (a b : Int) : decide (V.int a = V.int b) = decide (a = b) := by
  by_cases h : a = b
  · rw [h, decide_eq_true rfl, decide_eq_true rfl]
  · rw [decide_eq_false h, decide_eq_false fun e => h (V.int.inj e)]
theorem ok_req {f C fI : Addr} {fd fdI : FuncData} (F : Fun K "__eq__" "Ratio.__eq__" s_req f fd) (T : CTx K C) (Y : ITy K C) (Z : KZx K C) (B : ITx mg) (m_C : mg "Ratio" = some (.ref C))
    (G_I : FnOk P w K mg base CX0 1 fI fdI ["value"] (spIsInt K)) (m_I : mg "is_an_integer" = some (.ref fI)) (k_I : PySem.W.keepIn K (.ref fI) = true) (b_I : Binds K fdI ["value"] []) :
    FnOk P w K mg base CX0 2 f fd ["self", "other"] (spR_eq K C) := by
  refine F.ok sc_req (fun vs H Q E h => ?_) (fun cdv A outer s H vs Q E hr h => ?_)
  · obtain ⟨x, y, t, u, rfl, _⟩ := h
    rfl
  · obtain ⟨x, y, t, u, rfl, hx, h⟩ := h
    refine ⟨_, (pss_cons (ps_if (pt_val (pe_callB call_isi (by rfl) B.b_isinstance (by decide +kernel) (pa_cons (pv 1) (pa_cons (pe_glob (v := .ref C) rfl m_C rfl) pa_nil))))
        (pss_one (ps_ret (pe_and (pe_cmpR op_eq (pe_fld (pv 0) rfl) (pe_fld (pv 1) rfl) (nomark _)) (pe_one (pe_cmpR op_eq (pe_fld (pv 0) rfl) (pe_fld (pv 1) rfl) (nomark _)))))) pss_nil)
      (pss_one (ps_ret (pe_and (pe_call G_I hr rfl m_I k_I b_I .nil pass0 (pa_cons (pv 1) pa_nil)) (pe_and (pe_cmpR op_eq (pe_fld (pv 0) rfl) pe_int (nomark _)) (pe_one (pe_cmpR op_eq (pe_fld (pv 0) rfl) (pv 1) (nomark _)))))))), ?_⟩
    obtain ⟨dx, hx0⟩ := id hx
    rcases h with ⟨r, t', u', rfl, hr1, k⟩ | ⟨i, rfl, k⟩ | ⟨q, ty, kb, it, ni, k⟩
    · obtain ⟨dr, hr0⟩ := id hr1
      refine ⟨_, rfl, _, _, _, _, true, rfl, .own C, hr1.ty T Y, kit_self, _, rfl, iteT ?_⟩
      refine ⟨_, rfl, x, C, dx, _, _, rfl, hx0, T.cl, T.nT, rf_top _ _, _, rfl, r, C, dr, _, _, rfl, hr0, T.cl, T.nT, rf_top _ _, rfl, _, rfl, ?_⟩
      rw [dec_int2]
      by_cases e : t = t'
      · rw [decide_eq_true e]
        refine iteT ⟨_, rfl, x, C, dx, _, _, rfl, hx0, T.cl, T.nB, rf_bottom _ _, _, rfl, r, C, dr, _, _, rfl, hr0, T.cl, T.nB, rf_bottom _ _, rfl, ?_⟩
        show Q (.bl (decide (V.int u = V.int u'))) H
        rw [dec_int2]
        simp only [e, true_and] at k
        exact k
      · rw [decide_eq_false e]
        refine iteF ?_
        simp only [e, false_and, decide_false] at k
        exact k
    · refine ⟨_, rfl, _, _, _, _, false, rfl, .own C, .base (.int _), Z.kint, _, rfl, iteF ?_⟩
      refine ⟨_, rfl, _, rfl, .int i, _, rfl, iteT ?_⟩
      refine ⟨_, rfl, x, C, dx, _, _, rfl, hx0, T.cl, T.nB, rf_bottom _ _, rfl, _, rfl, ?_⟩
      rw [dec_int2]
      by_cases e : u = 1
      · rw [decide_eq_true e]
        refine iteT ⟨_, rfl, x, C, dx, _, _, rfl, hx0, T.cl, T.nT, rf_top _ _, _, rfl, rfl, ?_⟩
        show Q (.bl (decide (V.int t = V.int i))) H
        rw [dec_int2]
        simp only [e, true_and] at k
        exact k
      · rw [decide_eq_false e]
        refine iteF ?_
        simp only [e, false_and, decide_false] at k
        exact k
    · refine ⟨_, rfl, _, _, _, _, false, rfl, .own C, ty, kb, _, rfl, iteF ?_⟩
      refine ⟨_, rfl, y, rfl, it, _, rfl, ?_⟩
      rw [ni]
      exact iteF k
end
end Sq

namespace Sq
open PySem L2 PyProof.Rows
abbrev s_isprime : Stmt := top 22
abbrev s_inverse : Stmt := top 24
/-! ### primes -/
/-- no divisor from 2 on whose square is at most n -/
def isP (n : Nat) : Bool := (List.range 100).all fun d => !(decide (2 ≤ d) && decide (d * d ≤ n) && decide (n % d = 0))
def rt (n : Nat) : Bool := let r := Float64.isqrt n; Nat.ble (r * r) n && Nat.blt n ((r + 1) * (r + 1))
def chk : Nat → Nat → Bool
  | 0, _ => true
  | k + 1, b => rt (b + k) && chk k b
theorem chk_at {n : Nat} : ∀ {k b : Nat}, chk k b = true → b ≤ n → n < b + k → rt n = true
  | 0, b, _, h1, h2 => absurd h2 (by omega)
  | k + 1, b, h, h1, h2 => by
    obtain ⟨ha, hb⟩ := Bool.and_eq_true_iff.mp h
    by_cases e : n = b + k
    · rw [e]
      exact ha
    · exact chk_at hb h1 (by omega)
theorem chk0 : chk 100 0 = true := by decide +kernel
theorem chk1 : chk 100 100 = true := by decide +kernel
theorem chk2 : chk 100 200 = true := by decide +kernel
theorem chk3 : chk 100 300 = true := by decide +kernel
theorem chk4 : chk 100 400 = true := by decide +kernel
theorem chk5 : chk 100 500 = true := by decide +kernel
theorem chk6 : chk 100 600 = true := by decide +kernel
theorem chk7 : chk 100 700 = true := by decide +kernel
theorem chk8 : chk 100 800 = true := by decide +kernel
theorem chk9 : chk 100 900 = true := by decide +kernel
theorem chk10 : chk 100 1000 = true := by decide +kernel
theorem chk11 : chk 100 1100 = true := by decide +kernel
theorem chk12 : chk 100 1200 = true := by decide +kernel
theorem chk13 : chk 100 1300 = true := by decide +kernel
theorem chk14 : chk 100 1400 = true := by decide +kernel
theorem chk15 : chk 100 1500 = true := by decide +kernel
theorem chk16 : chk 100 1600 = true := by decide +kernel
theorem chk17 : chk 100 1700 = true := by decide +kernel
theorem chk18 : chk 100 1800 = true := by decide +kernel
theorem chk19 : chk 100 1900 = true := by decide +kernel
theorem chk20 : chk 100 2000 = true := by decide +kernel
theorem chk21 : chk 100 2100 = true := by decide +kernel
theorem chk22 : chk 100 2200 = true := by decide +kernel
theorem chk23 : chk 100 2300 = true := by decide +kernel
theorem chk24 : chk 100 2400 = true := by decide +kernel
theorem chk25 : chk 100 2500 = true := by decide +kernel
theorem chk26 : chk 100 2600 = true := by decide +kernel
theorem chk27 : chk 100 2700 = true := by decide +kernel
theorem chk28 : chk 100 2800 = true := by decide +kernel
theorem chk29 : chk 100 2900 = true := by decide +kernel
theorem chk30 : chk 100 3000 = true := by decide +kernel
theorem chk31 : chk 100 3100 = true := by decide +kernel
theorem chk32 : chk 100 3200 = true := by decide +kernel
theorem chk33 : chk 100 3300 = true := by decide +kernel
theorem chk34 : chk 100 3400 = true := by decide +kernel
theorem chk35 : chk 100 3500 = true := by decide +kernel
theorem chk36 : chk 100 3600 = true := by decide +kernel
theorem chk37 : chk 100 3700 = true := by decide +kernel
theorem chk38 : chk 100 3800 = true := by decide +kernel
theorem chk39 : chk 100 3900 = true := by decide +kernel
theorem chk40 : chk 100 4000 = true := by decide +kernel
theorem chk41 : chk 100 4100 = true := by decide +kernel
theorem chk42 : chk 100 4200 = true := by decide +kernel
theorem chk43 : chk 100 4300 = true := by decide +kernel
theorem chk44 : chk 100 4400 = true := by decide +kernel
theorem chk45 : chk 100 4500 = true := by decide +kernel
theorem chk46 : chk 100 4600 = true := by decide +kernel
theorem chk47 : chk 100 4700 = true := by decide +kernel
theorem chk48 : chk 100 4800 = true := by decide +kernel
theorem chk49 : chk 100 4900 = true := by decide +kernel
theorem chk50 : chk 100 5000 = true := by decide +kernel
theorem chk51 : chk 100 5100 = true := by decide +kernel
theorem chk52 : chk 100 5200 = true := by decide +kernel
theorem chk53 : chk 100 5300 = true := by decide +kernel
theorem chk54 : chk 100 5400 = true := by decide +kernel
theorem chk55 : chk 100 5500 = true := by decide +kernel
theorem chk56 : chk 100 5600 = true := by decide +kernel
theorem chk57 : chk 100 5700 = true := by decide +kernel
theorem chk58 : chk 100 5800 = true := by decide +kernel
theorem chk59 : chk 100 5900 = true := by decide +kernel
theorem chk60 : chk 100 6000 = true := by decide +kernel
theorem chk61 : chk 100 6100 = true := by decide +kernel
theorem chk62 : chk 100 6200 = true := by decide +kernel
theorem chk63 : chk 100 6300 = true := by decide +kernel
theorem chk64 : chk 100 6400 = true := by decide +kernel
theorem chk65 : chk 100 6500 = true := by decide +kernel
theorem chk66 : chk 100 6600 = true := by decide +kernel
theorem chk67 : chk 100 6700 = true := by decide +kernel
theorem chk68 : chk 100 6800 = true := by decide +kernel
theorem chk69 : chk 100 6900 = true := by decide +kernel
theorem chk70 : chk 100 7000 = true := by decide +kernel
theorem chk71 : chk 100 7100 = true := by decide +kernel
theorem chk72 : chk 100 7200 = true := by decide +kernel
theorem chk73 : chk 100 7300 = true := by decide +kernel
theorem chk74 : chk 100 7400 = true := by decide +kernel
theorem chk75 : chk 100 7500 = true := by decide +kernel
theorem chk76 : chk 100 7600 = true := by decide +kernel
theorem chk77 : chk 100 7700 = true := by decide +kernel
theorem chk78 : chk 100 7800 = true := by decide +kernel
theorem chk79 : chk 100 7900 = true := by decide +kernel
theorem chk80 : chk 100 8000 = true := by decide +kernel
theorem chk81 : chk 100 8100 = true := by decide +kernel
theorem chk82 : chk 100 8200 = true := by decide +kernel
theorem chk83 : chk 100 8300 = true := by decide +kernel
theorem chk84 : chk 100 8400 = true := by decide +kernel
theorem chk85 : chk 100 8500 = true := by decide +kernel
theorem chk86 : chk 100 8600 = true := by decide +kernel
theorem chk87 : chk 100 8700 = true := by decide +kernel
theorem chk88 : chk 100 8800 = true := by decide +kernel
theorem chk89 : chk 100 8900 = true := by decide +kernel
theorem chk90 : chk 100 9000 = true := by decide +kernel
theorem chk91 : chk 100 9100 = true := by decide +kernel
theorem chk92 : chk 100 9200 = true := by decide +kernel
theorem chk93 : chk 100 9300 = true := by decide +kernel
theorem chk94 : chk 100 9400 = true := by decide +kernel
theorem chk95 : chk 100 9500 = true := by decide +kernel
theorem chk96 : chk 100 9600 = true := by decide +kernel
theorem chk97 : chk 100 9700 = true := by decide +kernel
theorem chk98 : chk 100 9800 = true := by decide +kernel
theorem chk99 : chk 100 9900 = true := by decide +kernel
theorem chk_all : ∀ c, c < 100 → chk 100 (c * 100) = true := fun c hc => match c, hc with
  | 0, _ => chk0
  | 1, _ => chk1
  | 2, _ => chk2
  | 3, _ => chk3
  | 4, _ => chk4
  | 5, _ => chk5
  | 6, _ => chk6
  | 7, _ => chk7
  | 8, _ => chk8
  | 9, _ => chk9
  | 10, _ => chk10
  | 11, _ => chk11
  | 12, _ => chk12
  | 13, _ => chk13
  | 14, _ => chk14
  | 15, _ => chk15
  | 16, _ => chk16
  | 17, _ => chk17
  | 18, _ => chk18
  | 19, _ => chk19
  | 20, _ => chk20
  | 21, _ => chk21
  | 22, _ => chk22
  | 23, _ => chk23
  | 24, _ => chk24
  | 25, _ => chk25
  | 26, _ => chk26
  | 27, _ => chk27
  | 28, _ => chk28
  | 29, _ => chk29
  | 30, _ => chk30
  | 31, _ => chk31
  | 32, _ => chk32
  | 33, _ => chk33
  | 34, _ => chk34
  | 35, _ => chk35
  | 36, _ => chk36
  | 37, _ => chk37
  | 38, _ => chk38
  | 39, _ => chk39
  | 40, _ => chk40
  | 41, _ => chk41
  | 42, _ => chk42
  | 43, _ => chk43
  | 44, _ => chk44
  | 45, _ => chk45
  | 46, _ => chk46
  | 47, _ => chk47
  | 48, _ => chk48
  | 49, _ => chk49
  | 50, _ => chk50
  | 51, _ => chk51
  | 52, _ => chk52
  | 53, _ => chk53
  | 54, _ => chk54
  | 55, _ => chk55
  | 56, _ => chk56
  | 57, _ => chk57
  | 58, _ => chk58
  | 59, _ => chk59
  | 60, _ => chk60
  | 61, _ => chk61
  | 62, _ => chk62
  | 63, _ => chk63
  | 64, _ => chk64
  | 65, _ => chk65
  | 66, _ => chk66
  | 67, _ => chk67
  | 68, _ => chk68
  | 69, _ => chk69
  | 70, _ => chk70
  | 71, _ => chk71
  | 72, _ => chk72
  | 73, _ => chk73
  | 74, _ => chk74
  | 75, _ => chk75
  | 76, _ => chk76
  | 77, _ => chk77
  | 78, _ => chk78
  | 79, _ => chk79
  | 80, _ => chk80
  | 81, _ => chk81
  | 82, _ => chk82
  | 83, _ => chk83
  | 84, _ => chk84
  | 85, _ => chk85
  | 86, _ => chk86
  | 87, _ => chk87
  | 88, _ => chk88
  | 89, _ => chk89
  | 90, _ => chk90
  | 91, _ => chk91
  | 92, _ => chk92
  | 93, _ => chk93
  | 94, _ => chk94
  | 95, _ => chk95
  | 96, _ => chk96
  | 97, _ => chk97
  | 98, _ => chk98
  | 99, _ => chk99
  | n + 100, h => absurd h (by omega)
theorem root_ok (n : Nat) (h : n < 9974) : Float64.isqrt n * Float64.isqrt n ≤ n ∧ n < (Float64.isqrt n + 1) * (Float64.isqrt n + 1) := by
  have e : rt n = true := chk_at (chk_all (n / 100) (by omega)) (by omega) (by omega)
  obtain ⟨h1, h2⟩ := Bool.and_eq_true_iff.mp e
  exact ⟨Nat.le_of_ble_eq_true h1, by simpa [Nat.blt_eq] using h2⟩
theorem root_le {n d : Nat} (h : n < 9974) : d ≤ Float64.isqrt n ↔ d * d ≤ n := by
  obtain ⟨h1, h2⟩ := root_ok n h
  constructor
  · intro e
    exact Nat.le_trans (Nat.mul_le_mul e e) h1
  · intro e
    refine Nat.le_of_not_lt fun c => ?_
    have := Nat.mul_le_mul (Nat.succ_le_of_lt c) (Nat.succ_le_of_lt c)
    simp only [Nat.succ_eq_add_one] at this
    omega
theorem sq_lt {n d : Nat} (h : n < 9974) (e : d * d ≤ n) : d < 100 := by
  refine Nat.lt_of_not_le fun c => ?_
  have := Nat.mul_le_mul c c
  omega
theorem isP_no {n d : Nat} (h2 : 2 ≤ d) (hn : n < 9974) (hs : d * d ≤ n) (hm : n % d = 0) : isP n = false := by
  cases e : isP n with
  | false => rfl
  | true =>
    have q := List.all_eq_true.mp e d (List.mem_range.mpr (sq_lt hn hs))
    simp [h2, hs, hm] at q
theorem isP_yes {n : Nat} (h : ∀ d, 2 ≤ d → d * d ≤ n → n % d ≠ 0) : isP n = true := by
  refine List.all_eq_true.mpr fun d _ => ?_
  by_cases h2 : 2 ≤ d
  · by_cases hs : d * d ≤ n
    · simp [h2, hs, h d h2 hs]
    · simp [hs]
  · simp [h2]
theorem isP_at {n d : Nat} (h : isP n = true) (h2 : 2 ≤ d) (hn : n < 9974) (hs : d * d ≤ n) : n % d ≠ 0 := fun e => by
  rw [isP_no h2 hn hs e] at h
  cases h
def rRoot : List V → Hp → VK → Prop := fun vs H Q => ∃ a : Nat, vs = [.int (a : Int)] ∧ a < 2 ^ 64 ∧ Q (.int ((Float64.isqrt a : Nat) : Int)) H
theorem cr_root {X : Cx} : CallR X (.builtin "math.isqrt") rRoot := by
  intro pins s σ H vs us Q I r h
  obtain ⟨a, rfl, ha, q⟩ := h
  cases r with
  | @cons _ u _ _ r1 r2 =>
    cases r2
    obtain ⟨t, rfl⟩ := (show ∃ t, u = Value.int (a : Int) t from r1)
    exact PySem.W.mg_isqrt (by omega) (by omega) ⟨.int ((Float64.isqrt a : Nat) : Int), H, I.tok _, ⟨s.toks, by rw [Int.toNat_natCast]⟩, q⟩
structure RTx (mg : Str → Option Value) : Prop where
  g_isqrt : mg "isqrt" = some (.builtin "math.isqrt")
  b_range : mg "range" = none
def spPrime : Sp := fun vs H Q _ => ∃ n : Nat, vs = [.int (n : Int)] ∧ n < 9974 ∧ Q (.bl (isP n)) H
section
variable {P : Program} {w : World} {K : PySem.W.Frag} {mg : Str → Option Value} {base : Heap}
theorem sc_isprime : FnScope ["count", "divisor"] ["count"] (defScope s_isprime) := ⟨rfl, rfl, rfl, by decide +kernel, rfl, by decide +kernel, by decide +kernel⟩
theorem ok_isprime {f : Addr} {fd : FuncData} (F : Fun K "_is_prime" "_is_prime" s_isprime f fd) (T : RTx mg) : FnOk P w K mg base CX0 1 f fd ["count"] spPrime := by
  refine F.ok sc_isprime (fun vs H Q E h => ?_) (fun cdv A outer s H vs Q E hr h => ?_)
  · obtain ⟨x, rfl, _⟩ := h
    rfl
  · obtain ⟨n, rfl, hn, k⟩ := h
    refine ⟨_, pss_cons (ps_for PassesOwn.never rfl (pi_range2 (by rfl) T.b_range (pa_cons pe_int (pa_cons (pe_op op_add (pe_callBfun cr_root (by rfl) T.g_isqrt (pa_cons (pv 0) pa_nil)) pe_int) pa_nil))) (pg_name (i := 1) sc_isprime.nd rfl (Or.inl rfl)) (pss_one (ps_if (pt_cmpR op_eq (pe_op op_mod (pv 0) (pv 1)) pe_int (nomark _)) (pss_one (ps_ret pe_bl)) pss_nil)))
      (pss_one (ps_ret pe_bl)), ?_⟩
    have r99 : Float64.isqrt n < 100 := sq_lt hn (root_ok n hn).1
    refine ⟨_, rfl, n, rfl, by omega, _, _, rfl, rfl, _, _, rfl, by omega, ?_⟩
    refine for_range (lo := 2) (n := (((Float64.isqrt n : Nat) : Int) + 1 - 2).toNat) (fun i σ H' => ∃ z, σ = [some (.int (n : Int)), z] ∧ H' = H ∧ ∀ d, 2 ≤ d → d < 2 + i → n % d ≠ 0) ⟨none, rfl, rfl, fun d h1 h2 => by omega⟩ ?_ ?_
    · rintro i σ H2 hi ⟨z, rfl, rfl, hd⟩
      have hle : 2 + i ≤ Float64.isqrt n := by omega
      have em : ((n : Int) % ((2 : Int) + (i : Int))) = ((n % (2 + i) : Nat) : Int) := by
        rw [Int.natCast_emod]
        rfl
      refine ⟨_, rfl, _, rfl, _, _, rfl, rfl, by omega, rfl, _, rfl, ite2 (fun c => ?_) (fun c => ?_)⟩
      · have e0 : n % (2 + i) = 0 := by
          have q : ((n : Int) % ((2 : Int) + (i : Int))) = 0 := V.int.inj (of_decide_eq_true c)
          rw [em] at q
          omega
        rw [isP_no (by omega) hn ((root_le hn).mp hle) e0] at k
        exact k
      · refine ⟨_, rfl, rfl, fun d h1 h2 => ?_⟩
        by_cases e : d = 2 + i
        · subst e
          intro q
          refine c (decide_eq_true ?_)
          show V.int ((n : Int) % ((2 : Int) + (i : Int))) = V.int 0
          rw [em, q]
          rfl
        · exact hd d h1 (by omega)
    · rintro σ H2 ⟨z, rfl, rfl, hd⟩
      rw [isP_yes fun d h1 h2 => hd d h1 (by have := (root_le hn).mpr h2; omega)] at k
      exact k
def spInv : Sp := fun vs H Q _ => ∃ a p : Int, vs = [.int a, .int p] ∧ 1 ≤ a ∧ a < p ∧ p < 9974 ∧ Int.gcd p a = 1 ∧ ∀ r, 0 ≤ r → r < p → (∃ k, r * a = 1 + k * p) → ∀ H', Same H H' → Q (.int r) H'
theorem sc_inverse : FnScope ["number", "prime", "high", "low", "high_factor", "low_factor", "times"] ["number", "prime"] (defScope s_inverse) := ⟨rfl, rfl, rfl, by decide +kernel, rfl, by decide +kernel, by decide +kernel⟩
theorem ok_inverse {f : Addr} {fd : FuncData} (F : Fun K "_inverse" "_inverse" s_inverse f fd) : FnOk P w K mg base CX0 1 f fd ["number", "prime"] spInv := by
  refine F.ok sc_inverse (fun vs H Q E h => ?_) (fun cdv A outer s H vs Q E hr h => ?_)
  · obtain ⟨x, y, rfl, _⟩ := h
    rfl
  · obtain ⟨a, p, rfl, ha, hap, hp, hg, k⟩ := h
    refine ⟨_, (pss_cons (ps_par (i := 2) (j := 3) (by rfl) sc_inverse.nd rfl rfl (by decide) rfl rfl (pa_cons (pv 1) (pa_cons (pv 0) pa_nil)) (by rfl))
      (pss_cons (ps_asg (pe_tup (pa_cons pe_int (pa_cons pe_int pa_nil))) (pg_tup rfl (pgs_cons (pg_name (i := 4) sc_inverse.nd rfl (Or.inl rfl)) (pgs_cons (pg_name (i := 5) sc_inverse.nd rfl (Or.inl rfl)) pgs_nil))))
      (pss_cons (ps_while PassesOwn.never (pt_cmpR op_gt (pv 3) pe_int (nomark _)) (pss_cons (ps_set (i := 6) sc_inverse.nd rfl (Or.inl rfl) (pe_op op_fdiv (pv 2) (pv 3)))
      (pss_cons (ps_par (i := 2) (j := 3) (by rfl) sc_inverse.nd rfl rfl (by decide) rfl rfl (pa_cons (pv 3) (pa_cons (pe_op op_sub (pv 2) (pe_op op_mul (pv 6) (pv 3))) pa_nil)) (by rfl))
      (pss_one (ps_par (i := 4) (j := 5) (by rfl) sc_inverse.nd rfl rfl (by decide) rfl rfl (pa_cons (pv 5) (pa_cons (pe_op op_sub (pv 4) (pe_op op_mul (pv 6) (pv 5))) pa_nil)) (by rfl))))))
      (pss_one (ps_ret (pe_op op_mod (pv 5) (pv 1))))))), ?_⟩
    refine ⟨_, rfl, _, rfl, _, _, rfl, (by show 2 ≤ sizeLine; decide), fun q hq => ⟨q, _, rfl, .inl (.inl upd_same), rfl, _, _, rfl, _, _, rfl, rfl, ?_⟩⟩
    have s0 : Same H (upd H q (.tup [.int 0, .int 1])) := same_new (Same.refl _) hq
    refine while_by (fun σ H' => ∃ (x l xf lf : Int) (z : Option V) (s u v : Int), σ = [some (.int a), some (.int p), some (.int x), some (.int l), some (.int xf), some (.int lf), z] ∧ Same H H' ∧ 1 ≤ l ∧ l < x ∧ x ≤ p ∧ Int.gcd x l = 1 ∧ (∃ k, xf * a = x + k * p) ∧ (∃ k, lf * a = l + k * p) ∧
      (s = 1 ∨ s = -1) ∧ 0 ≤ u ∧ 0 ≤ v ∧ xf = -s * u ∧ lf = s * v ∧ x * v + l * u = p) (fun σ _ => match σ with | [_, _, _, some (.int l), _, _, _] => l.natAbs | _ => 0) ⟨p, a, 0, 1, none, 1, 0, 1, rfl, s0, ha, hap, Int.le_refl _, hg, ⟨-1, by omega⟩, ⟨0, by omega⟩, .inl rfl, by decide, by decide, rfl, rfl, by omega⟩ ?_ ?_
    · rintro σ H' ⟨x, l, xf, lf, z, s, u, v, rfl, sH, h1, h2, h3, hg2, ⟨k1, e1⟩, ⟨k2, e2⟩, hs, hu, hv, ex, el, id⟩
      have hvp : v ≤ p := by
        have a1 : 1 * v ≤ x * v := Int.mul_le_mul_of_nonneg_right (by omega) hv
        have a2 : 0 ≤ l * u := Int.mul_nonneg (by omega) hu
        omega
      refine ⟨_, rfl, _, _, rfl, rfl, _, rfl, ?_⟩
      refine ite2 (fun c => ?_) (fun c => ?_)
      · have l1 : 1 < l := of_decide_eq_true c
        have d1 : x / l * l ≤ x := Int.ediv_mul_le x (by omega)
        have t0 : 0 ≤ x / l := Int.ediv_nonneg (by omega) (by omega)
        have tx : x / l ≤ x := Int.ediv_le_self _ (by omega)
        have dm := Int.emod_add_mul_ediv x l
        have m0 := Int.emod_nonneg x (b := l) (by omega)
        have m1 := Int.emod_lt_of_pos x (b := l) (by omega)
        have er : x - x / l * l = x % l := by
          have e := Int.emod_def x l
          rw [Int.mul_comm] at e
          exact e.symm
        have gr : Int.gcd l (x % l) = 1 := by
          rw [← Int.fmod_eq_emod_of_nonneg x (by omega), gcd_fmod]
          exact hg2
        have mn : 1 ≤ x % l := by
          rcases (show x % l = 0 ∨ 1 ≤ x % l from by omega) with e | e
          · rw [e] at gr
            simp at gr
            omega
          · exact e
        have lfb : -(2 ^ 64) < lf ∧ lf < 2 ^ 64 := by rcases hs with rfl | rfl <;> omega
        refine ⟨_, rfl, _, rfl, _, _, rfl, rfl, ⟨by omega, by omega⟩, ?_⟩
        refine ⟨_, rfl, _, rfl, _, rfl, _, rfl, _, _, rfl, rfl, .inl ⟨by omega, by omega⟩, _, _, rfl, rfl, _, _, rfl, ?_⟩
        refine ⟨_, rfl, _, rfl, _, rfl, _, rfl, _, _, rfl, rfl, .inl ⟨by omega, by omega⟩, _, _, rfl, rfl, _, _, rfl, ?_⟩
        refine ⟨⟨l, x - x / l * l, lf, xf - x / l * lf, some (.int (x / l)), -s, v, u + x / l * v, rfl, sH, by omega, by omega, by omega, by rw [er]; exact gr, ⟨k2, e2⟩, ⟨k1 - x / l * k2, ?_⟩, by omega, hv, ?_, ?_, ?_, ?_⟩, ?_⟩
        · generalize x / l = t at *
          grind
        · have := Int.mul_nonneg t0 hv
          omega
        · rw [el]
          grind
        · rw [ex, el]
          generalize x / l = t at *
          grind
        · generalize x / l = t at *
          grind
        · show (x - x / l * l).natAbs < l.natAbs
          omega
      · have l1 : l = 1 := by
          have := of_decide_eq_false (by simpa using c : decide (1 < l) = false)
          omega
        refine ⟨_, rfl, _, rfl, _, _, rfl, rfl, (show 0 < p from by omega), ?_⟩
        refine k (lf % p) (Int.emod_nonneg _ (by omega)) (Int.emod_lt_of_pos _ (by omega)) ?_ H' sH
        have dm := Int.emod_def lf p
        refine ⟨k2 - lf / p * a, ?_⟩
        rw [dm]
        subst l1
        generalize lf / p = t at *
        grind
    · rintro σ H' Q1 Q2 hi c
      obtain ⟨v, e, x, y, e2, z, e3, c⟩ := c
      exact ⟨v, e, x, y, e2, z, e3, c.1, hi _ _ c.2⟩
end
end Sq

namespace Sq
open PySem L2 PyProof.Rows
abbrev s_finit : Stmt := inClass (top 25) 0
abbrev s_feq : Stmt := inClass (top 25) 1
abbrev s_fnum : Stmt := inClass (top 25) 2
abbrev s_fover : Stmt := inClass (top 25) 3
def goodP (p : Int) : Bool := decide (p = 0) || (decide (2 ≤ p) && decide (p ≤ 9973) && isP p.toNat)
theorem goodP_pos {p : Int} (h : goodP p = true) (h0 : p ≠ 0) : 2 ≤ p ∧ p ≤ 9973 ∧ isP p.toNat = true := by
  unfold goodP at h
  simp [h0] at h
  exact ⟨h.1.1, h.1.2, h.2⟩
theorem gcd_prime {p a : Int} (h2 : 2 ≤ p) (hp : p ≤ 9973) (h : isP p.toNat = true) (h1 : 1 ≤ a) (ha : a < p) : Int.gcd p a = 1 := by
  have dp : Int.gcd p a ∣ p.natAbs := Int.gcd_dvd_natAbs_left ..
  have da : Int.gcd p a ∣ a.natAbs := Int.gcd_dvd_natAbs_right ..
  generalize Int.gcd p a = g at *
  have pn : p.toNat = p.natAbs := by omega
  rw [pn] at h
  have ga : g ≤ a.natAbs := Nat.le_of_dvd (by omega) da
  obtain ⟨q, hq⟩ := dp
  have g0 : g ≠ 0 := fun e => by
    rw [e, Nat.zero_mul] at hq
    omega
  have q0 : q ≠ 0 := fun e => by
    rw [e, Nat.mul_zero] at hq
    omega
  have q1 : q ≠ 1 := fun e => by
    rw [e, Nat.mul_one] at hq
    omega
  by_cases g1 : g = 1
  · exact g1
  · exfalso
    rcases Nat.le_total g q with l | l
    · have := Nat.mul_le_mul (Nat.le_refl g) l
      exact isP_at h (d := g) (by omega) (by omega) (by omega) (by rw [hq]; exact Nat.mul_mod_right _ _)
    · have := Nat.mul_le_mul l (Nat.le_refl q)
      exact isP_at h (d := q) (by omega) (by omega) (by omega) (by rw [hq]; exact Nat.mul_mod_left _ _)
def pfl (p : Int) : List (Str × V) := putF "prime" (.int p) []
theorem pf_prime (p : Int) : (pfl p).lookup ("prime" : Str) = some (.int p) := by
  unfold pfl
  rw [lookup_putF, if_pos rfl]
theorem pf_no (p : Int) {m : Str} (h1 : ¬ m = "prime") : (pfl p).lookup m = none := by
  unfold pfl
  rw [lookup_putF, if_neg h1]
  rfl
def FldAt (CF : Addr) (H : Hp) (x : Addr) (p : Int) : Prop := ∃ dx, H x = some (.ins CF dx (pfl p))
theorem FldAt.same {C : Addr} {H H' : Hp} {x : Addr} {p : Int} (s : Same H H') (h : FldAt C H x p) : FldAt C H' x p := by
  obtain ⟨dx, h⟩ := h
  exact ⟨dx, s _ _ h⟩
structure FTx (K : PySem.W.Frag) (CF : Addr) : Prop where
  cl : Cls K CF
  nP : NoAttr K CF "prime"
/-- an own error without an __init__ that is raised -/
structure RNx (K : PySem.W.Frag) (mg : Str → Option Value) (x : Str) (CN : Addr) : Prop where
  q : PySem.W.excIn K CN [.type "ValueError", .type "Exception", .type "BaseException", .type "object"] "ValueError.__new__" = true
  m : mg x = some (.ref CN)
  k : PySem.W.keepIn K (.ref CN) = true
  ex : PySem.W.subIn K (.ref CN) (.type "BaseException") = some true
  ty : PySem.W.typeIn K (.ref CN) = some (.type "type")
theorem itD {c : Prop} [Decidable c] {a b : Prop} (h : c) (x : a) : ite c a b := by
  rw [if_pos h]
  exact x
theorem itDn {c : Prop} [Decidable c] {a b : Prop} (h : ¬ c) (x : b) : ite c a b := by
  rw [if_neg h]
  exact x
def spFieldInit (K : PySem.W.Frag) (CF CNF : Addr) : Sp := fun vs H Q E => ∃ (x dx : Addr) (v : V), vs = [.ref x, v] ∧ H x = some (.ins CF dx []) ∧ IsTy K H v ∧ ((∀ p, v = .int p → goodP p = false) → E (.ref CNF) none H) ∧
  (∀ p, v = .int p → goodP p = true → ∀ H', FldAt CF H' x p → But x H H' → Q .non H')
section
variable {P : Program} {w : World} {K : PySem.W.Frag} {mg : Str → Option Value} {base : Heap}
theorem sc_finit : FnScope ["self", "prime"] ["self", "prime"] (defScope s_finit) := ⟨rfl, rfl, rfl, by decide +kernel, rfl, by decide +kernel, by decide +kernel⟩
theorem ok_finit {f CF CNF fI fP : Addr} {fd fdI fdP : FuncData} {tk : Tok} (F : FunD K "__init__" "Field.__init__" (defArgs s_finit) (defBody s_finit) (defScope s_finit) [.int 0] [] f fd) (TF : FTx K CF) (RN : RNx K mg "NoField" CNF) (GP : mg "GREATEST_PRIME" = some (.int 9973 tk))
    (G_I : FnOk P w K mg base CX0 1 fI fdI ["value"] (spIsInt K)) (m_I : mg "is_an_integer" = some (.ref fI)) (k_I : PySem.W.keepIn K (.ref fI) = true) (b_I : Binds K fdI ["value"] [])
    (G_P : FnOk P w K mg base CX0 1 fP fdP ["count"] spPrime) (m_P : mg "_is_prime" = some (.ref fP)) (k_P : PySem.W.keepIn K (.ref fP) = true) (b_P : Binds K fdP ["count"] []) :
    FnOk P w K mg base (L2.CX P w) 2 f fd ["self", "prime"] (spFieldInit K CF CNF) := by
  refine F.ok sc_finit (fun vs H Q E h => ?_) (fun cdv A outer s H vs Q E hr h => ?_)
  · obtain ⟨x, dx, v, rfl, _⟩ := h
    rfl
  · obtain ⟨x, dx, v, rfl, hx, tv, kE, kQ⟩ := h
    refine ⟨_, (pss_cons (ps_if (pt_not (pt_val (pe_call G_I (hr.mono (by decide)) rfl m_I k_I b_I .nil pass0 (pa_cons (pv 1) pa_nil))))
        (pss_one (ps_raise rfl (takes_of rfl rfl rfl rfl) (pmk_own0 PySem.F.excBase_ValueError RN.q RN.m RN.k (raises_own RN.ex RN.ty) rfl)))
        pss_nil)
      (pss_cons (ps_if (PW.pt (pw_and (pt_cmpR op_ne (pv 1) pe_int (nomark _)) (pw_and1 (pt_not (PW.pt (pw_and (pt_chain op_le op_le pe_int (pv 1) (pe_glob (v := .int 9973) rfl GP ⟨_, rfl⟩)) (pw_and1 (pt_val (pe_call G_P (hr.mono (by decide)) rfl m_P k_P b_P .nil pass0 (pa_cons (pv 1) pa_nil))))))))))
        (pss_one (ps_raise rfl (takes_of rfl rfl rfl rfl) (pmk_own0 PySem.F.excBase_ValueError RN.q RN.m RN.k (raises_own RN.ex RN.ty) rfl)))
        pss_nil)
      (pss_one (ps_fld (pv 0) (pv 1) rfl)))), ?_⟩
    refine ⟨_, rfl, v, rfl, tv, _, rfl, ?_⟩
    cases ev : isI v with
    | false => exact iteT (kE fun p e => by rw [e] at ev; cases ev)
    | true =>
      obtain ⟨p, rfl⟩ := isI_int ev
      refine iteF ⟨_, rfl, rfl, _, rfl, ?_⟩
      have fin : goodP p = true → _ := fun hg => kQ p rfl hg (upd H x (.ins CF dx (pfl p))) ⟨dx, upd_same⟩ (But.refl x _).upd
      have sets : ∀ {Q' : Hp → Prop}, Q' (upd H x (.ins CF dx (pfl p))) → Q' (upd H x (.ins CF dx (putF "prime" (.int p) []))) := fun h => h
      by_cases p0 : p = 0
      · subst p0
        refine itDn (by simp) ?_
        exact ⟨_, rfl, _, rfl, x, CF, dx, [], rfl, hx, TF.cl, TF.nP, (by show 0 < 1000; decide), fin (by decide)⟩
      · refine itD (by simpa using p0) ?_
        refine ⟨_, rfl, _, _, rfl, rfl, _, rfl, ?_⟩
        by_cases c2 : 2 ≤ p
        · refine itD (by simpa using c2) ⟨_, _, rfl, rfl, _, rfl, ?_⟩
          by_cases c3 : p ≤ 9973
          · refine itD (by simpa using c3) ?_
            refine ⟨_, rfl, p.toNat, (by rw [Int.toNat_of_nonneg (by omega)]; rfl), by omega, _, rfl, ?_⟩
            cases hp : isP p.toNat with
            | true =>
              refine itDn (by decide) ?_
              exact ⟨_, rfl, _, rfl, x, CF, dx, [], rfl, hx, TF.cl, TF.nP, (by show 0 < 1000; decide), fin (by unfold goodP; simp [c2, c3, hp])⟩
            | false =>
              refine itD rfl ?_
              exact kE fun p2 e => by cases e; unfold goodP; simp [p0, hp]
          · exact itDn (by simpa using c3) (kE fun p' e => by cases e; unfold goodP; simp [p0, c3])
        · exact itDn (by simpa using c2) ⟨_, rfl, itDn (by decide) (kE fun p' e => by cases e; unfold goodP; simp [p0, c2])⟩
end
end Sq

namespace Sq
open PySem L2 PyProof.Rows
/-- whether y is a number -/
def NmTy (K : PySem.W.Frag) (C : Addr) (H : Hp) (y : V) (r : Bool) : Prop := ∃ (t : Value) (b : Bool), TyX K H y t ∧ PySem.W.kitOne K t (.ref C) = some b ∧ IsTy K H y ∧ (b || isI y) = r
def spNumI (C CF : Addr) : Sp := fun vs H Q _ => ∃ (x : Addr) (v p : Int), vs = [.ref x, .int v] ∧ FldAt CF H x p ∧ goodP p = true ∧ v.natAbs < 2 ^ 8000 ∧ (p = 0 → ∀ z H', RatAt C H' z v 1 → Same H H' → Q (.ref z) H') ∧ (p ≠ 0 → Q (.int (v % p)) H)
def spOverI (CF CNN : Addr) : Sp := fun vs H Q E => ∃ (x : Addr) (a b p : Int), vs = [.ref x, .int a, .int b] ∧ FldAt CF H x p ∧ goodP p = true ∧ p ≠ 0 ∧ a.natAbs < 2 ^ 8000 ∧ b.natAbs < 2 ^ 8000 ∧ (b % p = 0 → E (.ref CNN) none H) ∧
  (b % p ≠ 0 → ∀ r H', 0 ≤ r → r < p → (∃ k, r * b = a + k * p) → Same H H' → Q (.int r) H')
/-- the number of the field p that t / u is, or none -/
def spNum (K : PySem.W.Frag) (C CF CNN : Addr) : Sp := fun vs H Q E => ∃ (x : Addr) (y : V) (p : Int), vs = [.ref x, y] ∧ FldAt CF H x p ∧ goodP p = true ∧
  ((NmTy K C H y false ∧ E (.ref CNN) none H) ∨ ∃ t u, NumAt C H y t u ∧ 1 ≤ u ∧ t.natAbs < 2 ^ 8000 ∧ u.natAbs < 2 ^ 8000 ∧
    (p = 0 → ∀ z H', RatAt C H' z t u → Same H H' → Q (.ref z) H') ∧
    (p ≠ 0 → u % p = 0 → E (.ref CNN) none H) ∧
    (p ≠ 0 → u % p ≠ 0 → ∀ r H', 0 ≤ r → r < p → (∃ k, r * u = t + k * p) → Same H H' → Q (.int r) H'))
section
variable {P : Program} {w : World} {K : PySem.W.Frag} {mg : Str → Option Value} {base : Heap}
theorem sc_fnum : FnScope ["self", "value"] ["self", "value"] (defScope s_fnum) := ⟨rfl, rfl, rfl, by decide +kernel, rfl, by decide +kernel, by decide +kernel⟩
theorem ok_numI {f C CF CNN fN fA : Addr} {fd fdN fdA : FuncData} (F : Fun K "number" "Field.number" s_fnum f fd) (T : CTx K C) (TF : FTx K CF) (Z : KZx K C) (B : ITx mg) (m_C : mg "Ratio" = some (.ref C)) (RN : RNx K mg "NoNumber" CNN)
    (G_N : FnOk P w K mg base CX0 2 fN fdN ["value"] (spIsNum K C)) (m_N : mg "is_number" = some (.ref fN)) (k_N : PySem.W.keepIn K (.ref fN) = true) (b_N : Binds K fdN ["value"] [])
    (G_A : FnOk P w K mg base CX0 5 fA fdA ["number"] (spAsRatio C)) (m_A : mg "as_ratio" = some (.ref fA)) (k_A : PySem.W.keepIn K (.ref fA) = true) (b_A : Binds K fdA ["number"] []) :
    FnOk P w K mg base (L2.CX P w) 6 f fd ["self", "value"] (spNumI C CF) := by
  refine F.okX sc_fnum (fun vs H Q E h => ?_) (fun cdv A outer s H vs Q E hr h => ?_)
  · obtain ⟨x, v, p, rfl, _⟩ := h
    rfl
  · obtain ⟨x, v, p, rfl, hx, hg, sv, k0, kp⟩ := h
    refine ⟨_, (pss_cons (ps_if (pt_not (pt_val (pe_call G_N (hr.mono (by decide)) rfl m_N k_N b_N .nil pass0 (pa_cons (pv 1) pa_nil))))
        (pss_one (ps_raise rfl (takes_of rfl rfl rfl rfl) (pmk_own0 PySem.F.excBase_ValueError RN.q RN.m RN.k (raises_own RN.ex RN.ty) rfl)))
        pss_nil)
      (pss_cons (ps_if (pt_cmpR op_eq (pe_fld (pv 0) rfl) pe_int (nomark _))
        (pss_one (ps_ret (pe_call G_A (hr.mono (by decide)) rfl m_A k_A b_A .nil pass0 (pa_cons (pv 1) pa_nil))))
        pss_nil)
      (pss_cons (ps_if (pt_val (pe_callB call_isi (by rfl) B.b_isinstance (by decide +kernel) (pa_cons (pv 1) (pa_cons (pe_glob (v := .ref C) rfl m_C rfl) pa_nil))))
        (pss_one ps_never)
        pss_nil)
      (pss_one (ps_ret (pe_op op_mod (pv 1) (pe_fld (pv 0) rfl))))))), ?_⟩
    obtain ⟨dx, hx0⟩ := id hx
    refine ⟨_, rfl, .int v, .type "int", false, rfl, .base (.int _), Z.kint, .int _, _, rfl, iteF ?_⟩
    refine ⟨_, rfl, x, CF, dx, _, _, rfl, hx0, TF.cl, TF.nP, pf_prime _, rfl, _, rfl, ?_⟩
    by_cases p0 : p = 0
    · refine itD (by simpa using p0) ?_
      exact ⟨_, rfl, .int v, v, 1, rfl, .inr ⟨rfl, rfl⟩, sv, fun r H1 hr1 s1 => k0 p0 r H1 hr1 s1⟩
    · refine itDn (by simpa using p0) ?_
      refine ⟨_, rfl, _, _, _, _, false, rfl, .own C, .base (.int _), Z.kint, _, rfl, iteF ?_⟩
      obtain ⟨p2, _, _⟩ := goodP_pos hg p0
      exact ⟨_, rfl, _, rfl, x, CF, dx, _, _, rfl, hx0, TF.cl, TF.nP, pf_prime _, _, _, rfl, rfl, (show 0 < p from by omega), kp p0⟩
theorem sc_fover : FnScope ["self", "one", "other", "top", "bottom"] ["self", "one", "other"] (defScope s_fover) := ⟨rfl, rfl, rfl, by decide +kernel, rfl, by decide +kernel, by decide +kernel⟩
theorem ok_overI {f C CF CNN fnum finv : Addr} {fd fdnum fdinv : FuncData} (F : Fun K "over" "Field.over" s_fover f fd) (TF : FTx K CF) (RN : RNx K mg "NoNumber" CNN)
    (Me_num : Meth K CF "number" fnum) (G_num : FnOk P w K mg base (L2.CX P w) 6 fnum fdnum ["self", "value"] (spNumI C CF)) (b_num : Binds K fdnum ["self", "value"] [])
    (G_inv : FnOk P w K mg base CX0 1 finv fdinv ["number", "prime"] spInv) (m_inv : mg "_inverse" = some (.ref finv)) (k_inv : PySem.W.keepIn K (.ref finv) = true) (b_inv : Binds K fdinv ["number", "prime"] []) :
    FnOk P w K mg base (L2.CX P w) 7 f fd ["self", "one", "other"] (spOverI CF CNN) := by
  refine F.okX sc_fover (fun vs H Q E h => ?_) (fun cdv A outer s H vs Q E hr h => ?_)
  · obtain ⟨x, a, b, p, rfl, _⟩ := h
    rfl
  · obtain ⟨x, a, b, p, rfl, hx, hg, p0, sa, sb, kE, k⟩ := h
    refine ⟨_, (pss_cons (ps_set (i := 3) sc_fover.nd rfl (Or.inl rfl) (pe_meth (E := E) (pv 0) TF.cl Me_num G_num (hr.mono (by decide)) b_num .nil (passes_call (takes_of rfl rfl rfl rfl) fun _ _ _ _ h => h) (pa_cons (pv 1) pa_nil)))
      (pss_cons (ps_set (i := 4) sc_fover.nd rfl (Or.inl rfl) (pe_meth (E := E) (pv 0) TF.cl Me_num G_num (hr.mono (by decide)) b_num .nil (passes_call (takes_of rfl rfl rfl rfl) fun _ _ _ _ h => h) (pa_cons (pv 2) pa_nil)))
      (pss_cons (ps_if (pt_cmpR op_eq (pv 4) pe_int (nomark _))
        (pss_one (ps_raise rfl (takes_of rfl rfl rfl rfl) (pmk_own0 PySem.F.excBase_ValueError RN.q RN.m RN.k (raises_own RN.ex RN.ty) rfl)))
        pss_nil)
      (pss_cons (ps_if (pt_cmpR op_eq (pe_fld (pv 0) rfl) pe_int (nomark _))
        (pss_one ps_never)
        pss_nil)
      (pss_one (ps_ret (pe_op op_mod (pe_op op_mul (pv 3) (pe_call G_inv (hr.mono (by decide)) rfl m_inv k_inv b_inv .nil pass0 (pa_cons (pv 4) (pa_cons (pe_fld (pv 0) rfl) pa_nil)))) (pe_fld (pv 0) rfl)))))))), ?_⟩
    obtain ⟨dx, hx0⟩ := id hx
    obtain ⟨p2, p3, hp⟩ := goodP_pos hg p0
    have a0 := Int.emod_nonneg a p0
    have a1 := Int.emod_lt_of_pos a (show 0 < p from by omega)
    have b0 := Int.emod_nonneg b p0
    have b1 := Int.emod_lt_of_pos b (show 0 < p from by omega)
    refine ⟨_, rfl, x, dx, _, rfl, hx0, pf_no _ (by decide +kernel), _, rfl, x, a, p, rfl, hx, hg, sa, fun e => absurd e p0, fun _ => ?_⟩
    refine ⟨_, rfl, x, dx, _, rfl, hx0, pf_no _ (by decide +kernel), _, rfl, x, b, p, rfl, hx, hg, sb, fun e => absurd e p0, fun _ => ?_⟩
    refine ⟨_, rfl, rfl, _, rfl, ?_⟩
    by_cases z : b % p = 0
    · refine itD (by simpa using z) ?_
      exact kE z
    · refine itDn (by simpa using z) ?_
      refine ⟨_, rfl, x, CF, dx, _, _, rfl, hx0, TF.cl, TF.nP, pf_prime _, rfl, _, rfl, itDn (by simpa using p0) ?_⟩
      refine ⟨_, rfl, _, rfl, _, rfl, x, CF, dx, _, _, rfl, hx0, TF.cl, TF.nP, pf_prime _, b % p, p, rfl, by omega, b1, by omega, gcd_prime p2 p3 hp (by omega) b1, fun r r0 r1 ⟨q, hq⟩ H1 s1 => ?_⟩
      refine ⟨_, _, rfl, rfl, .inl ⟨by omega, by omega⟩, _, rfl, x, CF, dx, _, _, rfl, s1 _ _ hx0, TF.cl, TF.nP, pf_prime _, _, _, rfl, rfl, (show 0 < p from by omega), ?_⟩
      refine k z _ H1 (Int.emod_nonneg _ p0) (Int.emod_lt_of_pos _ (by omega)) ?_ s1
      have da := Int.emod_def a p
      have db := Int.emod_def b p
      have dm := Int.emod_def (a % p * r) p
      generalize a % p * r / p = e1 at *
      generalize a / p = e2 at *
      generalize b / p = e3 at *
      generalize a % p = a' at *
      generalize b % p = b' at *
      refine ⟨a' * q + a' * r * e3 - e1 * b - e2, ?_⟩
      rw [dm]
      grind
end
end Sq

namespace Sq
open PySem L2 PyProof.Rows
theorem tyX_same {K : PySem.W.Frag} {H H' : Hp} {x : V} {t : Value} (s : Same H H') (ty : TyX K H x t) : TyX K H' x t := by
  cases ty with
  | base b =>
    refine .base ?_
    cases b with
    | non => exact .non
    | bl => exact .bl _
    | int => exact .int _
    | str => exact .str _
    | flt => exact .flt _
    | lst e => exact .lst (s _ _ e)
    | frz e => exact .frz (s _ _ e)
    | tup e => exact .tup (s _ _ e)
    | dK e => exact .dK (s _ _ e)
    | dT e => exact .dT (s _ _ e)
    | ins e c1 c2 c3 c4 c5 => exact .ins (s _ _ e) c1 c2 c3 c4 c5
  | byt => exact .byt _
  | set e => exact .set (s _ _ e)
  | kList e c => exact .kList e c
  | kTuple e c => exact .kTuple e c
  | kDict e c => exact .kDict e c
  | fTuple e => exact .fTuple (s _ _ e)
  | fDict e => exact .fDict (s _ _ e)
theorem NmTy.same {K : PySem.W.Frag} {C : Addr} {H H' : Hp} {y : V} {r : Bool} (s : Same H H') (h : NmTy K C H y r) : NmTy K C H' y r := by
  obtain ⟨t, b, ty, kb, it, e⟩ := h
  exact ⟨t, b, tyX_same s ty, kb, it.same s, e⟩
def spOver (K : PySem.W.Frag) (C CF CNN : Addr) : Sp := fun vs H Q E => ∃ (x : Addr) (y1 y2 : V) (p : Int), vs = [.ref x, y1, y2] ∧ FldAt CF H x p ∧ goodP p = true ∧
  ((NmTy K C H y1 false ∧ E (.ref CNN) none H) ∨ ∃ t u, NumAt C H y1 t u ∧ 1 ≤ u ∧ Fit t ∧ Fit u ∧
    (p ≠ 0 → u % p = 0 → E (.ref CNN) none H) ∧
    (¬ (p ≠ 0 ∧ u % p = 0) → (NmTy K C H y2 false ∧ ∀ H1, Same H H1 → E (.ref CNN) none H1) ∨ ∃ t' u', NumAt C H y2 t' u' ∧ 1 ≤ u' ∧ Int.gcd t' u' = 1 ∧ Fit t' ∧ Fit u' ∧
      (p = 0 → (t' = 0 → ∀ H1, Same H H1 → E (.ref CNN) none H1) ∧ (t' ≠ 0 → ∀ z T U H', Low (t * u') (u * t') T U → RatAt C H' z T U → Same H H' → Q (.ref z) H')) ∧
      (p ≠ 0 → u' % p = 0 → ∀ H1, Same H H1 → E (.ref CNN) none H1) ∧
      (p ≠ 0 → u' % p ≠ 0 → t' % p = 0 → ∀ H1, Same H H1 → E (.ref CNN) none H1) ∧
      (p ≠ 0 → u' % p ≠ 0 → t' % p ≠ 0 → ∀ r H', 0 ≤ r → r < p → (∃ k, r * (u * t') = t * u' + k * p) → Same H H' → Q (.int r) H')))
theorem zero_mod {p r u t k : Int} (h2 : 2 ≤ p) (hp : p ≤ 9973) (hi : isP p.toNat = true) (hu : u % p ≠ 0) (r0 : 0 ≤ r) (r1 : r < p) (e : r * u = t + k * p) : r = 0 ↔ t % p = 0 := by
  constructor
  · intro z
    rw [z, Int.zero_mul] at e
    have : t = -k * p := by
      rw [Int.neg_mul]
      omega
    rw [this]
    exact Int.mul_emod_left ..
  · intro z
    by_cases c : r = 0
    · exact c
    · exfalso
      have g := gcd_prime h2 hp hi (show 1 ≤ r from by omega) r1
      have d : p ∣ r * u := by
        rw [e]
        exact Int.dvd_add (Int.dvd_of_emod_eq_zero z) (Int.dvd_mul_left ..)
      have dn : p.natAbs ∣ r.natAbs * u.natAbs := by
        rw [← Int.natAbs_mul]
        exact Int.natAbs_dvd_natAbs.mpr d
      have du : p.natAbs ∣ u.natAbs := Nat.Coprime.dvd_of_dvd_mul_left (show Nat.Coprime p.natAbs r.natAbs from g) dn
      exact hu (Int.emod_eq_zero_of_dvd (Int.natAbs_dvd_natAbs.mp du))
section
variable {P : Program} {w : World} {K : PySem.W.Frag} {mg : Str → Option Value} {base : Heap}
theorem ok_num {f C CF CNN fN fA fover : Addr} {fd fdN fdA fdover : FuncData} (F : Fun K "number" "Field.number" s_fnum f fd) (T : CTx K C) (TF : FTx K CF) (Y : ITy K C) (Z : KZx K C) (B : ITx mg) (m_C : mg "Ratio" = some (.ref C)) (RN : RNx K mg "NoNumber" CNN)
    (G_N : FnOk P w K mg base CX0 2 fN fdN ["value"] (spIsNum K C)) (m_N : mg "is_number" = some (.ref fN)) (k_N : PySem.W.keepIn K (.ref fN) = true) (b_N : Binds K fdN ["value"] [])
    (G_A : FnOk P w K mg base CX0 5 fA fdA ["number"] (spAsRatio C)) (m_A : mg "as_ratio" = some (.ref fA)) (k_A : PySem.W.keepIn K (.ref fA) = true) (b_A : Binds K fdA ["number"] [])
    (Me_over : Meth K CF "over" fover) (G_over : FnOk P w K mg base (L2.CX P w) 7 fover fdover ["self", "one", "other"] (spOverI CF CNN)) (b_over : Binds K fdover ["self", "one", "other"] []) :
    FnOk P w K mg base (L2.CX P w) 8 f fd ["self", "value"] (spNum K C CF CNN) := by
  refine F.okX sc_fnum (fun vs H Q E h => ?_) (fun cdv A outer s H vs Q E hr h => ?_)
  · obtain ⟨x, v, p, rfl, _⟩ := h
    rfl
  · obtain ⟨x, y, p, rfl, hx, hg, h⟩ := h
    refine ⟨_, (pss_cons (ps_if (pt_not (pt_val (pe_call G_N (hr.mono (by decide)) rfl m_N k_N b_N .nil pass0 (pa_cons (pv 1) pa_nil))))
        (pss_one (ps_raise rfl (takes_of rfl rfl rfl rfl) (pmk_own0 PySem.F.excBase_ValueError RN.q RN.m RN.k (raises_own RN.ex RN.ty) rfl)))
        pss_nil)
      (pss_cons (ps_if (pt_cmpR op_eq (pe_fld (pv 0) rfl) pe_int (nomark _))
        (pss_one (ps_ret (pe_call G_A (hr.mono (by decide)) rfl m_A k_A b_A .nil pass0 (pa_cons (pv 1) pa_nil))))
        pss_nil)
      (pss_cons (ps_if (pt_val (pe_callB call_isi (by rfl) B.b_isinstance (by decide +kernel) (pa_cons (pv 1) (pa_cons (pe_glob (v := .ref C) rfl m_C rfl) pa_nil))))
        (pss_one (ps_ret (pe_meth (E := E) (pv 0) TF.cl Me_over G_over (hr.mono (by decide)) b_over .nil (passes_call (takes_of rfl rfl rfl rfl) fun _ _ _ _ h => h) (pa_cons (pe_fld (pv 1) rfl) (pa_cons (pe_fld (pv 1) rfl) pa_nil)))))
        pss_nil)
      (pss_one (ps_ret (pe_op op_mod (pv 1) (pe_fld (pv 0) rfl))))))), ?_⟩
    obtain ⟨dx, hx0⟩ := id hx
    rcases h with ⟨⟨t, b, ty, kb, it, e⟩, kE⟩ | ⟨t, u, hy, pu, st, su, k0, kE, kp⟩
    · refine ⟨_, rfl, y, t, b, rfl, ty, kb, it, _, rfl, ?_⟩
      rw [e]
      exact iteT kE
    · obtain ⟨q, b, hq, kb, hi, hbi⟩ := num_is T Y Z hy
      refine ⟨_, rfl, y, q, b, rfl, hq, kb, hi, _, rfl, ?_⟩
      rw [hbi]
      refine iteF ?_
      refine ⟨_, rfl, x, CF, dx, _, _, rfl, hx0, TF.cl, TF.nP, pf_prime _, rfl, _, rfl, ?_⟩
      by_cases p0 : p = 0
      · refine itD (by simpa using p0) ?_
        exact ⟨_, rfl, y, t, u, rfl, hy, st, fun r H1 hr1 s1 => k0 p0 r H1 hr1 s1⟩
      · refine itDn (by simpa using p0) ?_
        rcases hy with ⟨r, rfl, hr1⟩ | ⟨rfl, rfl⟩
        · refine ⟨_, rfl, _, _, _, _, true, rfl, .own C, hr1.ty T Y, kit_self, _, rfl, iteT ?_⟩
          obtain ⟨dr, hr0⟩ := id hr1
          exact ⟨_, rfl, x, dx, _, rfl, hx0, pf_no _ (by decide +kernel), _, rfl, r, C, dr, _, _, rfl, hr0, T.cl, T.nT, rf_top _ _, _, rfl, r, C, dr, _, _, rfl, hr0, T.cl, T.nB, rf_bottom _ _, x, t, u, p, rfl, hx, hg, p0, st, su, kE p0, kp p0⟩
        · refine ⟨_, rfl, _, _, _, _, false, rfl, .own C, .base (.int _), Z.kint, _, rfl, iteF ?_⟩
          obtain ⟨p2, _, _⟩ := goodP_pos hg p0
          refine ⟨_, rfl, _, rfl, x, CF, dx, _, _, rfl, hx0, TF.cl, TF.nP, pf_prime _, _, _, rfl, rfl, (show 0 < p from by omega), ?_⟩
          refine kp p0 ?_ _ H (Int.emod_nonneg _ p0) (Int.emod_lt_of_pos _ (by omega)) ?_ (Same.refl H)
          · rw [Int.emod_eq_of_lt (by decide) (by omega)]
            decide
          · have dm := Int.emod_def t p
            refine ⟨-(t / p), ?_⟩
            rw [dm]
            generalize t / p = e1
            grind
theorem ok_fover {f C CF CN CNN fnum finv frover feq : Addr} {fd fdnum fdinv fdrover fdeq : FuncData} (F : Fun K "over" "Field.over" s_fover f fd) (T : CTx K C) (TF : FTx K CF) (Y : ITy K C) (RN : RNx K mg "NoNumber" CNN)
    (Me_num : Meth K CF "number" fnum) (G_num : FnOk P w K mg base (L2.CX P w) 8 fnum fdnum ["self", "value"] (spNum K C CF CNN)) (b_num : Binds K fdnum ["self", "value"] [])
    (G_inv : FnOk P w K mg base CX0 1 finv fdinv ["number", "prime"] spInv) (m_inv : mg "_inverse" = some (.ref finv)) (k_inv : PySem.W.keepIn K (.ref finv) = true) (b_inv : Binds K fdinv ["number", "prime"] [])
    (Me_rover : Meth K C "over" frover) (G_rover : FnOk P w K mg base (L2.CX P w) 6 frover fdrover ["self", "other"] (spR_over C CN)) (b_rover : Binds K fdrover ["self", "other"] [])
    (O_eq : OwnOp K C feq "__eq__") (nf1 : PySem.W.notFirst K C (.type "int") = true) (G_eq : FnOk P w K mg base CX0 2 feq fdeq ["self", "other"] (spR_eq K C)) (b_eq : Binds K fdeq ["self", "other"] []) :
    FnOk P w K mg base (L2.CX P w) 9 f fd ["self", "one", "other"] (spOver K C CF CNN) := by
  refine F.okX sc_fover (fun vs H Q E h => ?_) (fun cdv A outer s H vs Q E hr h => ?_)
  · obtain ⟨x, a, b, p, rfl, _⟩ := h
    rfl
  · obtain ⟨x, y1, y2, p, rfl, hx, hg, h⟩ := h
    refine ⟨_, (pss_cons (ps_set (i := 3) sc_fover.nd rfl (Or.inl rfl) (pe_meth (E := E) (pv 0) TF.cl Me_num G_num (hr.mono (by decide)) b_num .nil (passes_call (takes_of rfl rfl rfl rfl) fun _ _ _ _ h => h) (pa_cons (pv 1) pa_nil)))
      (pss_cons (ps_set (i := 4) sc_fover.nd rfl (Or.inl rfl) (pe_meth (E := E) (pv 0) TF.cl Me_num G_num (hr.mono (by decide)) b_num .nil (passes_call (takes_of rfl rfl rfl rfl) fun _ _ _ _ h => h) (pa_cons (pv 2) pa_nil)))
      (pss_cons (ps_if (pt_cmpR (op_or op_eq (op_ownEq O_eq G_eq (hr.mono (by decide)) b_eq pass0)) (pv 4) pe_int (nomark _))
        (pss_one (ps_raise rfl (takes_of rfl rfl rfl rfl) (pmk_own0 PySem.F.excBase_ValueError RN.q RN.m RN.k (raises_own RN.ex RN.ty) rfl)))
        pss_nil)
      (pss_cons (ps_if (pt_cmpR op_eq (pe_fld (pv 0) rfl) pe_int (nomark _))
        (pss_one (ps_ret (pe_meth (E := fun _ _ _ => False) (pv 3) T.cl Me_rover G_rover (hr.mono (by decide)) b_rover .nil passL (pa_cons (pv 4) pa_nil))))
        pss_nil)
      (pss_one (ps_ret (pe_op op_mod (pe_op op_mul (pv 3) (pe_call G_inv (hr.mono (by decide)) rfl m_inv k_inv b_inv .nil pass0 (pa_cons (pv 4) (pa_cons (pe_fld (pv 0) rfl) pa_nil)))) (pe_fld (pv 0) rfl)))))))), ?_⟩
    obtain ⟨dx, hx0⟩ := id hx
    have up8 : ∀ {z : Int}, Fit z → z.natAbs < 2 ^ 8000 := fun h => fit_up h
    refine ⟨_, rfl, x, dx, _, rfl, hx0, pf_no _ (by decide +kernel), _, rfl, x, y1, p, rfl, hx, hg, ?_⟩
    rcases h with ⟨b1, kE⟩ | ⟨t, u, hy, pu, st, su, kE, k⟩
    · exact .inl ⟨b1, kE⟩
    · refine .inr ⟨t, u, hy, pu, up8 st, up8 su, fun p0 z H1 hz s1 => ?_, kE, fun p0 up r1 H1 r10 r11 ⟨k1, hk1⟩ s1 => ?_⟩
      · subst p0
        obtain ⟨dz, hz0⟩ := id hz
        refine ⟨_, rfl, x, dx, _, rfl, s1 _ _ hx0, pf_no _ (by decide +kernel), _, rfl, x, y2, 0, rfl, hx.same s1, hg, ?_⟩
        rcases k (fun h => h.1 rfl) with ⟨b2, k2⟩ | ⟨t', u', hy2, pu2, cop, st2, su2, kz, _, _, _⟩
        · exact .inl ⟨b2.same s1, k2 H1 s1⟩
        · refine .inr ⟨t', u', hy2.same s1, pu2, up8 st2, up8 su2, fun _ z2 H2 hz2 s2 => ?_, fun h => absurd rfl h, fun h => absurd rfl h⟩
          obtain ⟨dz2, hz20⟩ := id hz2
          refine ⟨_, rfl, .inr ⟨z2, dz2, _, _, rfl, hz20, .base (.int _), nf1, z2, .int 0, t', u', rfl, hz2, .inr (.inl ⟨0, rfl, _, rfl, ?_⟩)⟩⟩
          by_cases c : t' = 0
          · have u1 : u' = 1 := by
              rw [c] at cop
              simp at cop
              omega
            refine itD (by simp [c, u1]) ?_
            exact (kz rfl).1 c H2 (s1.trans s2)
          · refine itDn (by simp [c]) ?_
            refine ⟨_, rfl, x, CF, dx, _, _, rfl, s2 _ _ (s1 _ _ hx0), TF.cl, TF.nP, pf_prime _, rfl, _, rfl, itD (by simp) ?_⟩
            refine ⟨_, rfl, z, dz, _, rfl, s2 _ _ hz0, rf_no _ _ (by decide +kernel) (by decide +kernel), _, rfl, z, .ref z2, t, u, t', u', rfl, hz.same s2, .inl ⟨z2, rfl, hz2⟩, pu, pu2, st, su, st2, su2, fun h => absurd h c, fun _ z3 T3 U3 H3 L R s3 => ?_⟩
            exact (kz rfl).2 c z3 T3 U3 H3 L R ((s1.trans s2).trans s3)
      · obtain ⟨p2, p3, hp⟩ := goodP_pos hg p0
        refine ⟨_, rfl, x, dx, _, rfl, s1 _ _ hx0, pf_no _ (by decide +kernel), _, rfl, x, y2, p, rfl, hx.same s1, hg, ?_⟩
        rcases k (fun h => up h.2) with ⟨b2, k2⟩ | ⟨t', u', hy2, pu2, cop, st2, su2, _, k3, k4, k5⟩
        · exact .inl ⟨b2.same s1, k2 H1 s1⟩
        · refine .inr ⟨t', u', hy2.same s1, pu2, up8 st2, up8 su2, fun h => absurd h p0, fun _ h => k3 p0 h H1 s1, fun _ up2 r2 H2 r20 r21 ⟨k2, hk2⟩ s2 => ?_⟩
          have zm := zero_mod p2 p3 hp up2 r20 r21 hk2
          refine ⟨_, rfl, .inl ⟨rfl, _, rfl, ?_⟩⟩
          by_cases c : r2 = 0
          · refine itD (by simpa using c) ?_
            exact k4 p0 up2 (zm.mp c) H2 (s1.trans s2)
          · refine itDn (by simpa using c) ?_
            refine ⟨_, rfl, x, CF, dx, _, _, rfl, s2 _ _ (s1 _ _ hx0), TF.cl, TF.nP, pf_prime _, rfl, _, rfl, itDn (by simpa using p0) ?_⟩
            refine ⟨_, rfl, _, rfl, _, rfl, x, CF, dx, _, _, rfl, s2 _ _ (s1 _ _ hx0), TF.cl, TF.nP, pf_prime _, r2, p, rfl, by omega, r21, by omega, gcd_prime p2 p3 hp (by omega) r21, fun r r0 rl ⟨q, hq⟩ H3 s3 => ?_⟩
            refine ⟨_, _, rfl, rfl, .inl ⟨by omega, by omega⟩, _, rfl, x, CF, dx, _, _, rfl, s3 _ _ (s2 _ _ (s1 _ _ hx0)), TF.cl, TF.nP, pf_prime _, _, _, rfl, rfl, (show 0 < p from by omega), ?_⟩
            refine k5 p0 up2 (fun h => c (zm.mpr h)) _ H3 (Int.emod_nonneg _ p0) (Int.emod_lt_of_pos _ (by omega)) ?_ ((s1.trans s2).trans s3)
            have dm := Int.emod_def (r1 * r) p
            generalize r1 * r / p = e1 at *
            refine ⟨r1 * u * q * u' - e1 * u * t' - r1 * r * u * k2 + k1 * u', ?_⟩
            rw [dm]
            grind
end
end Sq

namespace Sq
open PySem L2 PyProof.Rows
abbrev s_lip : Stmt := top 56
abbrev s_lpr : Stmt := top 57
def spLip : Sp := fun vs H Q _ => ∃ n : Nat, vs = [.int (n : Int)] ∧ 2 ≤ n ∧ n < 9974 ∧ Q (.bl (isP n)) H
def spLpr : Sp := fun vs H Q _ => ∃ p, vs = [.ref p] ∧ StAt H p ∧ ∀ m H', goodP m = true → StAt H' p → But p H H' → Q (.int m) H'
theorem StAt.same {H H' : Hp} {p : Addr} (S : StAt H p) (s : Same H H') : StAt H' p := by
  obtain ⟨a, ns, i, l, m, c, h1, h2, r⟩ := S
  exact ⟨a, ns, i, l, m, c, s _ _ h1, s _ _ h2, r⟩
theorem StAt.ne {H : Hp} {p q : Addr} (S : StAt H p) (hq : H q = none) : q ≠ p := by
  obtain ⟨a, ns, i, l, m, c, h1, _⟩ := S
  exact (ne_of_none h1 hq).symm
theorem good_int {n : Nat} (h2 : 2 ≤ n) (hn : n < 9974) (h : isP n = true) : goodP (n : Int) = true := by
  unfold goodP
  have : ((n : Int)).toNat = n := Int.toNat_natCast n
  rw [this, h]
  simp
  omega
theorem small_prime {v : Int} (h0 : 0 ≤ v) (h6 : v < 6) : ∃ m, atI [V.int 2, V.int 3, V.int 5, V.int 7, V.int 11, V.int 13] v = some (.int m) ∧ goodP m = true := by
  have c : v = 0 ∨ v = 1 ∨ v = 2 ∨ v = 3 ∨ v = 4 ∨ v = 5 := by omega
  rcases c with rfl | rfl | rfl | rfl | rfl | rfl <;> exact ⟨_, rfl, by decide +kernel⟩
section
variable {P : Program} {w : World} {K : PySem.W.Frag} {mg : Str → Option Value} {base : Heap}
theorem sc_lip : FnScope ["_law_value", "_law_divisor"] ["_law_value"] (defScope s_lip) := ⟨rfl, rfl, rfl, by decide +kernel, rfl, by decide +kernel, by decide +kernel⟩
theorem ok_lip {f : Addr} {fd : FuncData} (F : Fun K "_law_is_prime" "_law_is_prime" s_lip f fd) (T : DTx mg) : FnOk P w K mg base CX0 1 f fd ["_law_value"] spLip := by
  refine F.ok sc_lip (fun vs H Q E h => ?_) (fun cdv A outer s H vs Q E hr h => ?_)
  · obtain ⟨x, rfl, _⟩ := h
    rfl
  · obtain ⟨n, rfl, h2, hn, k⟩ := h
    refine ⟨_, (pss_cons (ps_for PassesOwn.never rfl (pi_range2 (by rfl) T.b_range (pa_cons pe_int (pa_cons pe_int pa_nil))) (pg_name (i := 1) sc_lip.nd rfl (Or.inl rfl)) (pss_one (ps_if (PW.pt (pw_and (pt_cmpR op_le (pe_op op_mul (pv 1) (pv 1)) (pv 0) (nomark _)) (pw_and1 (pt_cmpR op_eq (pe_op op_mod (pe_callTy call_int1 (by rfl) T.b_int (by decide +kernel) (pa_cons (pv 0) pa_nil)) (pv 1)) pe_int (nomark _)))))
        (pss_one (ps_ret pe_bl))
        pss_nil)))
      (pss_one (ps_ret (pe_cmpR op_gt (pv 0) pe_int (nomark _))))), ?_⟩
    refine ⟨_, _, rfl, by omega, ?_⟩
    refine for_range (lo := 2) (n := 98) (fun i σ H' => ∃ z, σ = [some (.int (n : Int)), z] ∧ H' = H ∧ ∀ d, 2 ≤ d → d < 2 + i → d * d ≤ n → n % d ≠ 0) ⟨none, rfl, rfl, fun d h1 h2 => by omega⟩ ?_ ?_
    · rintro i σ H2 hi ⟨z, rfl, rfl, hd⟩
      have em : ((n : Int) % ((2 : Int) + (i : Int))) = ((n % (2 + i) : Nat) : Int) := by
        rw [Int.natCast_emod]
        rfl
      have eq : ((2 : Int) + (i : Int)) * ((2 : Int) + (i : Int)) = (((2 + i) * (2 + i) : Nat) : Int) := by
        push_cast
        rfl
      refine ⟨_, rfl, _, rfl, _, _, rfl, rfl, .inl ⟨by omega, by omega⟩, _, rfl, _, _, rfl, rfl, _, rfl, ?_⟩
      have next : (n % (2 + i) = 0 → ¬ (2 + i) * (2 + i) ≤ n) → ∀ d, 2 ≤ d → d < 2 + (i + 1) → d * d ≤ n → n % d ≠ 0 := fun h d h1 h2 hs => by
        by_cases e : d = 2 + i
        · subst e
          exact fun q => h q hs
        · exact hd d h1 (by omega) hs
      by_cases c : (2 + i) * (2 + i) ≤ n
      · have hle : ((2 : Int) + (i : Int)) * ((2 : Int) + (i : Int)) ≤ (n : Int) := by
          rw [eq]
          exact Int.ofNat_le.mpr c
        refine itD (decide_eq_true hle) ?_
        refine ⟨_, rfl, .inl ⟨_, rfl, _, rfl, _, _, rfl, rfl, by omega, rfl, _, rfl, ?_⟩⟩
        by_cases e0 : n % (2 + i) = 0
        · refine itD (decide_eq_true (by show V.int ((n : Int) % ((2 : Int) + (i : Int))) = V.int 0; rw [em, e0]; rfl)) ?_
          rw [isP_no (by omega) hn c e0] at k
          exact k
        · refine itDn (fun h => e0 (by have q : ((n : Int) % ((2 : Int) + (i : Int))) = 0 := V.int.inj (of_decide_eq_true h); rw [em] at q; omega)) ?_
          exact ⟨_, rfl, rfl, next fun q => absurd q e0⟩
      · have hle : ¬ ((2 : Int) + (i : Int)) * ((2 : Int) + (i : Int)) ≤ (n : Int) := by
          rw [eq]
          exact fun h => c (Int.ofNat_le.mp h)
        refine itDn (fun h => hle (of_decide_eq_true h)) ?_
        exact ⟨_, rfl, rfl, next fun _ => c⟩
    · rintro σ H2 ⟨z, rfl, rfl, hd⟩
      have e : isP n = true := isP_yes fun d h1 hs => hd d h1 (by have := sq_lt hn hs; omega) hs
      rw [e] at k
      refine ⟨_, rfl, _, _, rfl, rfl, ?_⟩
      show Q (.bl (decide ((1 : Int) < (n : Int)))) H2
      rw [decide_eq_true (by omega)]
      exact k
theorem sc_lpr : FnScope ["_law_state_here", "_law_kind", "_law_value", "_law_step"] ["_law_state_here"] (defScope s_lpr) := ⟨rfl, rfl, rfl, by decide +kernel, rfl, by decide +kernel, by decide +kernel⟩
theorem ok_lpr {f fdraw flip : Addr} {fd fddraw fdlip : FuncData} (F : Fun K "_law_prime" "_law_prime" s_lpr f fd) (T : DTx mg) (G_draw : FnOk P w K mg base CX0 1 fdraw fddraw ["_law_state_here", "_law_many"] spDraw) (m_draw : mg "_law_draw" = some (.ref fdraw)) (k_draw : PySem.W.keepIn K (.ref fdraw) = true) (b_draw : Binds K fddraw ["_law_state_here", "_law_many"] []) (G_lip : FnOk P w K mg base CX0 1 flip fdlip ["_law_value"] spLip) (m_lip : mg "_law_is_prime" = some (.ref flip)) (k_lip : PySem.W.keepIn K (.ref flip) = true) (b_lip : Binds K fdlip ["_law_value"] []) : FnOk P w K mg base CX0 2 f fd ["_law_state_here"] spLpr := by
  refine F.ok sc_lpr (fun vs H Q E h => ?_) (fun cdv A outer s H vs Q E hr h => ?_)
  · obtain ⟨x, rfl, _⟩ := h
    rfl
  · obtain ⟨p, rfl, S0, k⟩ := h
    refine ⟨_, (pss_cons (ps_set (i := 1) sc_lpr.nd rfl (Or.inl rfl) (pe_call G_draw (hr.mono (by decide)) rfl m_draw k_draw b_draw .nil pass0 (pa_cons (pv 0) (pa_cons pe_int pa_nil))))
      (pss_cons (ps_if (pt_cmpR op_lt (pv 1) pe_int (nomark _))
        (pss_one (ps_ret pe_int))
        pss_nil)
      (pss_cons (ps_if (pt_cmpR op_lt (pv 1) pe_int (nomark _))
        (pss_one (ps_ret (pe_ix ix_list (pe_lst (pa_cons pe_int (pa_cons pe_int (pa_cons pe_int (pa_cons pe_int (pa_cons pe_int (pa_cons pe_int pa_nil))))))) (pe_call G_draw (hr.mono (by decide)) rfl m_draw k_draw b_draw .nil pass0 (pa_cons (pv 0) (pa_cons pe_int pa_nil))) (fun _ _ => rfl))))
        pss_nil)
      (pss_cons (ps_set (i := 2) sc_lpr.nd rfl (Or.inl rfl) (pe_op op_add pe_int (pe_call G_draw (hr.mono (by decide)) rfl m_draw k_draw b_draw .nil pass0 (pa_cons (pv 0) (pa_cons pe_int pa_nil)))))
      (pss_cons (ps_for PassesOwn.never rfl (pi_range1 (by rfl) T.b_range (pa_cons pe_int pa_nil)) (pg_name (i := 3) sc_lpr.nd rfl (Or.inl rfl)) (pss_cons (ps_if (pt_val (pe_call G_lip (hr.mono (by decide)) rfl m_lip k_lip b_lip .nil pass0 (pa_cons (pv 2) pa_nil)))
        (pss_one (ps_ret (pv 2)))
        pss_nil)
      (pss_one (ps_set (i := 2) sc_lpr.nd rfl (Or.inl rfl) (pe_op op_sub (pv 2) pe_int)))))
      (pss_one (ps_ret pe_int))))))), ?_⟩
    refine ⟨_, rfl, p, 6, rfl, by decide, by decide, S0, fun kd H1 k0 k6 S1 B1 => ?_⟩
    refine ⟨_, rfl, _, _, rfl, rfl, _, rfl, ite2 (fun c => ?_) (fun c => ?_)⟩
    · exact k 0 H1 (by decide) S1 B1
    · refine ⟨_, rfl, _, _, rfl, rfl, _, rfl, ite2 (fun c => ?_) (fun c => ?_)⟩
      · refine ⟨(by show 6 ≤ sizeLine; decide), fun q hq => ⟨_, rfl, p, 6, rfl, by decide, by decide, S1.same (same_new (Same.refl _) hq), fun v H2 v0 v6 S2 B2 => ?_⟩⟩
        obtain ⟨m, hm, gm⟩ := small_prime v0 v6
        exact ⟨q, _, _, _, rfl, rfl, SqL.of (B2 q _ upd_same (S1.ne hq)), hm, k m H2 gm S2 ((B1.new hq).trans B2)⟩
      · refine ⟨_, rfl, p, 9972, rfl, by decide, by decide, S1, fun v H2 v0 v1 S2 B2 => ⟨_, _, rfl, rfl, ?_⟩⟩
        refine ⟨40, rfl, by decide, by decide, ?_⟩
        refine for_range (lo := 0) (n := 40) (fun i σ H' => ∃ (z : Option V) (n : Nat), σ = [some (.ref p), some (.int kd), some (.int (n : Int)), z] ∧ 2 ≤ n ∧ n < 9974 ∧ H' = H2) ⟨none, (2 + v).toNat, by rw [Int.toNat_of_nonneg (by omega)]; rfl, by omega, by omega, rfl⟩ ?_ ?_
        · rintro i σ H3 hi ⟨z, n, rfl, n2, n9, rfl⟩
          refine ⟨_, rfl, n, rfl, n2, n9, _, rfl, ?_⟩
          cases hp : isP n with
          | true => exact iteT ⟨_, rfl, k n _ (good_int n2 n9 hp) S2 (B1.trans B2)⟩
          | false =>
            refine iteF ⟨_, rfl, _, _, rfl, rfl, ⟨some (.int (0 + (i : Int))), n - 1, ?_, ?_, by omega, rfl⟩⟩
            · have e : ((n - 1 : Nat) : Int) = (n : Int) - 1 := by omega
              rw [e]
              rfl
            · by_cases e : n = 2
              · subst e
                exact absurd hp (by decide +kernel)
              · omega
        · rintro σ H3 ⟨z, n, rfl, n2, n9, rfl⟩
          exact k 2 _ (by decide +kernel) S2 (B1.trans B2)
end
end Sq

namespace Sq
open PySem L2 PyProof.Rows Builtin
section
variable {X : Cx} {CX : CXT} {k : Nat} {f C : Addr} {fd : FuncData} {ps : List Str} {sp : Sp} {E : XK}
/-- a def run one C level deeper -/
theorem run_in1 {pins : List (Addr × Obj)} {σ : L2.St} {H : Hp} {s : Shared} {us : List Value} {vs : List V} {Q : VK} (G : FnOk X.prog X.w X.K X.mg X.base CX k f fd ps sp) (hr : Room (k + 1) X.A) (hb : Binds X.K fd ps []) (hx : Passes CX X E)
    (I : Inv X pins σ H s) (r : Vals vs us) (h : sp vs H Q E) : wpAny (model X.prog X.w) X.A.in1 (call (.ref f) us) (EP X pins σ Q) X.xe s := by
  have e0 : Env0 X.prog X.w X.K X.mg X.base X.A.in1 X.stack s H := by
    have e := I.env0
    exact ⟨e.frames, e.mod, e.bs, e.bsz, e.funs, e.frf, e.hok, e.bare⟩
  have hl := G.len _ _ _ _ h
  have bd := hb s us I.kIn (by rw [List.append_nil, ← r.length]; exact hl)
  rw [List.append_nil] at bd
  refine wpAny_call (codeAny_mono (G.run X.A.in1 X.stack s H ⟨us, []⟩ us vs Q E hr.in1 e0 bd r h) fun q s' hq => ?_)
  cases q with
  | error e => exact hx pins σ H s e s' I hq
  | ok fl =>
    cases fl with
    | ret w =>
      obtain ⟨z, H', I', rz, ez⟩ := I.after hq
      exact ⟨z, H', I', rz, ez⟩
    | next => exact False.elim hq
    | brk => exact False.elim hq
    | cont => exact False.elim hq
/-- a != b, a's class has its own == and object's != -/
def rOwnNe (K : PySem.W.Frag) (C : Addr) (sp : Sp) (E : XK) : R2 := fun x y H Q => ∃ a dx fs t, x = .ref a ∧ H a = some (.ins C dx fs) ∧ TyX K H y t ∧ PySem.W.notFirst K C t = true ∧ sp [x, y] H (fun v H' => ∃ b, v = .bl b ∧ Q (.bl (!b)) H') E
theorem op_ownNe (O : NeOp X.K C f) (G : FnOk X.prog X.w X.K X.mg X.base CX k f fd ps sp) (hr : Room (k + 1) X.A) (hb : Binds X.K fd ps []) (hx : Passes CX X E) : OpR X (compareOp .NotEq) (rOwnNe X.K C sp E) := by
  rintro pins s σ H x y v u Q I rx ry ⟨a, dx, fs, t, rfl, ha, hty, hn, hsp⟩
  cases rx
  obtain ⟨od, J⟩ := inst_at I ha
  obtain ⟨m, hF⟩ := I.fr
  obtain ⟨Pt, KX, hp, _⟩ := kit_of I ry hty
  have Y := I.kIn
  have tb := KX.ty (model X.prog X.w) _ Y hp
  have sub : PySem.W.Looks (model X.prog X.w) s.heap (isInstance (.ref a) (.type "object")) true := J.type.andThen (PySem.W.looks_mroIn Y O.ob)
  have hcall := run_in1 (us := [.ref a, u]) (vs := [.ref a, y]) G hr hb hx I (.cons rfl (.cons ry .nil)) hsp
  have one : wpAny (model X.prog X.w) X.A (tryCompare (.ref a) (cmpInfo .NotEq).2.1 u) (fun r s' => ∃ v, r = some v ∧ EP X pins σ Q v s') X.xe s := by
    unfold tryCompare
    refine wpAny_bind (if_bound Y J O.ne (fun self => PySem.F.slot_object_ne.bind self) ?_)
    refine wpAny_call (codeAny_call_builtin PySem.F.slot_object_ne.plain F.cmpEntry_ne (@PySem.W.check_slot (model X.prog X.w) _ _ s "object.__ne__" "object" "__ne__" (.ref a) [u] [] _ F.cmpKind_ne F.cmpSplit_ne sub (F.cmpArgs_ne _ _) ?_))
    unfold Builtin.«object.__ne__»
    refine wpAny_bind (wpAny_of_eq (a := ((Value.ref a : Value), [u])) (by first | rfl | (simp only [slotArgs]; rfl)) ?_)
    refine wpAny_bind (wpAny_cRoomFor hr.in1.units0 ?_)
    refine wpAny_bind (PySem.W.ifBound_K Y J O.eq O.fn (wpAny_mono hcall (fun r s' hr' => ?_) fun _ _ e => e))
    obtain ⟨z, H', I', rz, b, rfl, q⟩ := hr'
    cases rz
    refine wpAny_bind (wpAny_truthy_bool ?_)
    refine wpAny_pure ?_
    exact wpAny_pure ⟨_, rfl, .bl (!b), H', I', rfl, q⟩
  show wpAny (model X.prog X.w) X.A (richCompare .NotEq (.ref a) u) (EP X pins σ Q) X.xe s
  unfold richCompare
  simp only [oneThing_ref]
  refine wpAny_holding (wpAny_bind (wpAny_cRoomFor hr.units0 ?_))
  refine wpAny_bind (J.type.here (wpAny_bind (tb.here ?_)))
  split
  · rename_i q
    have e : PySem.W.subIn X.K t (.ref C) = some false := by
      rcases Bool.or_eq_true_iff.mp hn with e | e
      · rw [beq_iff_eq.mp e] at q
        simp at q
      · exact beq_iff_eq.mp e
    refine wpAny_bind ((PySem.W.looks_subIn Y e).here ?_)
    simp only [Bool.false_eq_true, if_false]
    refine wpAny_bind (wpAny_mono one (fun r s' z => ?_) fun _ _ e => e)
    obtain ⟨v, rfl, hq⟩ := z
    exact wpAny_pure hq
  · refine wpAny_bind (wpAny_pure ?_)
    simp only [Bool.false_eq_true, if_false]
    refine wpAny_bind (wpAny_mono one (fun r s' z => ?_) fun _ _ e => e)
    obtain ⟨v, rfl, hq⟩ := z
    exact wpAny_pure hq
end
end Sq
namespace Sq
open PySem L2 PyProof.Rows
/-- isinstance(x, Field) of other things -/
def spF_eq (K : PySem.W.Frag) (CF : Addr) : Sp := fun vs H Q _ => ∃ (x : Addr) (y : V) (p : Int), vs = [.ref x, y] ∧ FldAt CF H x p ∧
  ((∃ r p', y = .ref r ∧ FldAt CF H r p' ∧ Q (.bl (decide (p = p'))) H) ∨ (∃ i, y = .int i ∧ Q (.bl false) H))
/-- what the class Field must say for isinstance -/
structure IFy (K : PySem.W.Frag) (C : Addr) : Prop where
  ha : PySem.W.findIn K (.ref C) "__class__" = some (some (.builtin "object.__class__"))
  hn : PySem.W.specialIn K (.builtin "object.__class__") "__get__" = some (some (.builtin "getset_descriptor.__get__"))
  htk : PySem.W.takesIn K (.builtin "object.__class__") = some true
  hm : PySem.W.mroIn K C (.type "object") = some true
  kint : PySem.W.kitOne K (.type "int") (.ref C) = some false
theorem FldAt.ty {K : PySem.W.Frag} {C : Addr} {H : Hp} {x : Addr} {p : Int} (T : FTx K C) (Y : IFy K C) (h : FldAt C H x p) : TyX K H (.ref x) (.ref C) := by
  obtain ⟨dx, h⟩ := h
  exact .base (.ins h T.cl Y.ha Y.hn Y.htk Y.hm)
section
variable {P : Program} {w : World} {K : PySem.W.Frag} {mg : Str → Option Value} {base : Heap}
theorem sc_feq : FnScope ["self", "other"] ["self", "other"] (defScope s_feq) := ⟨rfl, rfl, rfl, by decide +kernel, rfl, by decide +kernel, by decide +kernel⟩
theorem ok_feq {f CF : Addr} {fd : FuncData} (F : Fun K "__eq__" "Field.__eq__" s_feq f fd) (TF : FTx K CF) (Y : IFy K CF) (B : ITx mg) (m_CF : mg "Field" = some (.ref CF)) : FnOk P w K mg base CX0 1 f fd ["self", "other"] (spF_eq K CF) := by
  refine F.ok sc_feq (fun vs H Q E h => ?_) (fun cdv A outer s H vs Q E hr h => ?_)
  · obtain ⟨x, y, p, rfl, _⟩ := h
    rfl
  · obtain ⟨x, y, p, rfl, hx, h⟩ := h
    refine ⟨_, pss_one (ps_ret (pe_and (pe_callB call_isi (by rfl) B.b_isinstance (by decide +kernel) (pa_cons (pv 1) (pa_cons (pe_glob (v := .ref CF) rfl m_CF rfl) pa_nil))) (pe_one (pe_cmpR op_eq (pe_fld (pv 0) rfl) (pe_fld (pv 1) rfl) (nomark _))))), ?_⟩
    obtain ⟨dx, hx0⟩ := id hx
    rcases h with ⟨r, p', rfl, hr1, k⟩ | ⟨i, rfl, k⟩
    · obtain ⟨dr, hr0⟩ := id hr1
      refine ⟨_, rfl, _, _, _, _, true, rfl, .own CF, hr1.ty TF Y, kit_self, _, rfl, iteT ?_⟩
      refine ⟨_, rfl, x, CF, dx, _, _, rfl, hx0, TF.cl, TF.nP, pf_prime _, _, rfl, r, CF, dr, _, _, rfl, hr0, TF.cl, TF.nP, pf_prime _, rfl, ?_⟩
      show Q (.bl (decide (V.int p = V.int p'))) H
      rw [dec_int2]
      exact k
    · exact ⟨_, rfl, _, _, _, _, false, rfl, .own CF, .base (.int _), Y.kint, _, rfl, iteF k⟩
end
end Sq

-- needs HandS.OwnEq
-- needs HandS.Star
-- needs OpenK.KOps
namespace PySem.Sqt
open PySem PySem.SeqAt GQ
open MeetsSeq MeetsSeq2 MeetsSeq3 SeqRoads2
section
variable {prog : Program} {w : World} {A : Around} {R : Result → Shared → Prop}
/-- two tuples of any lengths, their items alike as far as both go -/
theorem tup_goes (p q : Addr) (us vs : Array Value) (k k2 : Nat) (e1 e2 : Option Addr) (z1 z2 : Array (Option Value)) (J : Nat → Shared → Prop)
    (step : ∀ j (g1 : j < us.size) (g2 : j < vs.size) t, J j t →
      wpAny (model prog w) A.in1 (eqBool us[j] vs[j]) (fun b t' => b = true ∧ J (j + 1) t') (fun e t' => R (.error e) t') t)
    (stop : ∀ t, J (min us.size vs.size) t → R (.ok (.ret (.bool (us.size == vs.size)))) t) {t : Shared}
    (hp1 : t.heap.get? p = some { cls := .type "tuple", dict := e1, data := .seq us k, slots := z1 })
    (hq1 : t.heap.get? q = some { cls := .type "tuple", dict := e2, data := .seq vs k2, slots := z2 }) (start : J 0 t) :
    wpAny (model prog w) A.in1 (Builtin.«tuple.__eq__» ⟨[.ref p, .ref q], []⟩) (FinOf prog w A R) (fun e t' => R (.error e) t') t := by
  have sub2 := AutoSeq1.sub_tuple_tuple
  have hlen : (us.toList.zip vs.toList).length = min us.size vs.size := by simp
  have start' := start
  obtain ⟨hp, g, d, tk, os⟩ := t
  wp_walk using AutoSeq1.wpAny_loadPart' hp1, AutoSeq1.wpAny_loadPart' hq1, wpAny_forIn_list _ (fun left acc t' => acc.1 = none ∧ ∃ j, left = (us.toList.zip vs.toList).drop j ∧ j ≤ min us.size vs.size ∧ J j t') _
  case turn =>
    rintro ⟨a, b⟩ left acc t' ⟨hacc, j, hdrop, hj, hJ⟩
    have jlt : j < (us.toList.zip vs.toList).length := by
      by_cases c : j < (us.toList.zip vs.toList).length
      · exact c
      · rw [List.drop_of_length_le (by omega)] at hdrop
        cases hdrop
    have g1 : j < us.size := by omega
    have g2 : j < vs.size := by omega
    rw [List.drop_eq_getElem_cons jlt] at hdrop
    injection hdrop with hab hleft
    have ea : a = us[j] := by simpa using congrArg Prod.fst hab
    have eb : b = vs[j] := by simpa using congrArg Prod.snd hab
    subst ea eb
    refine wpAny_bind (wpAny_mono (step j g1 g2 t' hJ) (fun b t2 hb => ?_) fun _ _ z => z)
    obtain ⟨rfl, hb⟩ := hb
    wp_walk
    exact ⟨rfl, j + 1, hleft, by omega, hb⟩
  case fin =>
    rintro ⟨acc1, acc2⟩ t' ⟨hacc, j, hdrop, hj, hJ⟩
    simp only at hacc
    subst hacc
    have jge : min us.size vs.size ≤ j := by
      by_cases c : j < (us.toList.zip vs.toList).length
      · rw [List.drop_eq_getElem_cons c] at hdrop
        cases hdrop
      · omega
    have ej : j = min us.size vs.size := by omega
    have fin2 : R (.ok (.ret (.bool (us.size == vs.size)))) t' := stop t' (ej ▸ hJ)
    wp_walk
    simpa [Builtin.Tuple.tupleCompareSizes] using fin2
  case h =>
    exact ⟨rfl, 0, rfl, Nat.zero_le _, start'⟩
end
end PySem.Sqt
namespace Sq
open PySem L2 PyProof.Rows PySem.Spec
section
variable {X : Cx} {CX : CXT} {k n : Nat} {f C : Addr} {fd : FuncData} {ps : List Str} {sp : Sp} {E : XK} {D : Eqv}
/-- t == u, two tuples whose items are alike as far as both go -/
def rEqN (K : PySem.W.Frag) (D : Eqv) : R2 := fun x y H Q => ∃ a b xs ys, x = .ref a ∧ y = .ref b ∧ SqT K H a xs ∧ SqT K H b ys ∧ (∀ (i : Nat) u v, xs[i]? = some u → ys[i]? = some v → D u v H) ∧ ∀ H', Same H H' → Q (.bl (decide (xs.length = ys.length))) H'
theorem op_eqN (hD : Mon D) (h : EqG X n D) (hr : Room (n + 1) X.A) : OpR X (compareOp .Eq) (rEqN X.K D) := by
  rintro pins s σ H x y v u Q I rx ry ⟨a, b, xs, ys, rfl, rfl, ha, hb, hd, q⟩
  cases rx
  cases ry
  show wpAny (model X.prog X.w) X.A (richCompare .Eq (.ref a) (.ref b)) (EP X pins σ Q) X.xe s
  obtain ⟨us, r1, t1, _⟩ := I.tuple ha
  obtain ⟨ws, r2, t2, _⟩ := I.tuple hb
  obtain ⟨⟨c1, d1, dt1, sl1⟩, o1, hc1, n1, hd1⟩ := id t1
  obtain ⟨⟨c2, d2, dt2, sl2⟩, o2, hc2, n2, hd2⟩ := id t2
  simp only at hc1 hd1 hc2 hd2
  subst hc1 hd1 hc2 hd2
  have sb : Sub X (n + 1) X.A := ⟨hr, rfl⟩
  have l1 := r1.length
  have l2 := r2.length
  refine PySem.wpAny_richCompare_same_room (op := .Eq) ⟨_, o1, rfl⟩ ⟨_, o2, rfl⟩ F.slot_tuple_eq (GQ.call_here F.slot_tuple_eq ⟨_, o1, rfl⟩ F.entry_tuple_eq (F.args_tuple_eq_2 _ _) ?_) hr.units0
  refine PySem.Sqt.tup_goes (R := wants (fun v s' => v ≠ .notImplemented ∧ EP X pins σ Q v s') X.xe) a b us.toArray ws.toArray n1 n2 d1 d2 sl1 sl2 (fun _ t => LoopI X pins σ H t) (fun j g1 g2 t l => ?_) (fun t l => ⟨(fun z => nomatch z), ?_⟩) o1 o2 ⟨H, I, Ext.rfl'⟩
  · obtain ⟨H1, I1, x1⟩ := l
    have g1' : j < us.length := by simpa using g1
    have g2' : j < ws.length := by simpa using g2
    have k1 : j < xs.length := by omega
    have k2 : j < ys.length := by omega
    obtain ⟨z1, hz1, rz1⟩ := r1.get (List.getElem?_eq_getElem k1)
    obtain ⟨z2, hz2, rz2⟩ := r2.get (List.getElem?_eq_getElem k2)
    have w1 : us.toArray[j] = z1 := by
      rw [List.getElem?_eq_getElem g1'] at hz1
      simpa using hz1
    have w2 : ws.toArray[j] = z2 := by
      rw [List.getElem?_eq_getElem g2'] at hz2
      simpa using hz2
    rw [w1, w2]
    refine wpAny_mono (h X.A.in1 pins t σ H1 _ _ z1 z2 sb.in1 I1 rz1 rz2 (hD _ _ _ _ x1 (hd j _ _ (List.getElem?_eq_getElem k1) (List.getElem?_eq_getElem k2)))) (fun b t2 hb => ?_) fun _ _ z => z
    obtain ⟨hb1, H2, I2, x2⟩ := hb
    exact ⟨hb1, H2, I2, x1.trans x2⟩
  · obtain ⟨H1, I1, x1⟩ := l
    have e : (us.toArray.size == ws.toArray.size) = decide (xs.length = ys.length) := by
      rw [l1, l2]
      simp [BEq.beq]
    show EP X pins σ Q (.bool (us.toArray.size == ws.toArray.size)) t
    rw [e]
    exact ⟨.bl _, H1, I1, rfl, q H1 x1⟩
/-- len(x) by the class's own __len__ -/
def rLenO (K : PySem.W.Frag) (C : Addr) (sp : Sp) (E : XK) : List V → Hp → VK → Prop := fun xs H Q => ∃ a dx fs, xs = [.ref a] ∧ H a = some (.ins C dx fs) ∧ sp [.ref a] H (fun v H' => ∃ m : Nat, v = .int (m : Int) ∧ m < 1000000 ∧ Q (.int (m : Int)) H') E
theorem call_lenO (O : OwnOp X.K C f "__len__") (G : FnOk X.prog X.w X.K X.mg X.base CX k f fd ps sp) (hr : Room (k + 1) X.A) (hb : Binds X.K fd ps []) (hx : Passes CX X E) : CallR X (.builtin "len") (rLenO X.K C sp E) := by
  intro pins s σ H xs us Q I r h
  obtain ⟨a, dx, fs, rfl, ha, hsp⟩ := h
  obtain ⟨x1, e1, r1⟩ : ∃ x1, us = [x1] ∧ RelV (.ref a) x1 := by
    cases r with
    | cons rx rr =>
      cases rr
      exact ⟨_, rfl, rx⟩
  subst e1
  have e1 : x1 = Value.ref a := r1
  subst e1
  obtain ⟨od, J⟩ := inst_at I ha
  obtain ⟨m, hF⟩ := I.fr
  refine PySem.W.len_K hF I.ok.mod.kin J O.at_ O.fn ?_
  have e0 : Env0 X.prog X.w X.K X.mg X.base X.A.in1 X.stack s H := by
    have e := I.env0
    exact ⟨e.frames, e.mod, e.bs, e.bsz, e.funs, e.frf, e.hok, e.bare⟩
  have hl := G.len _ _ _ _ hsp
  have rr : Vals [V.ref a] [Value.ref a] := .cons rfl .nil
  refine wpAny_call (codeAny_mono (G.run X.A.in1 X.stack s H ⟨[Value.ref a], []⟩ [Value.ref a] [V.ref a] _ E hr.in1 e0 (by
    have z := hb s [Value.ref a] I.kIn (by simpa using hl)
    simpa using z) rr hsp) fun res s' out => ?_)
  cases res with
  | error e => exact hx pins σ H s e s' I out
  | ok fl =>
    cases fl with
    | ret val =>
      obtain ⟨z, H', I', rz, q⟩ := I.after out
      obtain ⟨m, rfl, hm, q⟩ := q
      obtain ⟨tk, rfl⟩ := rz
      exact ⟨⟨by omega, by omega⟩, .int (m : Int), H', I'.kept (t' := _) fun _ _ z => z, ⟨_, rfl⟩, q⟩
    | next => cases out
    | brk => cases out
    | cont => cases out
end
end Sq

namespace Sq
open PySem L2 PyProof.Rows
/-! ### an own error that keeps one field of any name -/
def fldAt (F : Str) (y : V) : HO := .xd [(F, y)]
def spFInit (F : Str) (CN : Addr) : Sp := fun vs H Q _ => ∃ (a : Addr) (y : V), vs = [.ref a, y] ∧ H a = some (exo a CN none) ∧ ∀ dx, H dx = none → dx ≠ a → Q .non (upd (upd H dx (exd dx [(F, y)])) a (exo a CN (some dx)))
structure NTxF (K : PySem.W.Frag) (F : Str) (CN fN : Addr) : Prop where
  oex : OexC K CN
  nw : PySem.W.findIn K (.ref CN) F = some none
  iC : PySem.W.findIn K (.ref CN) "__init__" = some (some (.ref fN))
  tI : PySem.W.typeIn K (.ref fN) = some (.type "function")
theorem xd_eqF {F : Str} {H : Hp} {a d CN : Addr} {y : V} (ha : H a = none) (n : d ≠ a) : upd (L2.del (upd (upd (upd H a (exo a CN none)) d (exd d [(F, y)])) a (exo a CN (some d))) a) d (.xd [(F, y)]) = upd H d (.xd [(F, y)]) := by
  funext b
  by_cases h1 : b = d
  · subst h1
    rw [upd_same, upd_same]
  · rw [upd_ne h1, upd_ne h1]
    by_cases h2 : b = a
    · subst h2
      rw [del_same, ha]
    · rw [del_ne h2, upd_ne h2, upd_ne h1, upd_ne h2]
theorem mkO_readF {F : Str} {CN : Addr} {z : V} {H : Hp} {E : XK} (h : ∀ d, H d = none → E (.ref CN) (some d) (upd H d (fldAt F z))) : ∀ a, H a = none → spFInit F CN (.ref a :: ([z] ++ [])) (upd H a (exo a CN none))
    (fun v H2 => v = .non ∧ ∃ (d : Addr) (fs : List (Str × V)), H2 a = some (exo a CN (some d)) ∧ H2 d = some (exd d fs) ∧ H d = none ∧ E (.ref CN) (some d) (upd (L2.del H2 a) d (.xd fs))) (fun _ _ _ => False) := fun a ha => by
  refine ⟨a, _, rfl, upd_same, fun dx h1 h2 => ⟨rfl, dx, [(F, z)], upd_same, ?_, ?_, ?_⟩⟩
  · exact (upd_ne h2).trans upd_same
  · rw [upd_ne h2] at h1
    exact h1
  · rw [upd_ne h2] at h1
    rw [xd_eqF ha h2]
    exact h dx h1
section
variable {P : Program} {w : World} {K : PySem.W.Frag} {mg : Str → Option Value} {base : Heap}
abbrev s_placeInit : Stmt := inClass (top 8) 0
theorem sc_placeInit : FnScope ["self", "place"] ["self", "place"] (defScope s_placeInit) := ⟨rfl, rfl, rfl, by decide +kernel, rfl, by decide +kernel, by decide +kernel⟩
theorem ok_placeInit {f CN fN : Addr} {fd : FuncData} (F : Fun K "__init__" "NoSeries.__init__" s_placeInit f fd) (T : NTxF K "place" CN fN) : FnOk P w K mg base CX0 1 f fd ["self", "place"] (spFInit "place" CN) := by
  refine F.ok sc_placeInit (fun vs H Q E h => ?_) (fun cdv A outer s H vs Q E hr h => ?_)
  · obtain ⟨x, y, rfl, _⟩ := h
    rfl
  · obtain ⟨a, y, rfl, ha, k⟩ := h
    refine ⟨_, pss_one (ps_ost (pv 0) (pv 1)), ?_⟩
    exact ⟨_, rfl, _, rfl, a, CN, rfl, T.oex, T.nw, .inl ⟨ha, fun dx h1 h2 => k dx h1 h2⟩⟩
end
/-! ### numbers of a field -/
/-- v is the number of the field p that is told by the pair (t, u) -/
def FN (C : Addr) (H : Hp) (p : Int) (v : V) (t u : Int) : Prop := (p = 0 ∧ (∃ r, v = .ref r ∧ RatAt C H r t u) ∧ 1 ≤ u ∧ Int.gcd t u = 1) ∨ (p ≠ 0 ∧ v = .int t ∧ u = 1 ∧ 0 ≤ t ∧ t < p)
theorem FN.same {C : Addr} {H H' : Hp} {p t u : Int} {v : V} (s : Same H H') (h : FN C H p v t u) : FN C H' p v t u := by
  rcases h with ⟨p0, ⟨r, e, R⟩, a, b⟩ | h
  · exact .inl ⟨p0, ⟨r, e, R.same s⟩, a, b⟩
  · exact .inr h
theorem FN.num {C : Addr} {H : Hp} {p t u : Int} {v : V} (h : FN C H p v t u) : NumAt C H v t u := by
  rcases h with ⟨p0, ⟨r, e, R⟩, a, b⟩ | ⟨_, e, u1, _⟩
  · exact .inl ⟨r, e, R⟩
  · exact .inr ⟨e, u1⟩
theorem FN.pos {C : Addr} {H : Hp} {p t u : Int} {v : V} (h : FN C H p v t u) : 1 ≤ u := by
  rcases h with ⟨_, _, a, _⟩ | ⟨_, _, u1, _⟩
  · exact a
  · omega
theorem FN.upd {C : Addr} {H : Hp} {p t u : Int} {v : V} {q : Addr} {xs : List V} {o : HO} (hq : H q = some (.lst xs)) (h : FN C H p v t u) : FN C (L2.upd H q o) p v t u := by
  rcases h with ⟨p0, ⟨r, e, dx, R⟩, a, b⟩ | h
  · have n : r ≠ q := fun z => by
      rw [z, hq] at R
      cases R
    exact .inl ⟨p0, ⟨r, e, dx, (upd_ne n).trans R⟩, a, b⟩
  · exact .inr h
structure FNs (C : Addr) (H : Hp) (p : Int) (ys : List V) (prs : List (Int × Int)) : Prop where
  len : ys.length = prs.length
  at_ : ∀ (i : Nat) (y : V) (pr : Int × Int), ys[i]? = some y → prs[i]? = some pr → FN C H p y pr.1 pr.2
theorem FNs.same {C : Addr} {H H' : Hp} {p : Int} {ys : List V} {prs : List (Int × Int)} (s : Same H H') (h : FNs C H p ys prs) : FNs C H' p ys prs := ⟨h.len, fun i y pr a b => (h.at_ i y pr a b).same s⟩
theorem FNs.nil {C : Addr} {H : Hp} {p : Int} : FNs C H p [] [] := ⟨rfl, fun i y pr a _ => by simp at a⟩
theorem get_snoc {α : Type} {l : List α} {x y : α} {i : Nat} (h : (l ++ [x])[i]? = some y) : l[i]? = some y ∨ (i = l.length ∧ y = x) := by
  rw [List.getElem?_append] at h
  split at h
  · exact .inl h
  · by_cases e : i = l.length
    · refine .inr ⟨e, ?_⟩
      rw [e] at h
      simpa using h.symm
    · rw [List.getElem?_eq_none (by simp; omega)] at h
      cases h
theorem get_len {α : Type} {l : List α} {y : α} {i : Nat} (h : l[i]? = some y) : i < l.length := (List.getElem?_eq_some_iff.mp h).1
theorem FNs.snoc {C : Addr} {H : Hp} {p : Int} {ys : List V} {prs : List (Int × Int)} {y : V} {pr : Int × Int} (h : FNs C H p ys prs) (a : FN C H p y pr.1 pr.2) : FNs C H p (ys ++ [y]) (prs ++ [pr]) := by
  refine ⟨by rw [List.length_append, List.length_append, h.len]; rfl, fun i z qr e1 e2 => ?_⟩
  rcases get_snoc e1 with e1 | ⟨i1, rfl⟩
  · rcases get_snoc e2 with e2 | ⟨i2, rfl⟩
    · exact h.at_ i z qr e1 e2
    · have := get_len e1
      have := h.len
      omega
  · rcases get_snoc e2 with e2 | ⟨i2, rfl⟩
    · have := get_len e2
      have := h.len
      omega
    · exact a
theorem FNs.upd {C : Addr} {H : Hp} {p : Int} {ys : List V} {prs : List (Int × Int)} {q : Addr} {xs : List V} {o : HO} (hq : H q = some (.lst xs)) (h : FNs C H p ys prs) : FNs C (L2.upd H q o) p ys prs := ⟨h.len, fun i y pr a b => (h.at_ i y pr a b).upd hq⟩
theorem FNs.take {C : Addr} {H : Hp} {p : Int} {ys : List V} {prs : List (Int × Int)} (h : FNs C H p ys prs) (n : Nat) : FNs C H p (ys.take n) (prs.take n) := by
  refine ⟨by rw [List.length_take, List.length_take, h.len], fun i y pr a b => ?_⟩
  rw [List.getElem?_take] at a b
  split at a
  · rename_i c
    rw [if_pos c] at b
    exact h.at_ i y pr a b
  · cases a
/-- what is given for a number of the field: its pair, or none if it is refused -/
def Giv (K : PySem.W.Frag) (C : Addr) (H : Hp) (p : Int) (v : V) : Option (Int × Int) → Prop
  | none => NmTy K C H v false ∨ ∃ t u, NumAt C H v t u ∧ 1 ≤ u ∧ Fit t ∧ Fit u ∧ p ≠ 0 ∧ u % p = 0
  | some a => ∃ t u, NumAt C H v t u ∧ 1 ≤ u ∧ Fit t ∧ Fit u ∧ (p = 0 → a = (t, u) ∧ Int.gcd t u = 1) ∧ (p ≠ 0 → u % p ≠ 0 ∧ a.2 = 1 ∧ 0 ≤ a.1 ∧ a.1 < p ∧ ∃ k, a.1 * u = t + k * p)
theorem Giv.same {K : PySem.W.Frag} {C : Addr} {H H' : Hp} {p : Int} {v : V} {o : Option (Int × Int)} (s : Same H H') (h : Giv K C H p v o) : Giv K C H' p v o := by
  cases o with
  | none =>
    rcases h with h | ⟨t, u, n, r⟩
    · exact .inl (h.same s)
    · exact .inr ⟨t, u, n.same s, r⟩
  | some a =>
    obtain ⟨t, u, n, r⟩ := h
    exact ⟨t, u, n.same s, r⟩
theorem num_uniq {p r r' t u k k' : Int} (hg : goodP p = true) (p0 : p ≠ 0) (up : u % p ≠ 0) (a0 : 0 ≤ r) (a1 : r < p) (b0 : 0 ≤ r') (b1 : r' < p) (e : r * u = t + k * p) (e' : r' * u = t + k' * p) : r = r' := by
  obtain ⟨p2, p3, hp⟩ := goodP_pos hg p0
  by_cases c : r = r'
  · exact c
  exfalso
  have key : ∀ x y kx ky : Int, 0 ≤ x → x < p → 0 ≤ y → y < p → y < x → x * u = t + kx * p → y * u = t + ky * p → False := by
    intro x y kx ky x0 x1 y0 y1 h ex ey
    have d : p ∣ (x - y) * u := ⟨kx - ky, by rw [Int.sub_mul, ex, ey, Int.mul_sub, Int.mul_comm p kx, Int.mul_comm p ky]; omega⟩
    have g := gcd_prime p2 p3 hp (show 1 ≤ x - y by omega) (by omega)
    have dn : p.natAbs ∣ (x - y).natAbs * u.natAbs := by
      rw [← Int.natAbs_mul]
      exact Int.natAbs_dvd_natAbs.mpr d
    have du : p.natAbs ∣ u.natAbs := Nat.Coprime.dvd_of_dvd_mul_left (show Nat.Coprime p.natAbs (x - y).natAbs from g) dn
    exact up (Int.emod_eq_zero_of_dvd (Int.natAbs_dvd_natAbs.mp du))
  rcases Int.lt_or_gt_of_ne c with h | h
  · exact key r' r k' k b0 b1 a0 a1 h e' e
  · exact key r r' k k' a0 a1 b0 b1 h e e'
def pre : List (Option (Int × Int)) → List (Int × Int)
  | some a :: r => a :: pre r
  | _ => []
theorem pre_app (prs : List (Int × Int)) (r : List (Option (Int × Int))) : pre (prs.map some ++ r) = prs ++ pre r := by
  induction prs with
  | nil => rfl
  | cons a l ih =>
    show a :: pre (l.map some ++ r) = _
    rw [ih]
    rfl
theorem pre_stop {os : List (Option (Int × Int))} {prs : List (Int × Int)} {i : Nat} (h : os.take i = prs.map some) (e : os[i]? = some none) : pre os = prs := by
  have s : os = os.take i ++ os.drop i := (List.take_append_drop i os).symm
  have d : os.drop i = none :: os.drop (i + 1) := by
    have hi := get_len e
    rw [List.drop_eq_getElem_cons hi]
    congr 1
    exact Option.some.inj ((List.getElem?_eq_getElem hi).symm.trans e)
  rw [s, h, d, pre_app]
  show prs ++ [] = prs
  rw [List.append_nil]
theorem pre_all {os : List (Option (Int × Int))} {prs : List (Int × Int)} (h : os = prs.map some) : pre os = prs := by
  have := pre_app prs []
  rw [List.append_nil] at this
  rw [h, this]
  show prs ++ [] = prs
  rw [List.append_nil]
structure Givs (K : PySem.W.Frag) (C : Addr) (H : Hp) (p : Int) (xs : List V) (os : List (Option (Int × Int))) : Prop where
  len : xs.length = os.length
  at_ : ∀ (i : Nat) (x : V) (o : Option (Int × Int)), xs[i]? = some x → os[i]? = some o → Giv K C H p x o
theorem Givs.same {K : PySem.W.Frag} {C : Addr} {H H' : Hp} {p : Int} {xs : List V} {os : List (Option (Int × Int))} (s : Same H H') (h : Givs K C H p xs os) : Givs K C H' p xs os := ⟨h.len, fun i x o a b => (h.at_ i x o a b).same s⟩
end Sq

-- needs HandS.ClsMeth
-- needs HandS.Conv
namespace Sq
open PySem L2 PyProof.Rows
abbrev s_isseq : Stmt := top 14
abbrev s_taken : Stmt := top 29
/-- is it a list or a tuple -/
def IsQ (K : PySem.W.Frag) (H : Hp) (v : V) (b : Bool) : Prop := ∃ t, TyX K H v t ∧ PySem.W.kitAny K t [.type "list", .type "tuple"] = some b
theorem IsQ.same {K : PySem.W.Frag} {H H' : Hp} {v : V} {b : Bool} (s : Same H H') (h : IsQ K H v b) : IsQ K H' v b := by
  obtain ⟨t, ty, k⟩ := h
  exact ⟨t, tyX_same s ty, k⟩
theorem kitQ {K : PySem.W.Frag} {t : Value} {a b : Bool} (h1 : PySem.W.kitOne K t (.type "list") = some a) (h2 : PySem.W.kitOne K t (.type "tuple") = some b) : PySem.W.kitAny K t [.type "list", .type "tuple"] = some (a || b) := by
  unfold PySem.W.kitAny
  rw [h1]
  cases a with
  | true => rfl
  | false =>
    show PySem.W.kitAny K t [.type "tuple"] = _
    unfold PySem.W.kitAny
    rw [h2]
    cases b with
    | true => rfl
    | false => rfl
def LT (H : Hp) (l : Addr) (xs : List V) : Prop := H l = some (.lst xs) ∨ H l = some (.tup xs)
theorem LT.same {H H' : Hp} {l : Addr} {xs : List V} (s : Same H H') (h : LT H l xs) : LT H' l xs := h.imp (s _ _) (s _ _)
theorem LT.isQ {K : PySem.W.Frag} {H : Hp} {l : Addr} {xs : List V} (h : LT H l xs) : IsQ K H (.ref l) true := by
  rcases h with h | h
  · exact ⟨.type "list", .base (.lst h), kitQ (a := true) (b := false) (kit_ty (by decide +kernel)) (kit_ty (by decide +kernel))⟩
  · exact ⟨.type "tuple", .base (.tup h), kitQ (a := false) (b := true) (kit_ty (by decide +kernel)) (kit_ty (by decide +kernel))⟩
theorem IsQ.ty {K : PySem.W.Frag} {H : Hp} {v : V} {T : String} (h : TyX K H v (.type T)) (h1 : PySem.W.kitOne K (.type T) (.type "list") = some false) (h2 : PySem.W.kitOne K (.type T) (.type "tuple") = some false) : IsQ K H v false := ⟨_, h, kitQ (a := false) (b := false) h1 h2⟩
def spSeq (K : PySem.W.Frag) : Sp := fun vs H Q _ => ∃ (v : V) (b : Bool), vs = [v] ∧ IsQ K H v b ∧ ∀ H', Same H H' → Q (.bl b) H'
def spTaken (K : PySem.W.Frag) (C CF : Addr) : Sp := fun vs H Q _ => ∃ (x l : Addr) (p : Int) (xs : List V) (os : List (Option (Int × Int))), vs = [.ref x, .ref l] ∧ FldAt CF H x p ∧ goodP p = true ∧ LT H l xs ∧ xs.length ≤ 200 ∧ Givs K C H p xs os ∧
  ∀ q ys H', Same H H' → H' q = some (.lst ys) → FNs C H' p ys (pre os) → Q (.ref q) H'
structure QTx (mg : Str → Option Value) : Prop where
  b_isinstance : mg "isinstance" = none
  b_list : mg "list" = none
  b_tuple : mg "tuple" = none
  b_len : mg "len" = none
section
variable {P : Program} {w : World} {K : PySem.W.Frag} {mg : Str → Option Value} {base : Heap}
theorem sc_isseq : FnScope ["value"] ["value"] (defScope s_isseq) := ⟨rfl, rfl, rfl, by decide +kernel, rfl, by decide +kernel, by decide +kernel⟩
theorem ok_isseq {f : Addr} {fd : FuncData} (F : Fun K "is_a_sequence" "is_a_sequence" s_isseq f fd) (B : QTx mg) : FnOk P w K mg base CX0 1 f fd ["value"] (spSeq K) := by
  refine F.ok sc_isseq (fun vs H Q E h => ?_) (fun cdv A outer s H vs Q E hr h => ?_)
  · obtain ⟨x, b, rfl, _⟩ := h
    rfl
  · obtain ⟨v, b, rfl, ⟨t, ty, kk⟩, k⟩ := h
    refine ⟨_, pss_one (ps_ret (pe_callB call_isiT (by rfl) B.b_isinstance (by decide +kernel) (pa_cons (pv 0) (pa_cons (pe_tup (pa_cons (pe_bltn (v := .ty "list") (by rfl) B.b_list (by decide +kernel) rfl) (pa_cons (pe_bltn (v := .ty "tuple") (by rfl) B.b_tuple (by decide +kernel) rfl) pa_nil))) pa_nil)))), ?_⟩
    refine ⟨_, rfl, (by show 2 ≤ sizeLine; decide), fun tp htp => ?_⟩
    have s1 : Same H (upd H tp (.tup [.ty "list", .ty "tuple"])) := same_new (Same.refl H) htp
    exact ⟨_, tp, _, t, _, b, rfl, upd_same, .cons (.ty _) (.cons (.ty _) .nil), tyX_same s1 ty, kk, k _ s1⟩
theorem sc_taken : FnScope ["field", "values", "numbers", "value"] ["field", "values"] (defScope s_taken) := ⟨rfl, rfl, rfl, by decide +kernel, rfl, by decide +kernel, by decide +kernel⟩
theorem ok_taken {f C CF CNN fnum : Addr} {fd fdnum : FuncData} (F : Fun K "taken" "taken" s_taken f fd) (TF : FTx K CF) (m_NN : mg "NoNumber" = some (.ref CNN)) (te : PySem.W.exmOne K (.ref CNN) (.ref CNN) = some true)
    (Me_num : Meth K CF "number" fnum) (G_num : FnOk P w K mg base (L2.CX P w) 8 fnum fdnum ["self", "value"] (spNum K C CF CNN)) (b_num : Binds K fdnum ["self", "value"] []) :
    FnOk P w K mg base CX0 9 f fd ["field", "values"] (spTaken K C CF) := by
  refine F.ok sc_taken (fun vs H Q E h => ?_) (fun cdv A outer s H vs Q E hr h => ?_)
  · obtain ⟨x, l, p, xs, os, rfl, _⟩ := h
    rfl
  · obtain ⟨x, l, p, xs, os, rfl, hx, hg, hl, hn, gv, k⟩ := h
    rcases hl with hl | hl
    · refine ⟨_, (pss_cons (ps_set (i := 2) sc_taken.nd rfl (Or.inl rfl) (pe_lst pa_nil))
        (pss_cons (ps_for PassesOwn.never rfl (pi_list (pv 1)) (pg_name (i := 3) sc_taken.nd rfl (Or.inl rfl))
          (pss_one (ps_try_only (tb := fun W => tDrop (tBM K "list" rAppend (tVar 2) (tCons (tMtS CF "number" (spNum K C CF CNN) (WE W) (tVar 0) (tCons (tVar 3) tNil)) tNil))) (Wout := fun _ _ _ _ => False) rfl rfl ⟨rfl, by decide, Or.inl m_NN⟩ takes0
            (fun W pn xe tk _ => pss_one (ps_expr (pe_bm PySem.F.plainAttrs_list PySem.F.slot_list_append PySem.F.type_list_append mt_append (pv 2) (pa_cons (pe_mtS (pv 0) TF.cl Me_num G_num (hr.mono (by decide)) b_num (fun σ => passAt tk σ) (pa_cons (pv 3) pa_nil)) pa_nil))))
            (fun a oe cls d pn hz hf => pss_one (ps_ret (pv 2))))))
        (pss_one (ps_ret (pv 2))))), ?_⟩
      refine ⟨(by show 0 ≤ sizeLine; decide), fun q hq => ?_⟩
      have sq := same_new (o := .lst []) (Same.refl H) hq
      refine ⟨_, rfl, l, rfl, ⟨xs, SqL.of (sq _ _ hl)⟩, ?_⟩
      refine for_list (xs := xs) (tb := fun D => (fun W => tDrop (tBM K "list" rAppend (tVar 2) (tCons (tMtS CF "number" (spNum K C CF CNN) (WE W) (tVar 0) (tCons (tVar 3) tNil)) tNil))) (wOnly K (.ref CNN) (fun a cls d => tRet (tVar 2)) (fun _ _ _ _ => False) D) D) (fun i σ H' => ∃ (v : Option V) (ys : List V) (prs : List (Int × Int)), σ = [some (.ref x), some (.ref l), some (.ref q), v] ∧ Same H H' ∧ H' q = some (.lst ys) ∧ os.take i = prs.map some ∧ FNs C H' p ys prs)
        ⟨none, [], [], rfl, sq, upd_same, rfl, FNs.nil⟩ (fun i σ H' _ h => ?_) ?_ ?_
      · obtain ⟨_, _, _, _, s1, _⟩ := h
        exact SqL.of (s1 _ _ hl)
      · rintro i z σ H2 hi ⟨v, ys, prs, rfl, s2, hq2, ho, fn⟩
        obtain ⟨dx, hx0⟩ := id hx
        have li : i < xs.length := get_len hi
        have lo : i < os.length := by rw [← gv.len]; exact li
        have ly : ys.length = i := by
          have h1 := congrArg List.length ho
          rw [List.length_take, List.length_map] at h1
          rw [fn.len]
          omega
        have ei : os[i]? = some os[i] := List.getElem?_eq_getElem lo
        have g0 := gv.at_ i z _ hi ei
        generalize os[i] = o at *
        refine ⟨_, rfl, .inl ⟨rfl, _, SqL.of hq2⟩, _, rfl, x, dx, _, rfl, s2 _ _ hx0, pf_no _ (by decide +kernel), _, rfl, x, z, p, rfl, hx.same s2, hg, ?_⟩
        have stop : o = none → WE (wOnly K (.ref CNN) (fun a cls d => tRet (tVar 2)) (fun _ _ _ _ => False) { nx := fun σ H' => ∃ (v : Option V) (ys : List V) (prs : List (Int × Int)), σ = [some (.ref x), some (.ref l), some (.ref q), v] ∧ Same H H' ∧ H' q = some (.lst ys) ∧ os.take (i + 1) = prs.map some ∧ FNs C H' p ys prs, rt := Q }) [some (.ref x), some (.ref l), some (.ref q), some z] (.ref CNN) none H2 := fun e => by
          subst e
          refine ⟨true, te, fun _ a ha => ⟨_, rfl, ?_⟩, fun q => Bool.noConfusion q⟩
          exact k q ys _ s2 hq2 (by rw [pre_stop ho ei]; exact fn)
        cases o with
        | none =>
          rcases g0 with g0 | ⟨t, u, n, pu, st, su, p0, um⟩
          · exact .inl ⟨g0.same s2, stop rfl⟩
          · exact .inr ⟨t, u, n.same s2, pu, fit_up st, fit_up su, fun h => absurd h p0, fun _ _ => stop rfl, fun _ h => absurd um h⟩
        | some a =>
          obtain ⟨t, u, n, pu, st, su, h0, hp⟩ := g0
          have ot : os.take (i + 1) = (prs ++ [a]).map some := by
            rw [take_more ei, ho, List.map_append]
            rfl
          have go : ∀ y H3, Same H2 H3 → FN C H3 p y a.1 a.2 → ∃ l' xs' y', V.ref q = .ref l' ∧ [y] = [y'] ∧ H3 l' = some (.lst xs') ∧ xs'.length < sizeLine ∧ (∃ (v : Option V) (ys : List V) (prs : List (Int × Int)), [some (V.ref x), some (.ref l), some (.ref q), some z] = [some (.ref x), some (.ref l), some (.ref q), v] ∧ Same H (upd H3 l' (.lst (xs' ++ [y']))) ∧ (upd H3 l' (.lst (xs' ++ [y']))) q = some (.lst ys) ∧ os.take (i + 1) = prs.map some ∧ FNs C (upd H3 l' (.lst (xs' ++ [y']))) p ys prs) := fun y H3 s3 f => by
            have hq3 := s3 _ _ hq2
            refine ⟨q, ys, y, rfl, rfl, hq3, ?_, some z, ys ++ [y], prs ++ [a], rfl, same_at (s2.trans s3) hq, upd_same, ot, ((fn.same s3).snoc f).upd hq3⟩
            have e : (sizeLine : Nat) = 16777216 := sizeLine_eq
            omega
          refine .inr ⟨t, u, n.same s2, pu, fit_up st, fit_up su, fun p0 r H3 R s3 => ?_, fun p0 up => absurd up (hp p0).1, fun p0 up r H3 r0 r1 ⟨kk, hk⟩ s3 => ?_⟩
          · obtain ⟨rfl, cop⟩ := h0 p0
            exact go (.ref r) H3 s3 (.inl ⟨p0, ⟨r, rfl, R⟩, pu, cop⟩)
          · obtain ⟨_, a2, a0, a1, k2, hk2⟩ := hp p0
            have e := num_uniq hg p0 up r0 r1 a0 a1 hk hk2
            exact go (.int r) H3 s3 (.inr ⟨p0, by rw [e], a2, a0, a1⟩)
      · rintro σ H2 ⟨v, ys, prs, rfl, s2, hq2, ho, fn⟩
        refine ⟨_, rfl, k q ys _ s2 hq2 ?_⟩
        rw [gv.len, List.take_length] at ho
        rw [pre_all ho]
        exact fn
    · refine ⟨_, (pss_cons (ps_set (i := 2) sc_taken.nd rfl (Or.inl rfl) (pe_lst pa_nil))
        (pss_cons (ps_for PassesOwn.never rfl (pi_tup (pv 1)) (pg_name (i := 3) sc_taken.nd rfl (Or.inl rfl))
          (pss_one (ps_try_only (tb := fun W => tDrop (tBM K "list" rAppend (tVar 2) (tCons (tMtS CF "number" (spNum K C CF CNN) (WE W) (tVar 0) (tCons (tVar 3) tNil)) tNil))) (Wout := fun _ _ _ _ => False) rfl rfl ⟨rfl, by decide, Or.inl m_NN⟩ takes0
            (fun W pn xe tk _ => pss_one (ps_expr (pe_bm PySem.F.plainAttrs_list PySem.F.slot_list_append PySem.F.type_list_append mt_append (pv 2) (pa_cons (pe_mtS (pv 0) TF.cl Me_num G_num (hr.mono (by decide)) b_num (fun σ => passAt tk σ) (pa_cons (pv 3) pa_nil)) pa_nil))))
            (fun a oe cls d pn hz hf => pss_one (ps_ret (pv 2))))))
        (pss_one (ps_ret (pv 2))))), ?_⟩
      refine ⟨(by show 0 ≤ sizeLine; decide), fun q hq => ?_⟩
      have sq := same_new (o := .lst []) (Same.refl H) hq
      refine ⟨_, rfl, l, rfl, ⟨xs, SqT.of (sq _ _ hl)⟩, ?_⟩
      refine for_tup (xs := xs) (tb := fun D => (fun W => tDrop (tBM K "list" rAppend (tVar 2) (tCons (tMtS CF "number" (spNum K C CF CNN) (WE W) (tVar 0) (tCons (tVar 3) tNil)) tNil))) (wOnly K (.ref CNN) (fun a cls d => tRet (tVar 2)) (fun _ _ _ _ => False) D) D) (fun i σ H' => ∃ (v : Option V) (ys : List V) (prs : List (Int × Int)), σ = [some (.ref x), some (.ref l), some (.ref q), v] ∧ Same H H' ∧ H' q = some (.lst ys) ∧ os.take i = prs.map some ∧ FNs C H' p ys prs)
        ⟨none, [], [], rfl, sq, upd_same, rfl, FNs.nil⟩ (fun i σ H' _ h => ?_) ?_ ?_
      · obtain ⟨_, _, _, _, s1, _⟩ := h
        exact SqT.of (s1 _ _ hl)
      · rintro i z σ H2 hi ⟨v, ys, prs, rfl, s2, hq2, ho, fn⟩
        obtain ⟨dx, hx0⟩ := id hx
        have li : i < xs.length := get_len hi
        have lo : i < os.length := by rw [← gv.len]; exact li
        have ly : ys.length = i := by
          have h1 := congrArg List.length ho
          rw [List.length_take, List.length_map] at h1
          rw [fn.len]
          omega
        have ei : os[i]? = some os[i] := List.getElem?_eq_getElem lo
        have g0 := gv.at_ i z _ hi ei
        generalize os[i] = o at *
        refine ⟨_, rfl, .inl ⟨rfl, _, SqL.of hq2⟩, _, rfl, x, dx, _, rfl, s2 _ _ hx0, pf_no _ (by decide +kernel), _, rfl, x, z, p, rfl, hx.same s2, hg, ?_⟩
        have stop : o = none → WE (wOnly K (.ref CNN) (fun a cls d => tRet (tVar 2)) (fun _ _ _ _ => False) { nx := fun σ H' => ∃ (v : Option V) (ys : List V) (prs : List (Int × Int)), σ = [some (.ref x), some (.ref l), some (.ref q), v] ∧ Same H H' ∧ H' q = some (.lst ys) ∧ os.take (i + 1) = prs.map some ∧ FNs C H' p ys prs, rt := Q }) [some (.ref x), some (.ref l), some (.ref q), some z] (.ref CNN) none H2 := fun e => by
          subst e
          refine ⟨true, te, fun _ a ha => ⟨_, rfl, ?_⟩, fun q => Bool.noConfusion q⟩
          exact k q ys _ s2 hq2 (by rw [pre_stop ho ei]; exact fn)
        cases o with
        | none =>
          rcases g0 with g0 | ⟨t, u, n, pu, st, su, p0, um⟩
          · exact .inl ⟨g0.same s2, stop rfl⟩
          · exact .inr ⟨t, u, n.same s2, pu, fit_up st, fit_up su, fun h => absurd h p0, fun _ _ => stop rfl, fun _ h => absurd um h⟩
        | some a =>
          obtain ⟨t, u, n, pu, st, su, h0, hp⟩ := g0
          have ot : os.take (i + 1) = (prs ++ [a]).map some := by
            rw [take_more ei, ho, List.map_append]
            rfl
          have go : ∀ y H3, Same H2 H3 → FN C H3 p y a.1 a.2 → ∃ l' xs' y', V.ref q = .ref l' ∧ [y] = [y'] ∧ H3 l' = some (.lst xs') ∧ xs'.length < sizeLine ∧ (∃ (v : Option V) (ys : List V) (prs : List (Int × Int)), [some (V.ref x), some (.ref l), some (.ref q), some z] = [some (.ref x), some (.ref l), some (.ref q), v] ∧ Same H (upd H3 l' (.lst (xs' ++ [y']))) ∧ (upd H3 l' (.lst (xs' ++ [y']))) q = some (.lst ys) ∧ os.take (i + 1) = prs.map some ∧ FNs C (upd H3 l' (.lst (xs' ++ [y']))) p ys prs) := fun y H3 s3 f => by
            have hq3 := s3 _ _ hq2
            refine ⟨q, ys, y, rfl, rfl, hq3, ?_, some z, ys ++ [y], prs ++ [a], rfl, same_at (s2.trans s3) hq, upd_same, ot, ((fn.same s3).snoc f).upd hq3⟩
            have e : (sizeLine : Nat) = 16777216 := sizeLine_eq
            omega
          refine .inr ⟨t, u, n.same s2, pu, fit_up st, fit_up su, fun p0 r H3 R s3 => ?_, fun p0 up => absurd up (hp p0).1, fun p0 up r H3 r0 r1 ⟨kk, hk⟩ s3 => ?_⟩
          · obtain ⟨rfl, cop⟩ := h0 p0
            exact go (.ref r) H3 s3 (.inl ⟨p0, ⟨r, rfl, R⟩, pu, cop⟩)
          · obtain ⟨_, a2, a0, a1, k2, hk2⟩ := hp p0
            have e := num_uniq hg p0 up r0 r1 a0 a1 hk hk2
            exact go (.int r) H3 s3 (.inr ⟨p0, by rw [e], a2, a0, a1⟩)
      · rintro σ H2 ⟨v, ys, prs, rfl, s2, hq2, ho, fn⟩
        refine ⟨_, rfl, k q ys _ s2 hq2 ?_⟩
        rw [gv.len, List.take_length] at ho
        rw [pre_all ho]
        exact fn
end
end Sq

namespace Sq
open PySem L2 PyProof.Rows
def NotC (K : PySem.W.Frag) (H : Hp) (v : V) (D : Addr) : Prop := ∃ t, TyX K H v t ∧ PySem.W.kitOne K t (.ref D) = some false
theorem NotC.same {K : PySem.W.Frag} {H H' : Hp} {v : V} {D : Addr} (s : Same H H') (h : NotC K H v D) : NotC K H' v D := by
  obtain ⟨t, ty, k⟩ := h
  exact ⟨t, tyX_same s ty, k⟩
inductive RowIn (K : PySem.W.Frag) (C : Addr) (H : Hp) (p : Int) (most : Nat) : V → Option (List (Option (Int × Int))) → Prop where
  | no {v : V} (h : IsQ K H v false) : RowIn K C H p most v none
  | long {l : Addr} {xs : List V} (h : LT H l xs) (n : most < xs.length) : RowIn K C H p most (.ref l) none
  | row {l : Addr} {xs : List V} {os : List (Option (Int × Int))} (h : LT H l xs) (n : xs.length ≤ most) (g : Givs K C H p xs os) : RowIn K C H p most (.ref l) (some os)
theorem pre_le : ∀ os : List (Option (Int × Int)), (pre os).length ≤ os.length
  | [] => Nat.le_refl _
  | none :: r => Nat.zero_le _
  | some a :: r => Nat.succ_le_succ (pre_le r)
theorem fn_eq0 {K : PySem.W.Frag} {C : Addr} {H : Hp} {p t u : Int} {y : V} {Q : VK} {E : XK} (nf1 : PySem.W.notFirst K C (.type "int") = true) (h : FN C H p y t u) (k : Q (.bl (decide (t = 0))) H) : rEq y (.int 0) H Q ∨ rOwnEq K C (spR_eq K C) E y (.int 0) H Q := by
  rcases h with ⟨_, ⟨r, rfl, R⟩, pu, cop⟩ | ⟨_, rfl, _, _⟩
  · obtain ⟨dr, hr⟩ := id R
    refine .inr ⟨r, dr, _, _, rfl, hr, .base (.int _), nf1, r, .int 0, t, u, rfl, R, .inr (.inl ⟨0, rfl, ?_⟩)⟩
    have e : decide (u = 1 ∧ t = 0) = decide (t = 0) := by
      by_cases c : t = 0
      · have u1 : u = 1 := by
          rw [c] at cop
          simp at cop
          omega
        rw [decide_eq_true c, decide_eq_true ⟨u1, c⟩]
      · rw [decide_eq_false c, decide_eq_false fun e => c e.2]
    rw [e]
    exact k
  · refine .inl ⟨rfl, ?_⟩
    have e : decide (V.int t = V.int 0) = decide (t = 0) := by
      by_cases c : t = 0
      · rw [decide_eq_true c, c, decide_eq_true rfl]
      · rw [decide_eq_false c, decide_eq_false fun e => c (V.int.inj e)]
    rw [e]
    exact k
theorem take_cut (ys : List V) (n : Nat) : cutV ys none (some ((n : Nat) : Int)) = ys.take n := by
  unfold cutV
  rw [HT.sIx_none, HT.sIx_nat, List.drop_zero, Nat.sub_zero]
  by_cases h : n ≤ ys.length
  · rw [Nat.min_eq_left h]
  · rw [Nat.min_eq_right (by omega), List.take_of_length_le (by simp), List.take_of_length_le (by omega)]
theorem RatAt.but {C D : Addr} {H H' : Hp} {x y dy : Addr} {t u : Int} (hy : H y = some (.ins D dy [])) (b : But y H H') (h : RatAt C H x t u) : RatAt C H' x t u := by
  obtain ⟨dx, h⟩ := h
  refine ⟨dx, b _ _ h fun e => ?_⟩
  rw [e, hy] at h
  have e2 : rfl_ t u = [] := by
    injection (Option.some.inj h) with _ _ e3
    exact e3.symm
  have := rf_top t u
  rw [e2] at this
  cases this
theorem FldAt.but {C D : Addr} {H H' : Hp} {x y dy : Addr} {p : Int} (hy : H y = some (.ins D dy [])) (b : But y H H') (h : FldAt C H x p) : FldAt C H' x p := by
  obtain ⟨dx, h⟩ := h
  refine ⟨dx, b _ _ h fun e => ?_⟩
  rw [e, hy] at h
  have e2 : pfl p = [] := by
    injection (Option.some.inj h) with _ _ e3
    exact e3.symm
  have := pf_prime p
  rw [e2] at this
  cases this
theorem FN.but {C D : Addr} {H H' : Hp} {y dy : Addr} {p t u : Int} {v : V} (hy : H y = some (.ins D dy [])) (b : But y H H') (h : FN C H p v t u) : FN C H' p v t u := by
  rcases h with ⟨p0, ⟨r, e, R⟩, a, c⟩ | h
  · exact .inl ⟨p0, ⟨r, e, R.but hy b⟩, a, c⟩
  · exact .inr h
theorem FNs.but {C D : Addr} {H H' : Hp} {y dy : Addr} {p : Int} {ys : List V} {prs : List (Int × Int)} (hy : H y = some (.ins D dy [])) (b : But y H H') (h : FNs C H p ys prs) : FNs C H' p ys prs := ⟨h.len, fun i z pr e1 e2 => (h.at_ i z pr e1 e2).but hy b⟩
theorem op_eqNil {X : Cx} (hu : X.A.units < cLine) : OpR X (compareOp .Eq) (fun x y H Q => ∃ a b xs, x = .ref a ∧ y = .ref b ∧ SqL X.K H a xs ∧ SqL X.K H b [] ∧ Q (.bl xs.isEmpty) H) := by
  intro pins s σ H x y v u Q I rx ry h
  obtain ⟨a, b, xs, rfl, rfl, ha, hb, q⟩ := h
  cases rx
  cases ry
  obtain ⟨its, rv, hl, _⟩ := I.list ha
  obtain ⟨jts, rw', hl', _⟩ := I.list hb
  have e0 : jts = [] := by
    cases rw'
    rfl
  subst e0
  cases xs with
  | nil =>
    have e1 : its = [] := by
      cases rv
      rfl
    subst e1
    refine SeqAt.eq_listAt (e := fun _ => true) hl.isList hl'.isList rfl hu (fun j h1 _ => absurd h1 (by simp)) ⟨.bl _, H, I, rfl, q⟩
  | cons z zs =>
    refine SeqAt.eq_list_lengthsAt hl.isList hl'.isList ?_ hu ⟨.bl _, H, I, rfl, q⟩
    cases rv
    simp
theorem RowIn.same {K : PySem.W.Frag} {C : Addr} {H H' : Hp} {p : Int} {n : Nat} {v : V} {o : Option (List (Option (Int × Int)))} (s : Same H H') (h : RowIn K C H p n v o) : RowIn K C H' p n v o := by
  cases h with
  | no h => exact .no (h.same s)
  | long h n => exact .long (h.same s) n
  | row h n g => exact .row (h.same s) n (g.same s)
structure KRd (K : PySem.W.Frag) (C CRd : Addr) : Prop where
  kint : PySem.W.kitOne K (.type "int") (.ref CRd) = some false
  kstr : PySem.W.kitOne K (.type "str") (.ref CRd) = some false
  knon : PySem.W.kitOne K (.type "NoneType") (.ref CRd) = some false
  kbool : PySem.W.kitOne K (.type "bool") (.ref CRd) = some false
  klist : PySem.W.kitOne K (.type "list") (.ref CRd) = some false
  ktup : PySem.W.kitOne K (.type "tuple") (.ref CRd) = some false
  kdict : PySem.W.kitOne K (.type "dict") (.ref CRd) = some false
  krat : PySem.W.kitOne K (.ref C) (.ref CRd) = some false
  rl : PySem.W.kitOne K (.ref C) (.type "list") = some false
  rt : PySem.W.kitOne K (.ref C) (.type "tuple") = some false
structure KZ3 (K : PySem.W.Frag) (C : Addr) : Prop where
  kbool : PySem.W.kitOne K (.type "bool") (.ref C) = some false
  klist : PySem.W.kitOne K (.type "list") (.ref C) = some false
  ktup : PySem.W.kitOne K (.type "tuple") (.ref C) = some false
  kdict : PySem.W.kitOne K (.type "dict") (.ref C) = some false
theorem t2_sh (s : Str) (n : Int) (hs : PyData.strOk s = true) : SeqAt.shaped (.tuple [.str s, .int n]) = true := by
  simp [SeqAt.shaped, PyData.canLay0, PyData.canLayAll0, PyData.depth, PyData.depthAll, hs]
theorem t2_dp {K : PySem.W.Frag} {H : Hp} {q : Addr} {s : Str} {n : Int} (h : H q = some (.tup [.str s, .int n])) : Dp K H (.ref q) (.tuple [.str s, .int n]) := .tup (SqT.of h) (.cons (.str _) (.cons (.int _) .nil))
theorem ne_same {K : PySem.W.Frag} {H : Hp} {p q : Addr} {s : Str} {n : Int} {Q : VK} (hp : H p = some (.tup [.str s, .int n])) (hq : H q = some (.tup [.str s, .int n])) (k : Q (.bl false) H) (hs : PyData.strOk s = true := by decide +kernel) : rNeD K (.ref p) (.ref q) H Q :=
  ⟨_, _, t2_dp hp, t2_dp hq, t2_sh s n hs, t2_sh s n hs, by
    rw [SeqAt.eqv_refl _ (SeqAt.canLay_of_shaped (t2_sh s n hs))]
    exact k⟩
theorem eq_same {K : PySem.W.Frag} {H : Hp} {p q : Addr} {s : Str} {n : Int} {Q : VK} (hp : H p = some (.tup [.str s, .int n])) (hq : H q = some (.tup [.str s, .int n])) (k : Q (.bl true) H) (hs : PyData.strOk s = true := by decide +kernel) : rEqD K (.ref p) (.ref q) H Q :=
  ⟨_, _, t2_dp hp, t2_dp hq, t2_sh s n hs, t2_sh s n hs, by
    rw [SeqAt.eqv_refl _ (SeqAt.canLay_of_shaped (t2_sh s n hs))]
    exact k⟩
theorem eq_str {K : PySem.W.Frag} {H : Hp} {p q : Addr} {s s' : Str} {n n' : Int} {Q : VK} (hp : H p = some (.tup [.str s, .int n])) (hq : H q = some (.tup [.str s', .int n'])) (ne : ¬ s = s') (k : Q (.bl false) H) (hs : PyData.strOk s = true := by decide +kernel) (hs' : PyData.strOk s' = true := by decide +kernel) : rEqD K (.ref p) (.ref q) H Q :=
  ⟨_, _, t2_dp hp, t2_dp hq, t2_sh s n hs, t2_sh s' n' hs', by
    have e : PyData.eqv (.tuple [.str s, .int n]) (.tuple [.str s', .int n']) = false := by
      simp [PyData.eqv, PyData.eqvAll, ne]
    rw [e]
    exact k⟩
theorem ix_ok {n : Nat} {i : Int} (h0 : 0 ≤ i) (h1 : i < n) : ixN n i = some i.toNat := by
  unfold ixN
  rw [if_pos h0, if_pos h1]
theorem rep_one (n : Nat) (v : V) : (List.replicate n [v]).flatten = List.replicate n v := by
  induction n with
  | zero => rfl
  | succ n ih =>
    rw [List.replicate_succ, List.flatten_cons, ih]
    rfl
theorem RatAt.updl {C : Addr} {H : Hp} {x q : Addr} {t u : Int} {xs : List V} {o : HO} (hq : H q = some (.lst xs)) (h : RatAt C H x t u) : RatAt C (L2.upd H q o) x t u := by
  obtain ⟨dx, R⟩ := h
  refine ⟨dx, (upd_ne fun z => ?_).trans R⟩
  rw [z, hq] at R
  cases R
theorem pre_at : ∀ {os : List (Option (Int × Int))} {i : Nat}, (∀ k, k < i → ∃ a, os[k]? = some (some a)) → os[i]? = some none → (pre os).length = i
  | [], i, _, e => by simp at e
  | none :: r, 0, _, _ => rfl
  | none :: r, i + 1, h, _ => by
    obtain ⟨a, e⟩ := h 0 (Nat.zero_lt_succ _)
    simp at e
  | some a :: r, 0, _, e => by simp at e
  | some a :: r, i + 1, h, e => by
    show (pre r).length + 1 = i + 1
    rw [pre_at (os := r) (i := i) (fun k hk => h (k + 1) (by omega)) (by simpa using e)]
theorem pre_set1 (prs : List (Int × Int)) {j : Nat} (h : j < prs.length) : (pre ((prs.map some).set j none)).length = j := by
  refine pre_at (fun k hk => ?_) ?_
  · rw [List.getElem?_set_ne (by omega), List.getElem?_map, List.getElem?_eq_getElem (by omega)]
    exact ⟨_, rfl⟩
  · exact List.getElem?_set_self (by simpa using h)
theorem pre_set2 (prs : List (Int × Int)) {j1 j2 : Nat} (h1 : j1 < prs.length) (h2 : j2 < prs.length) : (pre (((prs.map some).set j1 none).set j2 none)).length = min j1 j2 := by
  refine pre_at (fun k hk => ?_) ?_
  · rw [List.getElem?_set_ne (by omega), List.getElem?_set_ne (by omega), List.getElem?_map, List.getElem?_eq_getElem (by omega)]
    exact ⟨_, rfl⟩
  · by_cases c : j2 ≤ j1
    · rw [Nat.min_eq_right c]
      exact List.getElem?_set_self (by simpa using h2)
    · rw [Nat.min_eq_left (by omega), List.getElem?_set_ne (by omega)]
      exact List.getElem?_set_self (by simpa using h1)
theorem pre_map (prs : List (Int × Int)) : (pre (prs.map some)).length = (prs.map some).length := by
  rw [pre_all rfl, List.length_map]
theorem Givs.set {K : PySem.W.Frag} {C : Addr} {H : Hp} {p : Int} {xs : List V} {os : List (Option (Int × Int))} {v : V} {o : Option (Int × Int)} (h : Givs K C H p xs os) (g : Giv K C H p v o) (j : Nat) : Givs K C H p (xs.set j v) (os.set j o) := by
  refine ⟨by rw [List.length_set, List.length_set, h.len], fun i x o' e1 e2 => ?_⟩
  rw [List.getElem?_set] at e1 e2
  by_cases c : j = i
  · rw [if_pos c] at e1 e2
    split at e1
    · cases e1
      split at e2
      · cases e2
        exact g
      · cases e2
    · cases e1
  · rw [if_neg c] at e1 e2
    exact h.at_ i x o' e1 e2
theorem givs_rep {K : PySem.W.Frag} {C : Addr} {H : Hp} {p : Int} {n : Nat} {v : V} {o : Option (Int × Int)} (g : Giv K C H p v o) : Givs K C H p (List.replicate n v) (List.replicate n o) := by
  refine ⟨by simp, fun i x o' e1 e2 => ?_⟩
  rw [List.getElem?_replicate] at e1 e2
  split at e1
  · rename_i c
    rw [if_pos c] at e2
    cases e1
    cases e2
    exact g
  · cases e1
theorem pre_rep (n : Nat) (a : Int × Int) : (pre (List.replicate n (some a))).length = (List.replicate n (some a)).length := by
  have : List.replicate n (some a) = (List.replicate n a).map some := by simp
  rw [this]
  exact pre_map _
theorem fit1 : Fit 1 := fit_one
theorem FldAt.updl {C : Addr} {H : Hp} {x q : Addr} {p : Int} {xs : List V} {o : HO} (hq : H q = some (.lst xs)) (h : FldAt C H x p) : FldAt C (L2.upd H q o) x p := by
  obtain ⟨dx, R⟩ := h
  refine ⟨dx, (upd_ne fun z => ?_).trans R⟩
  rw [z, hq] at R
  cases R
theorem NumAt.updl {C : Addr} {H : Hp} {v : V} {q : Addr} {t u : Int} {xs : List V} {o : HO} (hq : H q = some (.lst xs)) (h : NumAt C H v t u) : NumAt C (L2.upd H q o) v t u := by
  rcases h with ⟨r, e, R⟩ | h
  · exact .inl ⟨r, e, R.updl hq⟩
  · exact .inr h
theorem Givs.updl {K : PySem.W.Frag} {C : Addr} {H : Hp} {p : Int} {q : Addr} {ys xs : List V} {prs : List (Int × Int)} {o : HO} (hq : H q = some (.lst xs)) (h : Givs K C H p ys (prs.map some)) : Givs K C (L2.upd H q o) p ys (prs.map some) := by
  refine ⟨h.len, fun i x oo e1 e2 => ?_⟩
  have g := h.at_ i x oo e1 e2
  rw [List.getElem?_map] at e2
  cases e3 : prs[i]? with
  | none => rw [e3] at e2; cases e2
  | some a =>
    rw [e3] at e2
    cases e2
    obtain ⟨t, u, n, r⟩ := g
    exact ⟨t, u, n.updl hq, r⟩
theorem Givs.snoc {K : PySem.W.Frag} {C : Addr} {H : Hp} {p : Int} {ys : List V} {os : List (Option (Int × Int))} {y : V} {o : Option (Int × Int)} (h : Givs K C H p ys os) (a : Giv K C H p y o) : Givs K C H p (ys ++ [y]) (os ++ [o]) := by
  refine ⟨by rw [List.length_append, List.length_append, h.len]; rfl, fun i z qr e1 e2 => ?_⟩
  rcases get_snoc e1 with e1 | ⟨i1, rfl⟩
  · rcases get_snoc e2 with e2 | ⟨i2, rfl⟩
    · exact h.at_ i z qr e1 e2
    · have := get_len e1
      have := h.len
      omega
  · rcases get_snoc e2 with e2 | ⟨i2, rfl⟩
    · have := get_len e2
      have := h.len
      omega
    · exact a
theorem passLS {X : Cx} {σ : L2.St} : PassesAt (L2.CX X.prog X.w) X σ E0 := fun pins H s e s' I h => passL pins σ H s e s' I h
end Sq

namespace Sq
open PySem L2 PyProof.Rows
/-! ### arithmetic of pairs -/
def shr (t u : Int) : Int := if u < 0 then -((Int.gcd t u : Nat) : Int) else ((Int.gcd t u : Nat) : Int)
def lowp (t u : Int) : Int × Int := (t.fdiv (shr t u), u.fdiv (shr t u))
theorem low_lowp (t : Int) {u : Int} (h : u ≠ 0) : Low t u (lowp t u).1 (lowp t u).2 := by
  unfold lowp shr
  by_cases c : u < 0
  · rw [if_pos c]
    exact low_of h (.inr ⟨rfl, c⟩)
  · rw [if_neg c]
    exact low_of h (.inl ⟨rfl, by omega⟩)
theorem low_is {a b t u : Int} (hb : b ≠ 0) (L : Low a b t u) : (t, u) = lowp a b := by
  have := (low_eq hb hb L (low_lowp a hb)).mpr rfl
  rw [this.1, this.2]
def npair (p t u : Int) : Int × Int := if p = 0 then lowp t u else (t % p, 1)
def timesP (p : Int) (a b : Int × Int) : Int × Int := npair p (a.1 * b.1) (a.2 * b.2)
def plusP (p : Int) (a b : Int × Int) : Int × Int := npair p (a.1 * b.2 + b.1 * a.2) (a.2 * b.2)
def horner (p : Int) (x : Int × Int) (prs : List (Int × Int)) : Int × Int := prs.foldr (fun c acc => plusP p (timesP p acc x) c) (0, 1)
def Bd (n : Nat) (a : Int × Int) : Prop := a.1.natAbs < 2 ^ n ∧ a.2.natAbs < 2 ^ n
theorem Bd.le {n m : Nat} {a : Int × Int} (h : Bd n a) (l : n ≤ m) : Bd m a := ⟨Nat.lt_of_lt_of_le h.1 (Nat.pow_le_pow_right (by decide) l), Nat.lt_of_lt_of_le h.2 (Nat.pow_le_pow_right (by decide) l)⟩
theorem Bd.fit {n : Nat} {a : Int × Int} (h : Bd n a) (l : n ≤ 1500) : Fit a.1 ∧ Fit a.2 := h.le l
theorem npair_bd {n : Nat} {t u : Int} (hu : u ≠ 0) (ht : t.natAbs < 2 ^ n) (hv : u.natAbs < 2 ^ n) : Bd n (npair 0 t u) := by
  unfold npair
  rw [if_pos rfl]
  have L := low_lowp t hu
  exact ⟨Nat.lt_of_le_of_lt L.lt ht, Nat.lt_of_le_of_lt L.lu hv⟩
theorem npair_pos {t u : Int} (hu : u ≠ 0) : 1 ≤ (npair 0 t u).2 := by
  unfold npair
  rw [if_pos rfl]
  exact (low_lowp t hu).pos
theorem times_bd {n m : Nat} {a b : Int × Int} (ha : Bd n a) (hb : Bd m b) (pa : 1 ≤ a.2) (pb : 1 ≤ b.2) : Bd (n + m) (timesP 0 a b) := npair_bd (mul_ne (by omega) (by omega)) (wide_lt ha.1 hb.1) (wide_lt ha.2 hb.2)
theorem plus_bd {n m : Nat} {a b : Int × Int} (ha : Bd n a) (hb : Bd m b) (pa : 1 ≤ a.2) (pb : 1 ≤ b.2) : Bd (n + m + 1) (plusP 0 a b) := by
  have h1 : (a.1 * b.2).natAbs < 2 ^ (n + m) := wide_lt ha.1 hb.2
  have h2 : (b.1 * a.2).natAbs < 2 ^ (n + m) := by
    rw [Nat.add_comm]
    exact wide_lt hb.1 ha.2
  refine npair_bd (mul_ne (by omega) (by omega)) ?_ (Nat.lt_of_lt_of_le (wide_lt ha.2 hb.2) (Nat.pow_le_pow_right (by decide) (by omega)))
  rw [Nat.pow_succ]
  omega
/-- a number before it is taken into the field -/
def Raw (C : Addr) (H : Hp) (p : Int) (v : V) (s : Int × Int) : Prop := (p = 0 ∧ FN C H p v s.1 s.2) ∨ (p ≠ 0 ∧ ∃ n, v = .int n ∧ n % p = s.1 ∧ s.2 = 1 ∧ n.natAbs < 2 ^ 60)
theorem Raw.same {C : Addr} {H H' : Hp} {p : Int} {v : V} {a : Int × Int} (s : Same H H') (h : Raw C H p v a) : Raw C H' p v a := h.imp (fun ⟨a, b⟩ => ⟨a, b.same s⟩) id
theorem fit60 {n : Int} (h : n.natAbs < 2 ^ 60) : Fit n := Nat.lt_of_lt_of_le h (Nat.pow_le_pow_right (by decide) (by decide))
def nrm (p i : Int) : Int := if p = 0 then i else i % p
theorem giv_int {K : PySem.W.Frag} {C : Addr} {H : Hp} {p i : Int} (hg : goodP p = true) (h : Fit i) : Giv K C H p (.int i) (some (nrm p i, 1)) := by
  refine ⟨i, 1, .inr ⟨rfl, rfl⟩, by decide, h, fit_one, fun p0 => ⟨by unfold nrm; rw [if_pos p0], Int.gcd_one_right _⟩, fun p0 => ?_⟩
  obtain ⟨p2, _, _⟩ := goodP_pos hg p0
  have e : nrm p i = i % p := if_neg p0
  refine ⟨by rw [Int.emod_eq_of_lt (by decide) (by omega)]; decide, rfl, ?_, ?_, ?_⟩
  · show 0 ≤ nrm p i
    rw [e]
    exact Int.emod_nonneg _ p0
  · show nrm p i < p
    rw [e]
    exact Int.emod_lt_of_pos _ (by omega)
  · show ∃ k, nrm p i * 1 = i + k * p
    rw [e, Int.mul_one]
    refine ⟨-(i / p), ?_⟩
    have := Int.emod_def i p
    rw [this, Int.neg_mul, Int.mul_comm p]
    omega
theorem giv_fn {K : PySem.W.Frag} {C : Addr} {H : Hp} {p t u : Int} {v : V} (hg : goodP p = true) (h : FN C H p v t u) (ht : Fit t) (hu : Fit u) : Giv K C H p v (some (t, u)) := by
  refine ⟨t, u, h.num, h.pos, ht, hu, fun p0 => ?_, fun p0 => ?_⟩
  · rcases h with ⟨_, _, _, c⟩ | ⟨q, _⟩
    · exact ⟨rfl, c⟩
    · exact absurd p0 q
  · rcases h with ⟨q, _⟩ | ⟨_, _, u1, a, b⟩
    · exact absurd q p0
    · obtain ⟨p2, _, _⟩ := goodP_pos hg p0
      refine ⟨by rw [u1, Int.emod_eq_of_lt (by decide) (by omega)]; decide, u1, a, b, 0, ?_⟩
      rw [u1]
      omega
theorem giv_raw {K : PySem.W.Frag} {C : Addr} {H : Hp} {p : Int} {v : V} {a : Int × Int} (hg : goodP p = true) (h : Raw C H p v a) (f : p = 0 → Fit a.1 ∧ Fit a.2) : Giv K C H p v (some a) := by
  rcases h with ⟨p0, h⟩ | ⟨p0, n, rfl, e, e1, b⟩
  · exact giv_fn hg h (f p0).1 (f p0).2
  · have := giv_int (K := K) (C := C) (H := H) hg (fit60 b)
    have e2 : nrm p n = a.1 := by
      unfold nrm
      rw [if_neg p0]
      exact e
    rw [e2] at this
    have e3 : a = (a.1, 1) := by rw [← e1]
    rw [e3]
    exact this
theorem num_go {K : PySem.W.Frag} {C CF CNN x : Addr} {H : Hp} {p : Int} {v : V} {a : Int × Int} {Q : VK} {E : XK} (hx : FldAt CF H x p) (hg : goodP p = true) (gv : Giv K C H p v (some a)) (k : ∀ y H', Same H H' → FN C H' p y a.1 a.2 → Q y H') : spNum K C CF CNN [.ref x, v] H Q E := by
  obtain ⟨t, u, n, pu, st, su, h0, hp⟩ := gv
  refine ⟨x, v, p, rfl, hx, hg, .inr ⟨t, u, n, pu, fit_up st, fit_up su, fun p0 r H3 R s3 => ?_, fun p0 up => absurd up (hp p0).1, fun p0 up r H3 r0 r1 ⟨kk, hk⟩ s3 => ?_⟩⟩
  · obtain ⟨rfl, cop⟩ := h0 p0
    exact k (.ref r) H3 s3 (.inl ⟨p0, ⟨r, rfl, R⟩, pu, cop⟩)
  · obtain ⟨_, a2, a0, a1, k2, hk2⟩ := hp p0
    have e := num_uniq hg p0 up r0 r1 a0 a1 hk hk2
    exact k (.int r) H3 s3 (.inr ⟨p0, by rw [e], a2, a0, a1⟩)
theorem num_no {K : PySem.W.Frag} {C CF CNN x : Addr} {H : Hp} {p : Int} {v : V} {Q : VK} {E : XK} (hx : FldAt CF H x p) (hg : goodP p = true) (gv : Giv K C H p v none) (k : E (.ref CNN) none H) : spNum K C CF CNN [.ref x, v] H Q E := by
  rcases gv with g | ⟨t, u, n, pu, st, su, p0, um⟩
  · exact ⟨x, v, p, rfl, hx, hg, .inl ⟨g, k⟩⟩
  · exact ⟨x, v, p, rfl, hx, hg, .inr ⟨t, u, n, pu, fit_up st, fit_up su, fun h => absurd h p0, fun _ _ => k, fun _ h => absurd um h⟩⟩
theorem prime_lt {p : Int} (hg : goodP p = true) (p0 : p ≠ 0) : 2 ≤ p ∧ p ≤ 9973 := ⟨(goodP_pos hg p0).1, (goodP_pos hg p0).2.1⟩
theorem mul_lt60 {p a b : Int} (hg : goodP p = true) (p0 : p ≠ 0) (a0 : 0 ≤ a) (a1 : a < p) (b0 : 0 ≤ b) (b1 : b < p) : 0 ≤ a * b ∧ a * b < 100000000 := by
  have := prime_lt hg p0
  refine ⟨Int.mul_nonneg a0 b0, ?_⟩
  have h1 : a * b ≤ 9973 * b := Int.mul_le_mul_of_nonneg_right (by omega) b0
  omega
/-- a * b of two numbers of the field -/
theorem mul_fn {C : Addr} {H : Hp} {p : Int} {v w : V} {a b : Int × Int} {Q : VK} {E : XK} (hg : goodP p = true) (ha : FN C H p v a.1 a.2) (hb : FN C H p w b.1 b.2) (f : p = 0 → (Fit a.1 ∧ Fit a.2) ∧ (Fit b.1 ∧ Fit b.2))
    (k : ∀ y H', Same H H' → Raw C H' p y (timesP p a b) → (p ≠ 0 → ∀ n, y = .int n → n.natAbs < 2 ^ 50) → Q y H') : (rI CMul fun i j => .int (i * j)) v w H Q ∨ rOwn2 C (spR_mul C) E v w H Q := by
  rcases ha with ⟨p0, ⟨r, rfl, R⟩, pu, cop⟩ | ⟨p0, rfl, a2, a0, a1⟩
  · rcases hb with ⟨_, ⟨r', rfl, R'⟩, pu', cop'⟩ | ⟨q, _⟩
    · obtain ⟨d, hr⟩ := id R
      obtain ⟨d', hr'⟩ := id R'
      obtain ⟨⟨f1, f2⟩, f3, f4⟩ := f p0
      refine .inr ⟨r, r', d, d', _, _, rfl, rfl, hr, hr', r, .ref r', a.1, a.2, b.1, b.2, rfl, R, .inl ⟨r', rfl, R'⟩, pu, pu', f1, f2, f3, f4, fun z T U H' L Rz s => ?_⟩
      have e : (T, U) = timesP p a b := by
        unfold timesP npair
        rw [if_pos p0]
        exact low_is (mul_ne (by omega) (by omega)) L
      refine k _ _ s (.inl ⟨p0, ?_⟩) (fun h => absurd p0 h)
      rw [← e]
      exact .inl ⟨p0, ⟨z, rfl, Rz⟩, L.pos, L.cop⟩
    · exact absurd p0 q
  · rcases hb with ⟨q, _⟩ | ⟨_, rfl, b2, b0, b1⟩
    · exact absurd q p0
    · have m := mul_lt60 hg p0 a0 a1 b0 b1
      have := prime_lt hg p0
      refine .inl ⟨_, _, rfl, rfl, .inl ⟨by omega, by omega⟩, k _ _ (Same.refl H) (.inr ⟨p0, _, rfl, ?_, ?_, by omega⟩) (fun _ n e => by rw [← V.int.inj e]; omega)⟩
      · unfold timesP npair
        rw [if_neg p0]
      · unfold timesP npair
        rw [if_neg p0]
/-- a raw number + a number of the field -/
theorem add_fn {C : Addr} {H : Hp} {p : Int} {v w : V} {a b : Int × Int} {Q : VK} {E : XK} (hg : goodP p = true) (hv : Raw C H p v a) (hb : FN C H p w b.1 b.2) (sm : p ≠ 0 → ∀ n, v = .int n → n.natAbs < 2 ^ 50) (f : p = 0 → (Fit a.1 ∧ Fit a.2) ∧ (Fit b.1 ∧ Fit b.2))
    (k : ∀ y H', Same H H' → Raw C H' p y (plusP p a b) → Q y H') : (rI0 fun i j => .int (i + j)) v w H Q ∨ rOwn2 C (spR_add C) E v w H Q := by
  rcases hv with ⟨p0, ha⟩ | ⟨p0, n, rfl, e, e1, sb⟩
  · rcases ha with ⟨_, ⟨r, rfl, R⟩, pu, cop⟩ | ⟨q, _⟩
    · rcases hb with ⟨_, ⟨r', rfl, R'⟩, pu', cop'⟩ | ⟨q, _⟩
      · obtain ⟨d, hr⟩ := id R
        obtain ⟨d', hr'⟩ := id R'
        obtain ⟨⟨f1, f2⟩, f3, f4⟩ := f p0
        refine .inr ⟨r, r', d, d', _, _, rfl, rfl, hr, hr', r, .ref r', a.1, a.2, b.1, b.2, rfl, R, .inl ⟨r', rfl, R'⟩, pu, pu', f1, f2, f3, f4, fun z T U H' L Rz s => ?_⟩
        have e : (T, U) = plusP p a b := by
          unfold plusP npair
          rw [if_pos p0]
          exact low_is (mul_ne (by omega) (by omega)) L
        refine k _ _ s (.inl ⟨p0, ?_⟩)
        rw [← e]
        exact .inl ⟨p0, ⟨z, rfl, Rz⟩, L.pos, L.cop⟩
      · exact absurd p0 q
    · exact absurd p0 q
  · rcases hb with ⟨q, _⟩ | ⟨_, rfl, b2, b0, b1⟩
    · exact absurd q p0
    · have := prime_lt hg p0
      have s50 := sm p0 n rfl
      refine .inl ⟨_, _, rfl, rfl, k _ _ (Same.refl H) (.inr ⟨p0, _, rfl, ?_, ?_, ?_⟩)⟩
      · unfold plusP npair
        rw [if_neg p0, e1, b2, Int.mul_one, Int.mul_one]
        show (n + b.1) % p = (a.1 + b.1) % p
        rw [← e, Int.emod_add_emod]
      · unfold plusP npair
        rw [if_neg p0]
      · omega
end Sq

namespace Sq
open PySem L2 PyProof.Rows
abbrev s_pair : Stmt := top 48
abbrev s_plus : Stmt := top 49
abbrev s_times : Stmt := top 51
/-- the law's pairs and rows of pairs -/
def PairAt (H : Hp) (q : Addr) (a : Int × Int) : Prop := H q = some (.tup [.int a.1, .int a.2])
theorem PairAt.same {H H' : Hp} {q : Addr} {a : Int × Int} (s : Same H H') (h : PairAt H q a) : PairAt H' q a := s _ _ h
def spPair : Sp := fun vs H Q _ => ∃ p t u : Int, vs = [.int p, .int t, .int u] ∧ goodP p = true ∧ (p ≠ 0 → u = 1) ∧ u ≠ 0 ∧ u.natAbs < 2 ^ 8000 ∧ ∀ q H', Same H H' → PairAt H' q (npair p t u) → Q (.ref q) H'
/-- what a pair of the law keeps -/
def PB (p : Int) (a : Int × Int) : Prop := 1 ≤ a.2 ∧ (p ≠ 0 → a.2 = 1) ∧ Bd 1450 a
def spPlus : Sp := fun vs H Q _ => ∃ (p : Int) (q1 q2 : Addr) (a b : Int × Int), vs = [.int p, .ref q1, .ref q2] ∧ goodP p = true ∧ PairAt H q1 a ∧ PairAt H q2 b ∧ PB p a ∧ PB p b ∧ ∀ q H', Same H H' → PairAt H' q (plusP p a b) → Q (.ref q) H'
def spTimes : Sp := fun vs H Q _ => ∃ (p : Int) (q1 q2 : Addr) (a b : Int × Int), vs = [.int p, .ref q1, .ref q2] ∧ goodP p = true ∧ PairAt H q1 a ∧ PairAt H q2 b ∧ PB p a ∧ PB p b ∧ ∀ q H', Same H H' → PairAt H' q (timesP p a b) → Q (.ref q) H'
theorem pm {x y : Int} (h : x.natAbs < 2 ^ 1450) (h' : y.natAbs < 2 ^ 1450) : CMulW x y := mul_ok (Nat.lt_of_lt_of_le h (Nat.pow_le_pow_right (by decide) (by decide))) (Nat.lt_of_lt_of_le h' (Nat.pow_le_pow_right (by decide) (by decide)))
theorem pm8 {x y : Int} (h : x.natAbs < 2 ^ 1450) (h' : y.natAbs < 2 ^ 1450) : (x * y).natAbs < 2 ^ 8000 := Nat.lt_of_lt_of_le (wide_lt h h') (Nat.pow_le_pow_right (by decide) (by decide))
section
variable {P : Program} {w : World} {K : PySem.W.Frag} {mg : Str → Option Value} {base : Heap}
theorem sc_pair : FnScope ["_law_prime_here", "_law_top", "_law_bottom", "_law_shared"] ["_law_prime_here", "_law_top", "_law_bottom"] (defScope s_pair) := ⟨rfl, rfl, rfl, by decide +kernel, rfl, by decide +kernel, by decide +kernel⟩
theorem ok_pair {f fgcd : Addr} {fd fdgcd : FuncData} (F : Fun K "_law_pair" "_law_pair" s_pair f fd) (D : DTx mg) (G_gcd : FnOk P w K mg base CX0 1 fgcd fdgcd ["_law_one", "_law_other"] spGcd) (m_gcd : mg "_law_gcd" = some (.ref fgcd)) (k_gcd : PySem.W.keepIn K (.ref fgcd) = true) (b_gcd : Binds K fdgcd ["_law_one", "_law_other"] []) : FnOk P w K mg base CX0 2 f fd ["_law_prime_here", "_law_top", "_law_bottom"] spPair := by
  refine F.ok sc_pair (fun vs H Q E h => ?_) (fun cdv A outer s H vs Q E hr h => ?_)
  · obtain ⟨p, t, u, rfl, _⟩ := h
    rfl
  · obtain ⟨p, t, u, rfl, hg, h1, u0, su, k⟩ := h
    refine ⟨_, (pss_cons (ps_if (pt_cmpR op_gt (pv 0) pe_int (nomark _))
        (pss_cons (ps_if (pt_cmpR op_eq (pv 2) pe_int (nomark _)) (pss_one (ps_ret (pe_tup (pa_cons (pe_op op_mod (pe_callTy call_int1 (by rfl) D.b_int (by decide +kernel) (pa_cons (pv 1) pa_nil)) (pv 0)) (pa_cons pe_int pa_nil))))) pss_nil)
        (pss_one ps_never)) pss_nil)
      (pss_cons (ps_set (i := 3) sc_pair.nd rfl (Or.inl rfl) (pe_call G_gcd (hr.mono (by decide)) rfl m_gcd k_gcd b_gcd .nil pass0 (pa_cons (pv 1) (pa_cons (pv 2) pa_nil))))
      (C8.pss_cut (ps_if (pt_cmpR op_lt (pv 2) pe_int (nomark _)) (pss_one (ps_set (i := 3) sc_pair.nd rfl (Or.inl rfl) (pe_un un_neg (pv 3)))) pss_nil)
      (pss_one (ps_ret (pe_tup (pa_cons (pe_op op_fdivZ (pv 1) (pv 3)) (pa_cons (pe_op op_fdivZ (pv 2) (pv 3)) pa_nil)))))))), ?_⟩
    refine ⟨_, rfl, _, _, rfl, rfl, _, rfl, ?_⟩
    by_cases p0 : p = 0
    · refine itDn (by simp [p0]) ?_
      refine ⟨_, rfl, _, rfl, t, u, rfl, ?_⟩
      refine ⟨fun σ H' => σ = [some (.int p), some (.int t), some (.int u), some (.int (shr t u))] ∧ H' = H, ?_, ?_⟩
      · refine ⟨_, rfl, _, _, rfl, rfl, _, rfl, ?_⟩
        unfold shr
        by_cases c : u < 0
        · rw [if_pos c]
          exact itD (decide_eq_true c) ⟨_, rfl, _, rfl, rfl, rfl⟩
        · rw [if_neg c]
          exact itDn (by simpa using c) ⟨rfl, rfl⟩
      · rintro σ H' ⟨rfl, rfl⟩
        have gp : 0 < Int.gcd t u := Int.gcd_pos_of_ne_zero_right t u0
        have gl : Int.gcd t u ≤ u.natAbs := Nat.le_of_dvd (by omega) (Int.gcd_dvd_natAbs_right ..)
        have cz : ∀ i, CDivZ i (shr t u) := fun i => by
          unfold shr
          split
          · exact ⟨by omega, by omega⟩
          · exact ⟨by omega, by omega⟩
        refine ⟨_, rfl, _, rfl, _, _, rfl, rfl, cz _, _, rfl, _, rfl, _, _, rfl, rfl, cz _, (by show 2 ≤ sizeLine; decide), fun q hq => ?_⟩
        refine k q _ (same_new (Same.refl _) hq) ?_
        unfold npair
        rw [if_pos p0]
        exact upd_same
    · have p2 := prime_lt hg p0
      have e1 := h1 p0
      subst e1
      refine itD (by simp; omega) ⟨_, rfl, rfl, _, rfl, iteT ?_⟩
      refine ⟨_, rfl, .inl ⟨_, rfl, _, rfl, _, _, rfl, rfl, (show 0 < p by omega), (by show 2 ≤ sizeLine; decide), fun q hq => ?_⟩⟩
      refine k q _ (same_new (Same.refl _) hq) ?_
      unfold npair
      rw [if_neg p0]
      exact upd_same
theorem sc_plus : FnScope ["_law_prime_here", "_law_one", "_law_other"] ["_law_prime_here", "_law_one", "_law_other"] (defScope s_plus) := ⟨rfl, rfl, rfl, by decide +kernel, rfl, by decide +kernel, by decide +kernel⟩
theorem ok_plus {f fpair : Addr} {fd fdpair : FuncData} (F : Fun K "_law_plus" "_law_plus" s_plus f fd) (G_pair : FnOk P w K mg base CX0 2 fpair fdpair ["_law_prime_here", "_law_top", "_law_bottom"] spPair) (m_pair : mg "_law_pair" = some (.ref fpair)) (k_pair : PySem.W.keepIn K (.ref fpair) = true) (b_pair : Binds K fdpair ["_law_prime_here", "_law_top", "_law_bottom"] []) : FnOk P w K mg base CX0 3 f fd ["_law_prime_here", "_law_one", "_law_other"] spPlus := by
  refine F.ok sc_plus (fun vs H Q E h => ?_) (fun cdv A outer s H vs Q E hr h => ?_)
  · obtain ⟨p, q1, q2, a, b, rfl, _⟩ := h
    rfl
  · obtain ⟨p, q1, q2, a, b, rfl, hg, h1, h2, ⟨pa, ea, ba⟩, ⟨pb, eb, bb⟩, k⟩ := h
    refine ⟨_, (pss_one (ps_ret (pe_call G_pair (hr.mono (by decide)) rfl m_pair k_pair b_pair .nil pass0 (pa_cons (pv 0) (pa_cons (pe_op op_add (pe_op op_mulW (pe_ix ix_tup (pv 1) pe_int (fun _ _ => rfl)) (pe_ix ix_tup (pv 2) pe_int (fun _ _ => rfl))) (pe_op op_mulW (pe_ix ix_tup (pv 2) pe_int (fun _ _ => rfl)) (pe_ix ix_tup (pv 1) pe_int (fun _ _ => rfl)))) (pa_cons (pe_op op_mulW (pe_ix ix_tup (pv 1) pe_int (fun _ _ => rfl)) (pe_ix ix_tup (pv 2) pe_int (fun _ _ => rfl))) pa_nil)))))), ?_⟩
    refine ⟨_, rfl, _, rfl, _, _, _, _, rfl, rfl, SqT.of h1, rfl, _, rfl, _, _, _, _, rfl, rfl, SqT.of h2, rfl, _, _, rfl, rfl, pm ba.1 bb.2, ?_⟩
    refine ⟨_, rfl, _, _, _, _, rfl, rfl, SqT.of h2, rfl, _, rfl, _, _, _, _, rfl, rfl, SqT.of h1, rfl, _, _, rfl, rfl, pm bb.1 ba.2, _, _, rfl, rfl, ?_⟩
    refine ⟨_, rfl, _, _, _, _, rfl, rfl, SqT.of h1, rfl, _, rfl, _, _, _, _, rfl, rfl, SqT.of h2, rfl, _, _, rfl, rfl, pm ba.2 bb.2, ?_⟩
    exact ⟨p, _, _, rfl, hg, fun p0 => by rw [ea p0, eb p0]; rfl, mul_ne (by omega) (by omega), pm8 ba.2 bb.2, k⟩
theorem sc_times : FnScope ["_law_prime_here", "_law_one", "_law_other"] ["_law_prime_here", "_law_one", "_law_other"] (defScope s_times) := ⟨rfl, rfl, rfl, by decide +kernel, rfl, by decide +kernel, by decide +kernel⟩
theorem ok_times {f fpair : Addr} {fd fdpair : FuncData} (F : Fun K "_law_times" "_law_times" s_times f fd) (G_pair : FnOk P w K mg base CX0 2 fpair fdpair ["_law_prime_here", "_law_top", "_law_bottom"] spPair) (m_pair : mg "_law_pair" = some (.ref fpair)) (k_pair : PySem.W.keepIn K (.ref fpair) = true) (b_pair : Binds K fdpair ["_law_prime_here", "_law_top", "_law_bottom"] []) : FnOk P w K mg base CX0 3 f fd ["_law_prime_here", "_law_one", "_law_other"] spTimes := by
  refine F.ok sc_times (fun vs H Q E h => ?_) (fun cdv A outer s H vs Q E hr h => ?_)
  · obtain ⟨p, q1, q2, a, b, rfl, _⟩ := h
    rfl
  · obtain ⟨p, q1, q2, a, b, rfl, hg, h1, h2, ⟨pa, ea, ba⟩, ⟨pb, eb, bb⟩, k⟩ := h
    refine ⟨_, (pss_one (ps_ret (pe_call G_pair (hr.mono (by decide)) rfl m_pair k_pair b_pair .nil pass0 (pa_cons (pv 0) (pa_cons (pe_op op_mulW (pe_ix ix_tup (pv 1) pe_int (fun _ _ => rfl)) (pe_ix ix_tup (pv 2) pe_int (fun _ _ => rfl))) (pa_cons (pe_op op_mulW (pe_ix ix_tup (pv 1) pe_int (fun _ _ => rfl)) (pe_ix ix_tup (pv 2) pe_int (fun _ _ => rfl))) pa_nil)))))), ?_⟩
    refine ⟨_, rfl, _, rfl, _, _, _, _, rfl, rfl, SqT.of h1, rfl, _, rfl, _, _, _, _, rfl, rfl, SqT.of h2, rfl, _, _, rfl, rfl, pm ba.1 bb.1, ?_⟩
    refine ⟨_, rfl, _, _, _, _, rfl, rfl, SqT.of h1, rfl, _, rfl, _, _, _, _, rfl, rfl, SqT.of h2, rfl, _, _, rfl, rfl, pm ba.2 bb.2, ?_⟩
    exact ⟨p, _, _, rfl, hg, fun p0 => by rw [ea p0, eb p0]; rfl, mul_ne (by omega) (by omega), pm8 ba.2 bb.2, k⟩
end
end Sq

-- needs HandS.Deep
namespace Sq
open PySem L2 PyProof.Rows
abbrev s_given : Stmt := top 52
abbrev s_passed : Stmt := top 55
abbrev s_lread : Stmt := top 53
abbrev s_rowt : Stmt := top 54
theorem lt20 {x : Int} (h0 : -1000000 ≤ x) (h1 : x ≤ 1000000) : x.natAbs < 2 ^ 20 := by
  have : (2 : Nat) ^ 20 = 1048576 := by decide
  omega
theorem lt20f {x : Int} (h0 : -1000000 ≤ x) (h1 : x ≤ 1000000) : Fit x := Nat.lt_of_lt_of_le (lt20 h0 h1) (Nat.pow_le_pow_right (by decide) (by decide))
theorem lt204 {x : Int} (h0 : -1000000 ≤ x) (h1 : x ≤ 1000000) : x.natAbs < 2 ^ 4000 := Nat.lt_of_lt_of_le (lt20 h0 h1) (Nat.pow_le_pow_right (by decide) (by decide))
def NumN (n : Nat) (p : Int) (a : Int × Int) : Prop := 1 ≤ a.2 ∧ (p = 0 → Int.gcd a.1 a.2 = 1 ∧ Bd n a) ∧ (p ≠ 0 → a.2 = 1 ∧ 0 ≤ a.1 ∧ a.1 < p)
abbrev NumOk (p : Int) (a : Int × Int) : Prop := NumN 5 p a
abbrev NumW (p : Int) (a : Int × Int) : Prop := NumN 1400 p a
theorem NumN.le {n m : Nat} {p : Int} {a : Int × Int} (h : NumN n p a) (l : n ≤ m) : NumN m p a := ⟨h.1, fun p0 => ⟨(h.2.1 p0).1, (h.2.1 p0).2.le l⟩, h.2.2⟩
theorem NumN.bd {n : Nat} {p : Int} {a : Int × Int} (hg : goodP p = true) (h : NumN n p a) (p0 : p ≠ 0) : Bd 20 a := by
  obtain ⟨e, a0, a1⟩ := h.2.2 p0
  have := prime_lt hg p0
  refine ⟨?_, ?_⟩
  · have : (2 : Nat) ^ 20 = 1048576 := by decide
    omega
  · have : (2 : Nat) ^ 20 = 1048576 := by decide
    omega
theorem NumN.all {n m : Nat} {p : Int} {a : Int × Int} (hg : goodP p = true) (h : NumN n p a) (l1 : n ≤ m) (l2 : 20 ≤ m) : Bd m a := by
  by_cases p0 : p = 0
  · exact (h.2.1 p0).2.le l1
  · exact (h.bd hg p0).le l2
theorem NumN.fit {n : Nat} {p : Int} {a : Int × Int} (hg : goodP p = true) (h : NumN n p a) (l : n ≤ 1500) : Fit a.1 ∧ Fit a.2 := (h.all hg l (by decide)).fit (by decide)
theorem NumN.pb {n : Nat} {p : Int} {a : Int × Int} (hg : goodP p = true) (h : NumN n p a) (l : n ≤ 1450) : PB p a := ⟨h.1, fun p0 => (h.2.2 p0).1, h.all hg l (by decide)⟩
def spGiven (C : Addr) : Sp := fun vs H Q _ => ∃ (q : Addr) (a : Int × Int), vs = [.ref q] ∧ PairAt H q a ∧ 1 ≤ a.2 ∧ Int.gcd a.1 a.2 = 1 ∧ a.2.natAbs < 2 ^ 8000 ∧ ∀ y H', Same H H' → NumAt C H' y a.1 a.2 → Q y H'
def spPassed (K : PySem.W.Frag) (C : Addr) : Sp := fun vs H Q _ => ∃ (p : Int) (q : Addr) (k : Int) (a : Int × Int), vs = [.int p, .ref q, .int k] ∧ goodP p = true ∧ PairAt H q a ∧ NumW p a ∧ 0 ≤ k ∧ k < 1000 ∧ ∀ y H', Same H H' → Giv K C H' p y (some a) → Q y H'
def spLRead (C : Addr) : Sp := fun vs H Q _ => ∃ (p : Int) (y : V) (a : Int × Int), vs = [.int p, y] ∧ goodP p = true ∧ FN C H p y a.1 a.2 ∧ ∀ q H', Same H H' → PairAt H' q a → Q (.ref q) H'
structure RowV (H : Hp) (vs : List V) (prs : List (Int × Int)) : Prop where
  len : vs.length = prs.length
  at_ : ∀ (i : Nat) (v : V) (a : Int × Int), vs[i]? = some v → prs[i]? = some a → ∃ q, v = .ref q ∧ PairAt H q a
theorem RowV.same {H H' : Hp} {vs : List V} {prs : List (Int × Int)} (s : Same H H') (h : RowV H vs prs) : RowV H' vs prs := ⟨h.len, fun i v a e1 e2 => by
  obtain ⟨q, e, hq⟩ := h.at_ i v a e1 e2
  exact ⟨q, e, hq.same s⟩⟩
theorem RowV.nil {H : Hp} : RowV H [] [] := ⟨rfl, fun i v a e _ => by simp at e⟩
theorem RowV.snoc {H : Hp} {vs : List V} {prs : List (Int × Int)} {q : Addr} {a : Int × Int} (h : RowV H vs prs) (hq : PairAt H q a) : RowV H (vs ++ [.ref q]) (prs ++ [a]) := by
  refine ⟨by rw [List.length_append, List.length_append, h.len]; rfl, fun i z b e1 e2 => ?_⟩
  rcases get_snoc e1 with e1 | ⟨i1, rfl⟩
  · rcases get_snoc e2 with e2 | ⟨i2, rfl⟩
    · exact h.at_ i z b e1 e2
    · have := get_len e1
      have := h.len
      omega
  · rcases get_snoc e2 with e2 | ⟨i2, rfl⟩
    · have := get_len e2
      have := h.len
      omega
    · exact ⟨q, rfl, hq⟩
theorem RowV.upd {H : Hp} {vs : List V} {prs : List (Int × Int)} {D : Addr} {xs : List V} {o : HO} (hD : H D = some (.lst xs)) (h : RowV H vs prs) : RowV (L2.upd H D o) vs prs := ⟨h.len, fun i v a e1 e2 => by
  obtain ⟨q, e, hq⟩ := h.at_ i v a e1 e2
  refine ⟨q, e, (upd_ne fun z => ?_).trans hq⟩
  rw [z] at hq
  rw [PairAt, hD] at hq
  cases hq⟩
def RowAt (H : Hp) (l : Addr) (prs : List (Int × Int)) : Prop := ∃ vs, H l = some (.lst vs) ∧ RowV H vs prs
theorem RowAt.same {H H' : Hp} {l : Addr} {prs : List (Int × Int)} (s : Same H H') (h : RowAt H l prs) : RowAt H' l prs := by
  obtain ⟨vs, e, r⟩ := h
  exact ⟨vs, s _ _ e, r.same s⟩
def pairD (a : Int × Int) : PyData := .tuple [.int a.1, .int a.2]
theorem rowV_dp {K : PySem.W.Frag} {H : Hp} : ∀ {vs : List V} {prs : List (Int × Int)}, RowV H vs prs → DpAll K H vs (prs.map pairD)
  | [], [], _ => .nil
  | [], _ :: _, h => by have := h.len; simp at this
  | _ :: _, [], h => by have := h.len; simp at this
  | v :: vs, a :: prs, h => by
    obtain ⟨q, e, hq⟩ := h.at_ 0 v a rfl rfl
    subst e
    have tl : RowV H vs prs := ⟨by have := h.len; simpa using this, fun i x b e1 e2 => h.at_ (i + 1) x b e1 e2⟩
    exact .cons (.tup (SqT.of hq) (.cons (.int _) (.cons (.int _) .nil))) (rowV_dp tl)
theorem RowAt.dp {K : PySem.W.Frag} {H : Hp} {l : Addr} {prs : List (Int × Int)} (h : RowAt H l prs) : Dp K H (.ref l) (.list (prs.map pairD)) := by
  obtain ⟨vs, e, r⟩ := h
  exact .lst (SqL.of e) (rowV_dp r)
theorem row_lay : ∀ prs : List (Int × Int), PyData.canLayAll0 (prs.map pairD) = true
  | [] => by simp [PyData.canLayAll0]
  | a :: r => by
    show (PyData.canLay0 (pairD a) && PyData.canLayAll0 (r.map pairD)) = true
    rw [row_lay r]
    simp [pairD, PyData.canLay0, PyData.canLayAll0]
theorem row_depth : ∀ prs : List (Int × Int), PyData.depthAll (prs.map pairD) ≤ 1
  | [] => by simp [PyData.depthAll]
  | a :: r => by
    have := row_depth r
    show max (PyData.depth (pairD a)) (PyData.depthAll (r.map pairD)) ≤ 1
    have e : PyData.depth (pairD a) = 1 := by simp [pairD, PyData.depth, PyData.depthAll]
    omega
theorem row_shaped (prs : List (Int × Int)) : SeqAt.shaped (.list (prs.map pairD)) = true := by
  unfold SeqAt.shaped
  rw [Bool.and_eq_true, decide_eq_true_eq]
  refine ⟨?_, ?_⟩
  · show PyData.canLayAll0 (prs.map pairD) = true
    exact row_lay prs
  · show PyData.depthAll (prs.map pairD) + 1 ≤ 64
    have := row_depth prs
    omega
theorem none_free (prs : List (Int × Int)) : ((prs.map pairD).any fun z => PyData.eqv z .none) = false := by
  rw [List.any_eq_false]
  intro z hz
  obtain ⟨a, _, rfl⟩ := List.mem_map.mp hz
  show ¬ PyData.eqv (pairD a) .none = true
  simp [pairD, PyData.eqv]
def spRowT (C : Addr) : Sp := fun vs H Q _ => ∃ (p : Int) (ct : Addr) (ys : List V) (prs : List (Int × Int)), vs = [.int p, .ref ct] ∧ goodP p = true ∧ H ct = some (.tup ys) ∧ FNs C H p ys prs ∧ ys.length ≤ 1000 ∧ ∀ l H', Same H H' → RowAt H' l prs → Q (.ref l) H'
theorem low_self {t u T U : Int} (pu : 1 ≤ u) (cop : Int.gcd t u = 1) (L : Low t u T U) : T = t ∧ U = u := (low_eq (by omega) (by omega) L (⟨pu, cop, rfl, Nat.le_refl _, Nat.le_refl _⟩ : Low t u t u)).mpr rfl
section
variable {P : Program} {w : World} {K : PySem.W.Frag} {mg : Str → Option Value} {base : Heap}
theorem sc_given : FnScope ["_law_pair_here"] ["_law_pair_here"] (defScope s_given) := ⟨rfl, rfl, rfl, by decide +kernel, rfl, by decide +kernel, by decide +kernel⟩
theorem ok_given {f C CN fR : Addr} {fd fdR : FuncData} (F : Fun K "_law_given" "_law_given" s_given f fd) (m_C : mg "Ratio" = some (.ref C)) (M : Mk K C fR)
    (G_R : FnOk P w K mg base (L2.CX P w) 3 fR fdR ["self", "top", "bottom"] (spRatioInit K C CN)) (b_R : Binds K fdR ["self", "top", "bottom"] []) : FnOk P w K mg base CX0 5 f fd ["_law_pair_here"] (spGiven C) := by
  refine F.ok sc_given (fun vs H Q E h => ?_) (fun cdv A outer s H vs Q E hr h => ?_)
  · obtain ⟨q, a, rfl, _⟩ := h
    rfl
  · obtain ⟨q, a, rfl, hq, pu, cop, su, k⟩ := h
    refine ⟨_, (pss_cons (ps_if (pt_cmpR op_eq (pe_ix ix_tup (pv 0) pe_int (fun _ _ => rfl)) pe_int (nomark _)) (pss_one (ps_ret (pe_ix ix_tup (pv 0) pe_int (fun _ _ => rfl)))) pss_nil)
      (pss_one (ps_ret (pe_make M G_R (hr.mono (by decide)) rfl m_C b_R .nil passL (pa_cons (pe_ix ix_tup (pv 0) pe_int (fun _ _ => rfl)) (pa_cons (pe_ix ix_tup (pv 0) pe_int (fun _ _ => rfl)) pa_nil)))))), ?_⟩
    refine ⟨_, rfl, _, _, _, _, rfl, rfl, SqT.of hq, rfl, rfl, _, rfl, ?_⟩
    by_cases c : a.2 = 1
    · refine itD (by simp [c]) ⟨_, rfl, _, _, _, _, rfl, rfl, SqT.of hq, rfl, k _ _ (Same.refl H) (.inr ⟨rfl, c⟩)⟩
    · refine itDn (by simp [c]) ⟨_, rfl, _, _, _, _, rfl, rfl, SqT.of hq, rfl, _, rfl, _, _, _, _, rfl, rfl, SqT.of hq, rfl, fun y dy ny ndy ne => mk_go (by omega) su ny ndy ne fun T U H1 L R s1 => ⟨rfl, ?_⟩⟩
      obtain ⟨rfl, rfl⟩ := low_self pu cop L
      exact k _ _ s1 (.inl ⟨y, rfl, R⟩)
theorem sc_passed : FnScope ["_law_prime_here", "_law_pair_here", "_law_k", "_law_bottom"] ["_law_prime_here", "_law_pair_here", "_law_k"] (defScope s_passed) := ⟨rfl, rfl, rfl, by decide +kernel, rfl, by decide +kernel, by decide +kernel⟩
theorem passed_giv {K : PySem.W.Frag} {C : Addr} {H : Hp} {p b t u : Int} {a : Int × Int} {y : V} (hg : goodP p = true) (p0 : p ≠ 0) (ok : NumW p a) (hb : (p = 2 ∧ b = 3) ∨ (p ≠ 2 ∧ b = 2)) (L : Low (a.1 * b + p) b t u) (hy : NumAt C H y t u) : Giv K C H p y (some a) := by
  obtain ⟨p2, p3, hp⟩ := goodP_pos hg p0
  obtain ⟨e1, a0, a1⟩ := ok.2.2 p0
  have b1 : 2 ≤ b ∧ b ≤ 3 := by omega
  have sb : b.natAbs < 2 ^ 2 := by
    have : (2 : Nat) ^ 2 = 4 := by decide
    omega
  have cop : ∀ z : Int, p ∣ b * z → p ∣ z := by
    intro z hz
    have g : Int.gcd p b = 1 := by
      rcases hb with ⟨rfl, rfl⟩ | ⟨n2, rfl⟩
      · decide
      · exact gcd_prime p2 p3 hp (by decide) (by omega)
    have dn : p.natAbs ∣ b.natAbs * z.natAbs := by
      rw [← Int.natAbs_mul]
      exact Int.natAbs_dvd_natAbs.mpr hz
    exact Int.natAbs_dvd_natAbs.mp (Nat.Coprime.dvd_of_dvd_mul_left (show Nat.Coprime p.natAbs b.natAbs from g) dn)
  have v := L.val
  have pu := L.pos
  have ub : u ≤ b := by have := L.lu; omega
  have tb : t.natAbs < 2 ^ 40 := by
    refine Nat.lt_of_le_of_lt L.lt ?_
    have h1 : (a.1 * b).natAbs < 2 ^ 30 := by
      have : (a.1 * b).natAbs < 2 ^ (20 + 2) := wide_lt (ok.bd hg p0).1 sb
      exact Nat.lt_of_lt_of_le this (by decide)
    have : (2 : Nat) ^ 30 = 1073741824 := by decide
    have : (2 : Nat) ^ 40 = 1099511627776 := by decide
    omega
  refine ⟨t, u, hy, pu, Nat.lt_of_lt_of_le tb (Nat.pow_le_pow_right (by decide) (by decide)), lt20f (by omega) (by omega), fun h => absurd h p0, fun _ => ⟨?_, e1, a0, a1, ?_⟩⟩
  · intro z
    have du : p ∣ u := Int.dvd_of_emod_eq_zero z
    have : p ≤ u := Int.le_of_dvd (by omega) du
    rcases hb with ⟨rfl, rfl⟩ | ⟨n2, rfl⟩
    · have u23 : u = 2 ∨ u = 3 := by omega
      rcases u23 with rfl | rfl
      · have e : t * 3 = (a.1 * 3 + 2) * 2 := v
        have := L.cop
        have t2 : (2 : Int) ∣ t := by omega
        obtain ⟨k, hk⟩ := t2
        rw [hk] at this
        have d := Int.dvd_coe_gcd (show (2 : Int) ∣ 2 * k from ⟨k, rfl⟩) (Int.dvd_refl 2)
        rw [this] at d
        exact absurd d (by decide)
      · omega
    · omega
  · have d : p ∣ a.1 * u - t := by
      refine cop _ ⟨-u, ?_⟩
      rw [Int.mul_sub, Int.mul_comm b t, v, Int.add_mul]
      have : b * (a.1 * u) = a.1 * b * u := by rw [← Int.mul_assoc, Int.mul_comm b a.1]
      rw [this, Int.mul_neg]
      omega
    obtain ⟨k, hk⟩ := d
    refine ⟨k, ?_⟩
    rw [Int.mul_comm k p, ← hk]
    omega
theorem ok_passed {f C CN fR fgiven : Addr} {fd fdR fdgiven : FuncData} (F : Fun K "_law_passed" "_law_passed" s_passed f fd) (D : DTx mg) (m_C : mg "Ratio" = some (.ref C)) (M : Mk K C fR)
    (G_R : FnOk P w K mg base (L2.CX P w) 3 fR fdR ["self", "top", "bottom"] (spRatioInit K C CN)) (b_R : Binds K fdR ["self", "top", "bottom"] [])
    (G_given : FnOk P w K mg base CX0 5 fgiven fdgiven ["_law_pair_here"] (spGiven C)) (m_given : mg "_law_given" = some (.ref fgiven)) (k_given : PySem.W.keepIn K (.ref fgiven) = true) (b_given : Binds K fdgiven ["_law_pair_here"] []) : FnOk P w K mg base CX0 6 f fd ["_law_prime_here", "_law_pair_here", "_law_k"] (spPassed K C) := by
  refine F.ok sc_passed (fun vs H Q E h => ?_) (fun cdv A outer s H vs Q E hr h => ?_)
  · obtain ⟨p, q, k, a, rfl, _⟩ := h
    rfl
  · obtain ⟨p, q, kk, a, rfl, hg, hq, ok, k0, k1, k⟩ := h
    refine ⟨_, (pss_cons (ps_if (pt_cmpR op_eq (pv 0) pe_int (nomark _)) (pss_one (ps_ret (pe_call G_given (hr.mono (by decide)) rfl m_given k_given b_given .nil pass0 (pa_cons (pv 1) pa_nil)))) pss_nil)
      (pss_cons (ps_if (pt_cmpR op_eq (pe_op op_mod (pv 2) pe_int) pe_int (nomark _))
          (pss_cons (ps_set (i := 3) sc_passed.nd rfl (Or.inl rfl) (pe_op op_add pe_int (pe_callTy call_int1 (by rfl) D.b_int (by decide +kernel) (pa_cons (pe_cmpR op_eq (pv 0) pe_int (nomark _)) pa_nil))))
          (pss_one (ps_ret (pe_make M G_R (hr.mono (by decide)) rfl m_C b_R .nil passL (pa_cons (pe_op op_add (pe_op op_mulW (pe_ix ix_tup (pv 1) pe_int (fun _ _ => rfl)) (pv 3)) (pv 0)) (pa_cons (pv 3) pa_nil)))))) pss_nil)
      (pss_one (ps_ret (pe_op op_add (pe_ix ix_tup (pv 1) pe_int (fun _ _ => rfl)) (pe_op op_mulW (pv 0) (pe_op op_sub (pe_op op_mod (pv 2) pe_int) pe_int))))))), ?_⟩
    refine ⟨_, rfl, rfl, _, rfl, ?_⟩
    by_cases p0 : p = 0
    · refine itD (by simp [p0]) ⟨_, rfl, q, a, rfl, hq, ok.1, (ok.2.1 p0).1, fit_up (ok.fit hg (by decide)).2, fun y H1 s1 ny => ?_⟩
      exact k y H1 s1 ⟨a.1, a.2, ny, ok.1, (ok.fit hg (by decide)).1, (ok.fit hg (by decide)).2, fun _ => ⟨rfl, (ok.2.1 p0).1⟩, fun h => absurd p0 h⟩
    · have pl := prime_lt hg p0
      obtain ⟨e1, a0, a1⟩ := ok.2.2 p0
      refine itDn (by simp [p0]) ⟨_, rfl, _, _, rfl, rfl, (by show (0 : Int) < 4; decide), rfl, _, rfl, ?_⟩
      have m0 := Int.emod_nonneg kk (show (4 : Int) ≠ 0 by decide)
      have m1 := Int.emod_lt_of_pos kk (show (0 : Int) < 4 by decide)
      by_cases c : kk % 4 = 3
      · refine itD (by simp [c]) ?_
        have fin : ∀ b : Int, ((p = 2 ∧ b = 3) ∨ (p ≠ 2 ∧ b = 2)) → _ := fun b hb => show ∀ (y dy : Addr), H y = none → H dy = none → dy ≠ y → spRatioInit K C CN [.ref y, .int (a.1 * b + p), .int b] (upd (upd H dy (.own y)) y (.ins C dy [])) (fun v H2 => v = .non ∧ Q (.ref y) H2) E0 from fun y dy ny ndy ne => mk_go (by omega) (fit_up (lt20f (by omega) (by omega))) ny ndy ne fun t u H1 L R s1 => ⟨rfl, k (.ref y) H1 s1 (passed_giv hg p0 ok hb L (.inl ⟨y, rfl, R⟩))⟩
        have mo : ∀ b : Int, 2 ≤ b → b ≤ 3 → CMulW a.1 b := fun b b0 b1 => mul_ok (lt204 (by omega) (by omega)) (lt204 (by omega) (by omega))
        refine ⟨_, rfl, rfl, .inr ⟨_, rfl, _, _, rfl, rfl, ?_⟩⟩
        by_cases c2 : p = 2
        · subst c2
          exact ⟨_, rfl, _, _, _, _, rfl, rfl, SqT.of hq, rfl, _, rfl, _, _, rfl, rfl, mo 3 (by decide) (by decide), _, rfl, _, _, rfl, rfl, _, rfl, fin 3 (.inl ⟨rfl, rfl⟩)⟩
        · have e : decide (V.int p = V.int 2) = false := decide_eq_false fun e => c2 (V.int.inj e)
          rw [e]
          exact ⟨_, rfl, _, _, _, _, rfl, rfl, SqT.of hq, rfl, _, rfl, _, _, rfl, rfl, mo 2 (by decide) (by decide), _, rfl, _, _, rfl, rfl, _, rfl, fin 2 (.inr ⟨c2, rfl⟩)⟩
      · refine itDn (by simp [c]) ?_
        refine ⟨_, rfl, _, _, _, _, rfl, rfl, SqT.of hq, rfl, _, rfl, _, rfl, _, _, rfl, rfl, (by show (0 : Int) < 4; decide), _, _, rfl, rfl, _, _, rfl, rfl, mul_ok (lt204 (by omega) (by omega)) (lt204 (by omega) (by omega)), _, _, rfl, rfl, ?_⟩
        have sz : (a.1 + p * (kk % 4 - 1)).natAbs < 2 ^ 60 := by
          have : kk % 4 - 1 = -1 ∨ kk % 4 - 1 = 0 ∨ kk % 4 - 1 = 1 := by omega
          have e60 : (2 : Nat) ^ 60 = 1152921504606846976 := by decide
          rcases this with e | e | e <;> rw [e] <;> omega
        have g := giv_int (K := K) (C := C) (H := H) hg (fit60 sz)
        have en : nrm p (a.1 + p * (kk % 4 - 1)) = a.1 := by
          unfold nrm
          rw [if_neg p0, Int.add_mul_emod_self_left, Int.emod_eq_of_lt a0 a1]
        rw [en] at g
        have ea : a = (a.1, 1) := by rw [← e1]
        rw [← ea] at g
        exact k _ _ (Same.refl H) g
end
end Sq

namespace Sq
open PySem L2 PyProof.Rows
abbrev s_number : Stmt := top 58
abbrev s_small : Stmt := top 61
def spNumber : Sp := fun vs H Q _ => ∃ (st : Addr) (p : Int) (ad : Addr), vs = [.ref st, .int p] ∧ StA H st ad ∧ goodP p = true ∧ ∀ q a H', StA H' st ad → But st H H' → PairAt H' q a → NumOk p a → Q (.ref q) H'
def spSmall : Sp := fun vs H Q _ => ∃ (st : Addr) (p : Int) (n : Nat) (ad : Addr), vs = [.ref st, .int p, .int (n : Int)] ∧ StA H st ad ∧ goodP p = true ∧ n ≤ 200 ∧ ∀ l prs H', StA H' st ad → But st H H' → H l = none → RowAt H' l prs → prs.length = n → (∀ a ∈ prs, NumOk p a) → Q (.ref l) H'
theorem but_pair {st ad : Addr} {H H' : Hp} {q : Addr} {a : Int × Int} (S : StA H st ad) (b : But st H H') (h : PairAt H q a) : PairAt H' q a := by
  refine b _ _ h fun e => ?_
  obtain ⟨_, _, _, _, _, h1, _⟩ := S
  rw [e] at h
  rw [PairAt, h1] at h
  cases h
theorem but_row {st ad : Addr} {H H' : Hp} {vs : List V} {prs : List (Int × Int)} (S : StA H st ad) (b : But st H H') (h : RowV H vs prs) : RowV H' vs prs := ⟨h.len, fun i v a e1 e2 => by
  obtain ⟨q, e, hq⟩ := h.at_ i v a e1 e2
  exact ⟨q, e, but_pair S b hq⟩⟩
theorem num_ok0 {p : Int} (hg : goodP p = true) : NumOk p (0, 1) := ⟨by decide, fun _ => ⟨by decide, by decide, by decide⟩, fun p0 => ⟨rfl, by decide, by have := prime_lt hg p0; show (0 : Int) < p; omega⟩⟩
theorem b5 {x : Int} (h : x.natAbs < 32) : x.natAbs < 2 ^ 5 := h
theorem StA.same {H H' : Hp} {p ad : Addr} (S : StA H p ad) (s : Same H H') : StA H' p ad := by
  obtain ⟨ns, i, l, m, c, h1, h2, r⟩ := S
  exact ⟨ns, i, l, m, c, s _ _ h1, s _ _ h2, r⟩
theorem StA.up {H : Hp} {p ad q : Addr} {o : HO} (S : StA H p ad) (hq : H q = none) : StA (L2.upd H q o) p ad := S.same (same_new (Same.refl H) hq)
theorem StA.ne {H : Hp} {p ad q : Addr} (S : StA H p ad) (hq : H q = none) : q ≠ p ∧ q ≠ ad := by
  obtain ⟨ns, i, l, m, c, h1, h2, _⟩ := S
  exact ⟨(ne_of_none h1 hq).symm, (ne_of_none h2 hq).symm⟩
theorem StA.updL {H : Hp} {p ad q : Addr} {o : HO} (S : StA H p ad) (h : q ≠ p ∧ q ≠ ad) : StA (L2.upd H q o) p ad := by
  obtain ⟨ns, i, l, m, c, h1, h2, r⟩ := S
  exact ⟨ns, i, l, m, c, (upd_ne h.1.symm).trans h1, (upd_ne h.2.symm).trans h2, r⟩
theorem but_new {p q : Addr} {H H1 : Hp} {o : HO} (a : But p H H1) (n : H q = none) : But p H (L2.upd H1 q o) := fun c u h nc => (upd_ne (ne_of_none h n)).trans (a c u h nc)
section
variable {P : Program} {w : World} {K : PySem.W.Frag} {mg : Str → Option Value} {base : Heap}
theorem sc_number : FnScope ["_law_state_here", "_law_prime_here", "_law_kind"] ["_law_state_here", "_law_prime_here"] (defScope s_number) := ⟨rfl, rfl, rfl, by decide +kernel, rfl, by decide +kernel, by decide +kernel⟩
theorem ok_number {f fdraw fpair : Addr} {fd fddraw fdpair : FuncData} (F : Fun K "_law_number" "_law_number" s_number f fd)
    (G_draw : FnOk P w K mg base CX0 1 fdraw fddraw ["_law_state_here", "_law_many"] spDrawA) (m_draw : mg "_law_draw" = some (.ref fdraw)) (k_draw : PySem.W.keepIn K (.ref fdraw) = true) (b_draw : Binds K fddraw ["_law_state_here", "_law_many"] [])
    (G_pair : FnOk P w K mg base CX0 2 fpair fdpair ["_law_prime_here", "_law_top", "_law_bottom"] spPair) (m_pair : mg "_law_pair" = some (.ref fpair)) (k_pair : PySem.W.keepIn K (.ref fpair) = true) (b_pair : Binds K fdpair ["_law_prime_here", "_law_top", "_law_bottom"] []) : FnOk P w K mg base CX0 3 f fd ["_law_state_here", "_law_prime_here"] spNumber := by
  refine F.ok sc_number (fun vs H Q E h => ?_) (fun cdv A outer s H vs Q E hr h => ?_)
  · obtain ⟨st, p, ad, rfl, _⟩ := h
    rfl
  · obtain ⟨st, p, ad, rfl, S, hg, k⟩ := h
    refine ⟨_, (pss_cons (ps_if (pt_cmpR op_gt (pv 1) pe_int (nomark _)) (pss_one (ps_ret (pe_tup (pa_cons (pe_call G_draw (hr.mono (by decide)) rfl m_draw k_draw b_draw .nil pass0 (pa_cons (pv 0) (pa_cons (pv 1) pa_nil))) (pa_cons pe_int pa_nil))))) pss_nil)
      (pss_cons (ps_set (i := 2) sc_number.nd rfl (Or.inl rfl) (pe_call G_draw (hr.mono (by decide)) rfl m_draw k_draw b_draw .nil pass0 (pa_cons (pv 0) (pa_cons pe_int pa_nil))))
      (pss_cons (ps_if (pt_cmpR op_eq (pv 2) pe_int (nomark _)) (pss_one (ps_ret (pe_tup (pa_cons pe_int (pa_cons pe_int pa_nil))))) pss_nil)
      (pss_cons (ps_if (pt_cmpR op_eq (pv 2) pe_int (nomark _)) (pss_one (ps_ret (pe_call G_pair (hr.mono (by decide)) rfl m_pair k_pair b_pair .nil pass0 (pa_cons pe_int (pa_cons (pe_op op_sub (pe_call G_draw (hr.mono (by decide)) rfl m_draw k_draw b_draw .nil pass0 (pa_cons (pv 0) (pa_cons pe_int pa_nil))) pe_int) (pa_cons (pe_op op_add pe_int (pe_call G_draw (hr.mono (by decide)) rfl m_draw k_draw b_draw .nil pass0 (pa_cons (pv 0) (pa_cons pe_int pa_nil)))) pa_nil)))))) pss_nil)
      (pss_one (ps_ret (pe_tup (pa_cons (pe_op op_sub (pe_call G_draw (hr.mono (by decide)) rfl m_draw k_draw b_draw .nil pass0 (pa_cons (pv 0) (pa_cons pe_int pa_nil))) pe_int) (pa_cons pe_int pa_nil))))))))), ?_⟩
    refine ⟨_, rfl, _, _, rfl, rfl, _, rfl, ?_⟩
    by_cases p0 : p = 0
    · subst p0
      refine itDn (by decide) ?_
      refine ⟨_, rfl, st, _, _, rfl, by decide, by decide, S, fun v H1 v0 v1 S1 B1 => ?_⟩
      refine ⟨_, rfl, rfl, _, rfl, ite2 (fun _ => ?_) (fun _ => ?_)⟩
      · exact ⟨(by show 2 ≤ sizeLine; decide), fun q hq => k q (0, 1) _ (S1.up hq) (B1.new hq) upd_same (num_ok0 hg)⟩
      · refine ⟨_, rfl, rfl, _, rfl, ite2 (fun _ => ?_) (fun _ => ?_)⟩
        · refine ⟨_, rfl, st, _, _, rfl, by decide, by decide, S1, fun t H2 t0 t1 S2 B2 => ⟨_, _, rfl, rfl, _, rfl, st, _, _, rfl, by decide, by decide, S2, fun u H3 u0 u1 S3 B3 => ⟨_, _, rfl, rfl, ?_⟩⟩⟩
          refine ⟨0, _, _, rfl, hg, fun h => absurd rfl h, by omega, fit_up (lt20f (by omega) (by omega)), fun q H4 s4 hq => ?_⟩
          have L := low_lowp (t - 9) (u := 1 + u) (by omega)
          refine k q _ H4 (S3.same s4) (((B1.trans B2).trans B3).trans (Same.but s4)) hq ?_
          unfold npair
          rw [if_pos rfl]
          refine ⟨L.pos, fun _ => ⟨L.cop, b5 ?_, b5 ?_⟩, fun h => absurd rfl h⟩
          · have := L.lt
            omega
          · have := L.lu
            omega
        · refine ⟨_, rfl, st, _, _, rfl, by decide, by decide, S1, fun t H2 t0 t1 S2 B2 => ⟨_, _, rfl, rfl, (by show 2 ≤ sizeLine; decide), fun q hq => ?_⟩⟩
          refine k q (t - 3, 1) _ (S2.up hq) ((B1.trans B2).new hq) upd_same ⟨(by show (1 : Int) ≤ 1; decide), fun _ => ⟨Int.gcd_one_right _, b5 ?_, (by show (1 : Int).natAbs < 2 ^ 5; decide)⟩, fun h => absurd rfl h⟩
          show (t - 3).natAbs < 32
          omega
    · have pl := prime_lt hg p0
      refine itD (by simp; omega) ?_
      refine ⟨_, rfl, _, rfl, st, _, _, rfl, by omega, by omega, S, fun v H1 v0 v1 S1 B1 => ⟨(by show 2 ≤ sizeLine; decide), fun q hq => ?_⟩⟩
      exact k q (v, 1) _ (S1.up hq) (B1.new hq) upd_same ⟨(by show (1 : Int) ≤ 1; decide), fun h => absurd h p0, fun _ => ⟨rfl, v0, v1⟩⟩
theorem sc_small : FnScope ["_law_state_here", "_law_prime_here", "_law_size", "_law_k"] ["_law_state_here", "_law_prime_here", "_law_size"] (defScope s_small) := ⟨rfl, rfl, rfl, by decide +kernel, rfl, by decide +kernel, by decide +kernel⟩
theorem ok_small {f fnumber : Addr} {fd fdnumber : FuncData} (F : Fun K "_law_small" "_law_small" s_small f fd) (D : DTx mg)
    (G_number : FnOk P w K mg base CX0 3 fnumber fdnumber ["_law_state_here", "_law_prime_here"] spNumber) (m_number : mg "_law_number" = some (.ref fnumber)) (k_number : PySem.W.keepIn K (.ref fnumber) = true) (b_number : Binds K fdnumber ["_law_state_here", "_law_prime_here"] []) : FnOk P w K mg base CX0 4 f fd ["_law_state_here", "_law_prime_here", "_law_size"] spSmall := by
  refine F.ok sc_small (fun vs H Q E h => ?_) (fun cdv A outer s H vs Q E hr h => ?_)
  · obtain ⟨st, p, n, ad, rfl, _⟩ := h
    rfl
  · obtain ⟨st, p, n, ad, rfl, S, hg, hn, k⟩ := h
    refine ⟨_, (pss_one (ps_ret (pe_lc (own := [("_law_k", 3)]) (g := gName 3) (tt := tYes) rfl sc_small.nd (pi_range1 (by rfl) D.b_range (pa_cons (pv 2) pa_nil)) (blkOk_by (N := ["_law_state_here", "_law_prime_here", "_law_size", "_law_k"]) (sc := defScope s_small) (by decide +kernel)) (fun _ _ _ _ _ => pg_name (i := 3) sc_small.nd rfl (Or.inl rfl)) (fun _ _ _ _ _ => pts_nil)
        (fun _ _ _ _ _ => pe_call G_number (hr.mono (by decide)) rfl m_number k_number b_number .nil pass0 (pa_cons (pv 0) (pa_cons (pv 1) pa_nil)))))), ?_⟩
    refine ⟨_, rfl, (n : Int), rfl, by omega, by omega, fun L hL => ?_⟩
    refine lc_range (lo := 0) (n := n) (fun i H' => ∃ (vs : List V) (prs : List (Int × Int)), StA H' st ad ∧ But st H H' ∧ H' L = some (.lst vs) ∧ RowV H' vs prs ∧ prs.length = i ∧ ∀ a ∈ prs, NumOk p a) ?_ ?_ ?_
    · exact ⟨[], [], S.up hL, (But.refl st H).new hL, upd_same, RowV.nil, rfl, fun a h => by cases h⟩
    · rintro i H1 hi ⟨vs, prs, S1, B1, h1, r1, l1, ok1⟩
      refine ⟨rfl, _, rfl, _, rfl, st, p, ad, rfl, S1, hg, fun q a H2 S2 B2 hq ok => ?_⟩
      have nL := S.ne hL
      have h2 := B2 _ _ h1 nL.1
      have e : (sizeLine : Nat) = 16777216 := sizeLine_eq
      refine ⟨vs, h2, by have := r1.len; omega, vs ++ [.ref q], prs ++ [a], ?_, ?_, upd_same, ((but_row S1 B2 r1).snoc hq).upd h2, by simp [l1], ?_⟩
      · exact S2.updL nL
      · exact but_new (B1.trans B2) hL
      · intro b hb
        rcases List.mem_append.mp hb with hb | hb
        · exact ok1 b hb
        · rw [List.mem_singleton.mp hb]
          exact ok
    · rintro H1 ⟨vs, prs, S1, B1, h1, r1, l1, ok1⟩
      exact k L prs H1 S1 B1 hL ⟨vs, h1, r1⟩ l1 ok1
end
end Sq

namespace Sq
open PySem L2 PyProof.Rows
theorem mkF_go {K : PySem.W.Frag} {CF CNF z dz : Addr} {H : Hp} {p : Int} {Q : VK} {E : XK} (hg : goodP p = true) (nz : H z = none) (ndz : H dz = none) (_ne : dz ≠ z) (k : ∀ H', FldAt CF H' z p → Same H H' → Q .non H') :
    spFieldInit K CF CNF [.ref z, .int p] (upd (upd H dz (.own z)) z (.ins CF dz [])) Q E :=
  ⟨z, dz, .int p, rfl, upd_same, .int _, fun h => (by have := h p rfl; rw [hg] at this; cases this), fun p' e _ H' hx b => (by cases e; exact k H' hx (same_made nz ndz b))⟩
structure IPy (K : PySem.W.Frag) (C : Addr) : Prop where
  ha : PySem.W.findIn K (.ref C) "__class__" = some (some (.builtin "object.__class__"))
  hn : PySem.W.specialIn K (.builtin "object.__class__") "__get__" = some (some (.builtin "getset_descriptor.__get__"))
  htk : PySem.W.takesIn K (.builtin "object.__class__") = some true
  hm : PySem.W.mroIn K C (.type "object") = some true
theorem room65 {k : Nat} {A : Around} (r : Room k A) : A.units + 65 < cLine := by
  have := r.un
  omega
theorem PairAt.updl {H : Hp} {x q : Addr} {a : Int × Int} {xs : List V} {o : HO} (hq : H q = some (.lst xs)) (h : PairAt H x a) : PairAt (L2.upd H q o) x a := by
  refine (upd_ne fun z => ?_).trans h
  rw [PairAt, z, hq] at h
  cases h
theorem RowAt.updl {H : Hp} {l q : Addr} {prs : List (Int × Int)} {xs : List V} {o : HO} (ne : l ≠ q) (hq : H q = some (.lst xs)) (h : RowAt H l prs) : RowAt (L2.upd H q o) l prs := by
  obtain ⟨vs, e, r⟩ := h
  exact ⟨vs, (upd_ne ne).trans e, r.upd hq⟩
theorem RowV.set {H : Hp} {vs : List V} {prs : List (Int × Int)} {q : Addr} {a : Int × Int} (h : RowV H vs prs) (hq : PairAt H q a) (j : Nat) : RowV H (vs.set j (.ref q)) (prs.set j a) := by
  refine ⟨by rw [List.length_set, List.length_set, h.len], fun i x b e1 e2 => ?_⟩
  rw [List.getElem?_set] at e1 e2
  by_cases c : j = i
  · rw [if_pos c] at e1 e2
    split at e1
    · cases e1
      split at e2
      · cases e2
        exact ⟨q, rfl, hq⟩
      · cases e2
    · cases e1
  · rw [if_neg c] at e1 e2
    exact h.at_ i x b e1 e2
theorem pd_sh (a : Int × Int) : SeqAt.shaped (pairD a) = true := by
  simp [pairD, SeqAt.shaped, PyData.canLay0, PyData.canLayAll0, PyData.depth, PyData.depthAll]
theorem pd_dp {K : PySem.W.Frag} {H : Hp} {q : Addr} {a : Int × Int} (h : PairAt H q a) : Dp K H (.ref q) (pairD a) := .tup (SqT.of h) (.cons (.int _) (.cons (.int _) .nil))
theorem ne_pair {K : PySem.W.Frag} {H : Hp} {p q : Addr} {a : Int × Int} {Q : VK} (hp : PairAt H p a) (hq : PairAt H q a) (k : Q (.bl false) H) : rNeD K (.ref p) (.ref q) H Q :=
  ⟨_, _, pd_dp hp, pd_dp hq, pd_sh a, pd_sh a, by
    rw [SeqAt.eqv_refl _ (SeqAt.canLay_of_shaped (pd_sh a))]
    exact k⟩
theorem ne_row {K : PySem.W.Frag} {H : Hp} {p q : Addr} {prs : List (Int × Int)} {Q : VK} (hp : RowAt H p prs) (hq : RowAt H q prs) (k : Q (.bl false) H) : rNeD K (.ref p) (.ref q) H Q :=
  ⟨_, _, hp.dp, hq.dp, row_shaped prs, row_shaped prs, by
    rw [SeqAt.eqv_refl _ (SeqAt.canLay_of_shaped (row_shaped prs))]
    exact k⟩
section
variable {P : Program} {w : World} {K : PySem.W.Frag} {mg : Str → Option Value} {base : Heap}
theorem sc_lread : FnScope ["_law_prime_here", "_law_told"] ["_law_prime_here", "_law_told"] (defScope s_lread) := ⟨rfl, rfl, rfl, by decide +kernel, rfl, by decide +kernel, by decide +kernel⟩
theorem ok_lread {f C flisint fgcd : Addr} {fd fdlisint fdgcd : FuncData} (F : Fun K "_law_read" "_law_read" s_lread f fd) (T : CTx K C) (Y : ITy K C) (I : ITx mg) (m_C : mg "Ratio" = some (.ref C))
    (G_lisint : FnOk P w K mg base CX0 1 flisint fdlisint ["_law_told"] (spIsInt K)) (m_lisint : mg "_law_is_integer" = some (.ref flisint)) (k_lisint : PySem.W.keepIn K (.ref flisint) = true) (b_lisint : Binds K fdlisint ["_law_told"] [])
    (G_gcd : FnOk P w K mg base CX0 1 fgcd fdgcd ["_law_one", "_law_other"] spGcd) (m_gcd : mg "_law_gcd" = some (.ref fgcd)) (k_gcd : PySem.W.keepIn K (.ref fgcd) = true) (b_gcd : Binds K fdgcd ["_law_one", "_law_other"] []) : FnOk P w K mg base CX0 2 f fd ["_law_prime_here", "_law_told"] (spLRead C) := by
  refine F.ok sc_lread (fun vs H Q E h => ?_) (fun cdv A outer s H vs Q E hr h => ?_)
  · obtain ⟨p, y, a, rfl, _⟩ := h
    rfl
  · obtain ⟨p, y, a, rfl, hg, fn, k⟩ := h
    refine ⟨_, (pss_cons (ps_if (pt_cmpR op_gt (pv 0) pe_int (nomark _))
        (pss_cons (ps_if (PW.pt (pw_and (pt_val (pe_call G_lisint (hr.mono (by decide)) rfl m_lisint k_lisint b_lisint .nil pass0 (pa_cons (pv 1) pa_nil))) (pw_and1 (pt_chain op_le op_lt pe_int (pv 1) (pv 0))))) (pss_one (ps_ret (pe_tup (pa_cons (pv 1) (pa_cons pe_int pa_nil))))) pss_nil)
        (pss_one (ps_ret pe_non))) pss_nil)
      (pss_cons (ps_if (PW.pt (pw_or (pt_not (pt_val (pe_callB call_isi (by rfl) I.b_isinstance (by decide +kernel) (pa_cons (pv 1) (pa_cons (pe_glob (v := .ref C) rfl m_C rfl) pa_nil))))) (pw_or (pt_not (pt_val (pe_call G_lisint (hr.mono (by decide)) rfl m_lisint k_lisint b_lisint .nil pass0 (pa_cons (pe_fld (pv 1) rfl) pa_nil)))) (pw_or1 (pt_not (pt_val (pe_call G_lisint (hr.mono (by decide)) rfl m_lisint k_lisint b_lisint .nil pass0 (pa_cons (pe_fld (pv 1) rfl) pa_nil)))))))) (pss_one (ps_ret pe_non)) pss_nil)
      (pss_cons (ps_if (PW.pt (pw_or (pt_cmpR op_lt (pe_fld (pv 1) rfl) pe_int (nomark _)) (pw_or1 (pt_cmpR op_ne (pe_call G_gcd (hr.mono (by decide)) rfl m_gcd k_gcd b_gcd .nil pass0 (pa_cons (pe_fld (pv 1) rfl) (pa_cons (pe_fld (pv 1) rfl) pa_nil))) pe_int (nomark _))))) (pss_one (ps_ret pe_non)) pss_nil)
      (pss_one (ps_ret (pe_tup (pa_cons (pe_fld (pv 1) rfl) (pa_cons (pe_fld (pv 1) rfl) pa_nil)))))))), ?_⟩
    refine ⟨_, rfl, _, _, rfl, rfl, _, rfl, ?_⟩
    rcases fn with ⟨p0, ⟨r, rfl, R⟩, pu, cop⟩ | ⟨p0, rfl, a2, a0, a1⟩
    · refine itDn (by simp [p0]) ?_
      obtain ⟨dx, hx⟩ := id R
      refine ⟨_, rfl, _, _, _, _, true, rfl, .own C, R.ty T Y, kit_self, true, rfl, iteF ?_⟩
      refine ⟨_, rfl, r, C, dx, _, _, rfl, hx, T.cl, T.nT, rf_top _ _, _, rfl, IsTy.int _, _, rfl, iteF ?_⟩
      refine ⟨_, rfl, r, C, dx, _, _, rfl, hx, T.cl, T.nB, rf_bottom _ _, _, rfl, IsTy.int _, _, rfl, iteF ?_⟩
      refine ⟨_, rfl, r, C, dx, _, _, rfl, hx, T.cl, T.nB, rf_bottom _ _, _, _, rfl, rfl, _, rfl, itDn (by simp; omega) ?_⟩
      refine ⟨_, rfl, r, C, dx, _, _, rfl, hx, T.cl, T.nT, rf_top _ _, _, rfl, r, C, dx, _, _, rfl, hx, T.cl, T.nB, rf_bottom _ _, _, _, rfl, rfl, _, rfl, ?_⟩
      rw [cop]
      refine iteF ⟨_, rfl, r, C, dx, _, _, rfl, hx, T.cl, T.nT, rf_top _ _, _, rfl, r, C, dx, _, _, rfl, hx, T.cl, T.nB, rf_bottom _ _, (by show 2 ≤ sizeLine; decide), fun q hq => ?_⟩
      exact k q _ (same_new (Same.refl _) hq) upd_same
    · have := prime_lt hg p0
      refine itD (by simp; omega) ⟨_, rfl, _, rfl, .int _, _, rfl, iteT ?_⟩
      refine ⟨_, rfl, _, _, rfl, rfl, _, rfl, itD (by simpa using a0) ⟨_, rfl, _, _, rfl, rfl, _, rfl, itD (by simpa using a1) ?_⟩⟩
      refine ⟨_, rfl, (by show 2 ≤ sizeLine; decide), fun q hq => ?_⟩
      refine k q _ (same_new (Same.refl _) hq) ?_
      show upd H q _ q = some (.tup [.int a.1, .int a.2])
      rw [a2]
      exact upd_same
theorem sc_rowt : FnScope ["_law_prime_here", "_law_told", "_law_found", "_law_number_here"] ["_law_prime_here", "_law_told"] (defScope s_rowt) := ⟨rfl, rfl, rfl, by decide +kernel, rfl, by decide +kernel, by decide +kernel⟩
theorem ok_rowt {f C flread : Addr} {fd fdlread : FuncData} (F : Fun K "_law_row" "_law_row" s_rowt f fd) (I : ITx mg) (B : QTx mg)
    (G_lread : FnOk P w K mg base CX0 2 flread fdlread ["_law_prime_here", "_law_told"] (spLRead C)) (m_lread : mg "_law_read" = some (.ref flread)) (k_lread : PySem.W.keepIn K (.ref flread) = true) (b_lread : Binds K fdlread ["_law_prime_here", "_law_told"] []) : FnOk P w K mg base CX0 3 f fd ["_law_prime_here", "_law_told"] (spRowT C) := by
  refine F.ok sc_rowt (fun vs H Q E h => ?_) (fun cdv A outer s H vs Q E hr h => ?_)
  · obtain ⟨p, ct, ys, prs, rfl, _⟩ := h
    rfl
  · obtain ⟨p, ct, ys, prs, rfl, hg, hct, fn, hl, k⟩ := h
    refine ⟨_, (pss_cons (ps_if (pt_not (pt_val (pe_callB call_isi (by rfl) I.b_isinstance (by decide +kernel) (pa_cons (pv 1) (pa_cons (pe_bltn (v := .ty "tuple") (by rfl) B.b_tuple (by decide +kernel) rfl) pa_nil))))) (pss_one (ps_ret pe_non)) pss_nil)
      (pss_cons (ps_setLc (i := 2) (own := [("_law_number_here", 3)]) (g := gName 3) (tt := tYes) rfl sc_rowt.nd rfl rfl (sw_true rfl rfl rfl (by decide +kernel))
        (pi_tup (pv 1)) (blkOk_by (N := ["_law_prime_here", "_law_told", "_law_found", "_law_number_here"]) (sc := defScope s_rowt) (by decide +kernel)) (fun _ _ _ _ _ => pg_name (i := 3) sc_rowt.nd rfl (Or.inl rfl)) (fun _ _ _ _ _ => pts_nil)
        (fun _ _ _ _ _ => pe_call G_lread (hr.mono (by decide)) rfl m_lread k_lread b_lread .nil pass0 (pa_cons (pv 0) (pa_cons (pv 3) pa_nil))))
      (pss_cons (ps_if (pt_cmpR (op_inD (room65 hr)) pe_non (pv 2) (by rfl)) (pss_one (ps_ret pe_non)) pss_nil)
      (pss_one (ps_ret (pv 2)))))), ?_⟩
    refine ⟨_, rfl, _, _, _, _, true, rfl, .ty _, .base (.tup hct), kit_ty (by decide +kernel), true, rfl, iteF ?_⟩
    refine ⟨_, rfl, ct, rfl, ⟨ys, SqT.of hct⟩, fun L hL => ?_⟩
    refine lc_tup (xs := ys) (fun i H' => ∃ vs, Same H H' ∧ H' L = some (.lst vs) ∧ RowV H' vs (prs.take i)) ?_ ?_ ?_ ?_
    · exact ⟨[], same_new (Same.refl H) hL, upd_same, RowV.nil⟩
    · rintro i H' _ ⟨vs, s1, _⟩
      exact SqT.of (s1 _ _ hct)
    · rintro i y H1 hi ⟨vs, s1, h1, r1⟩
      have li := get_len hi
      have lp : i < prs.length := by rw [← fn.len]; exact li
      have ep : prs[i]? = some prs[i] := List.getElem?_eq_getElem lp
      have f1 := (fn.at_ i y _ hi ep).same s1
      refine ⟨rfl, _, rfl, _, rfl, p, y, _, rfl, hg, f1, fun q H2 s2 hq => ?_⟩
      have h2 := s2 _ _ h1
      have e : (sizeLine : Nat) = 16777216 := sizeLine_eq
      have lv := r1.len
      rw [List.length_take] at lv
      refine ⟨vs, h2, by omega, vs ++ [.ref q], same_at (s1.trans s2) hL, upd_same, ?_⟩
      rw [take_more ep]
      exact ((r1.same s2).snoc hq).upd h2
    · rintro H1 ⟨vs, s1, h1, r1⟩
      rw [fn.len, List.take_length] at r1
      have ra : RowAt H1 L prs := ⟨vs, h1, r1⟩
      refine ⟨_, rfl, _, _, .non, ra.dp, by decide, row_shaped prs, _, rfl, ?_⟩
      rw [none_free]
      exact iteF ⟨_, rfl, k L H1 s1 ra⟩
end
end Sq

-- needs HandS.TupAny
-- needs HandS.Style
namespace Sq
open PySem L2 PyProof.Rows
abbrev s_rd : Stmt := inClass (top 27) 0
abbrev s_fromto : Stmt := top 12
abbrev s_snum : Stmt := top 39
abbrev s_srow : Stmt := top 40
abbrev s_sinit : Stmt := inClass (top 41) 0
abbrev s_slen : Stmt := inClass (top 41) 1
abbrev s_seq : Stmt := inClass (top 41) 2
abbrev s_sfirst : Stmt := inClass (top 41) 3
abbrev s_sthen : Stmt := inClass (top 41) 4
def rdf (t : Addr) : List (Str × V) := putF "row" (.ref t) []
theorem rdf_row (t : Addr) : (rdf t).lookup ("row" : Str) = some (.ref t) := by
  unfold rdf
  rw [lookup_putF, if_pos rfl]
def RdyAt (CRd : Addr) (H : Hp) (y : Addr) (xs : List V) : Prop := ∃ dy t, H y = some (.ins CRd dy (rdf t)) ∧ H t = some (.tup xs)
theorem RdyAt.same {CRd : Addr} {H H' : Hp} {y : Addr} {xs : List V} (s : Same H H') (h : RdyAt CRd H y xs) : RdyAt CRd H' y xs := by
  obtain ⟨dy, t, a, b⟩ := h
  exact ⟨dy, t, s _ _ a, s _ _ b⟩
structure IRd (K : PySem.W.Frag) (C : Addr) : Prop where
  cl : Cls K C
  nR : NoAttr K C "row"
  ha : PySem.W.findIn K (.ref C) "__class__" = some (some (.builtin "object.__class__"))
  hn : PySem.W.specialIn K (.builtin "object.__class__") "__get__" = some (some (.builtin "getset_descriptor.__get__"))
  htk : PySem.W.takesIn K (.builtin "object.__class__") = some true
  hm : PySem.W.mroIn K C (.type "object") = some true
def spReady (CRd : Addr) (K : PySem.W.Frag) : Sp := fun vs H Q _ => ∃ (y dy l : Addr) (xs : List V), vs = [.ref y, .ref l] ∧ H y = some (.ins CRd dy []) ∧ (H l = some (.lst xs) ∨ H l = some (.tup xs)) ∧ ∀ H', But y H H' → RdyAt CRd H' y xs → Q .non H'
def inR (v : V) (lo hi : Int) : Bool := match v with
  | .int k => decide (lo ≤ k) && decide (k ≤ hi)
  | _ => false
def spFromTo (K : PySem.W.Frag) : Sp := fun vs H Q _ => ∃ (v : V) (lo hi : Int), vs = [v, .int lo, .int hi] ∧ IsTy K H v ∧ Q (.bl (inR v lo hi)) H
def spSNum (K : PySem.W.Frag) (C CF CNP : Addr) : Sp := fun vs H Q E => ∃ (x l : Addr) (p : Int) (xs : List V) (os : List (Option (Int × Int))), vs = [.ref x, .ref l] ∧ FldAt CF H x p ∧ goodP p = true ∧ LT H l xs ∧ xs.length ≤ 200 ∧ Givs K C H p xs os ∧
  ((pre os).length < os.length → ∀ H', Same H H' → ∀ d, H' d = none → E (.ref CNP) (some d) (upd H' d (fldAt "place" (.int ((pre os).length : Nat))))) ∧
  ((pre os).length = os.length → ∀ q ys H', Same H H' → H' q = some (.lst ys) → FNs C H' p ys (pre os) → Q (.ref q) H')
/-- what is passed for a row of numbers, and what becomes of it: a place that is refused, or the row -/
inductive SRow (K : PySem.W.Frag) (C CRd : Addr) (H : Hp) (p : Int) (least most : Nat) : V → Bool → Int ⊕ List (Int × Int) → Prop where
  | rdy {r : Addr} {ys : List V} {prs : List (Int × Int)} (h : RdyAt CRd H r ys) (f : FNs C H p ys prs) (ne : prs ≠ []) : SRow K C CRd H p least most (.ref r) true (.inr prs)
  | no {v : V} (nc : NotC K H v CRd) (h : IsQ K H v false) : SRow K C CRd H p least most v false (.inl (-1))
  | size {l : Addr} {xs : List V} (nc : NotC K H (.ref l) CRd) (h : LT H l xs) (n : xs.length < least ∨ most < xs.length) : SRow K C CRd H p least most (.ref l) false (.inl (-1))
  | bad {l : Addr} {xs : List V} {os : List (Option (Int × Int))} (nc : NotC K H (.ref l) CRd) (h : LT H l xs) (n0 : least ≤ xs.length) (n : xs.length ≤ most) (g : Givs K C H p xs os) (lt : (pre os).length < os.length) : SRow K C CRd H p least most (.ref l) false (.inl ((pre os).length : Nat))
  | row {l : Addr} {xs : List V} {prs : List (Int × Int)} (nc : NotC K H (.ref l) CRd) (h : LT H l xs) (n0 : least ≤ xs.length) (n : xs.length ≤ most) (g : Givs K C H p xs (prs.map some)) : SRow K C CRd H p least most (.ref l) false (.inr prs)
theorem SRow.same {K : PySem.W.Frag} {C CRd : Addr} {H H' : Hp} {p : Int} {least most : Nat} {v : V} {b : Bool} {g : Int ⊕ List (Int × Int)} (s : Same H H') (h : SRow K C CRd H p least most v b g) : SRow K C CRd H' p least most v b g := by
  cases h with
  | rdy h f ne => exact .rdy (h.same s) (f.same s) ne
  | no nc h => exact .no (nc.same s) (h.same s)
  | size nc h n => exact .size (nc.same s) (h.same s) n
  | bad nc h n0 n g lt => exact .bad (nc.same s) (h.same s) n0 n (g.same s) lt
  | row nc h n0 n g => exact .row (nc.same s) (h.same s) n0 n (g.same s)
def headG : Int ⊕ List (Int × Int) → Int ⊕ List (Int × Int)
  | .inl n => .inl n
  | .inr [] => .inl 0
  | .inr (a :: r) => if a.1 = 0 then .inl 0 else .inr (a :: r)
def spSRow (K : PySem.W.Frag) (C CF CRd CNP : Addr) : Sp := fun vs H Q E => ∃ (x : Addr) (p : Int) (v : V) (b : Bool) (g : Int ⊕ List (Int × Int)), vs = [.ref x, v] ∧ FldAt CF H x p ∧ goodP p = true ∧ SRow K C CRd H p 1 32 v b g ∧
  (∀ n, g = .inl n → ∀ H', Same H H' → ∀ d, H' d = none → E (.ref CNP) (some d) (upd H' d (fldAt "place" (.int n)))) ∧
  (∀ prs, g = .inr prs → ∀ q ys H', Same H H' → H' q = some (if b = true then .tup ys else .lst ys) → FNs C H' p ys prs → Q (.ref q) H')
def slf (fx ct : Addr) (n : Int) : List (Str × V) := putF "known" (.int n) (putF "coefficients" (.ref ct) (putF "field" (.ref fx) []))
theorem slf_field (fx ct : Addr) (n : Int) : (slf fx ct n).lookup ("field" : Str) = some (.ref fx) := by
  unfold slf
  rw [lookup_putF, if_neg (by decide +kernel), lookup_putF, if_neg (by decide +kernel), lookup_putF, if_pos rfl]
theorem slf_coef (fx ct : Addr) (n : Int) : (slf fx ct n).lookup ("coefficients" : Str) = some (.ref ct) := by
  unfold slf
  rw [lookup_putF, if_neg (by decide +kernel), lookup_putF, if_pos rfl]
theorem slf_known (fx ct : Addr) (n : Int) : (slf fx ct n).lookup ("known" : Str) = some (.int n) := by
  unfold slf
  rw [lookup_putF, if_pos rfl]
theorem slf_no (fx ct : Addr) (n : Int) {m : Str} (h1 : ¬ m = "known") (h2 : ¬ m = "coefficients") (h3 : ¬ m = "field") : (slf fx ct n).lookup m = none := by
  unfold slf
  rw [lookup_putF, if_neg h1, lookup_putF, if_neg h2, lookup_putF, if_neg h3]
  rfl
structure SerAt (C CS CF : Addr) (H : Hp) (x : Addr) (p : Int) (prs : List (Int × Int)) (dx fx ct : Addr) (ys : List V) : Prop where
  ob : H x = some (.ins CS dx (slf fx ct (prs.length : Int)))
  fl : FldAt CF H fx p
  co : H ct = some (.tup ys)
  nu : FNs C H p ys prs
  hd : ∃ a r, prs = a :: r ∧ a.1 ≠ 0
def Ser (C CS CF : Addr) (H : Hp) (x : Addr) (p : Int) (prs : List (Int × Int)) : Prop := ∃ dx fx ct ys, SerAt C CS CF H x p prs dx fx ct ys
theorem SerAt.same {C CS CF : Addr} {H H' : Hp} {x : Addr} {p : Int} {prs : List (Int × Int)} {dx fx ct : Addr} {ys : List V} (s : Same H H') (h : SerAt C CS CF H x p prs dx fx ct ys) : SerAt C CS CF H' x p prs dx fx ct ys := ⟨s _ _ h.ob, h.fl.same s, s _ _ h.co, h.nu.same s, h.hd⟩
theorem Ser.same {C CS CF : Addr} {H H' : Hp} {x : Addr} {p : Int} {prs : List (Int × Int)} (s : Same H H') (h : Ser C CS CF H x p prs) : Ser C CS CF H' x p prs := by
  obtain ⟨dx, fx, ct, ys, h⟩ := h
  exact ⟨dx, fx, ct, ys, h.same s⟩
structure STx (K : PySem.W.Frag) (CS : Addr) : Prop where
  cl : Cls K CS
  nF : NoAttr K CS "field"
  nC : NoAttr K CS "coefficients"
  nK : NoAttr K CS "known"
  ha : PySem.W.findIn K (.ref CS) "__class__" = some (some (.builtin "object.__class__"))
  hn : PySem.W.specialIn K (.builtin "object.__class__") "__get__" = some (some (.builtin "getset_descriptor.__get__"))
  htk : PySem.W.takesIn K (.builtin "object.__class__") = some true
  hm : PySem.W.mroIn K CS (.type "object") = some true
theorem SerAt.ty {K : PySem.W.Frag} {C CS CF : Addr} {H : Hp} {x : Addr} {p : Int} {prs : List (Int × Int)} {dx fx ct : Addr} {ys : List V} (T : STx K CS) (h : SerAt C CS CF H x p prs dx fx ct ys) : TyX K H (.ref x) (.ref CS) := .base (.ins h.ob T.cl T.ha T.hn T.htk T.hm)
def spSInit (K : PySem.W.Frag) (C CS CF CRd CNP : Addr) : Sp := fun vs H Q E => ∃ (y dy x : Addr) (p : Int) (v : V) (b : Bool) (g : Int ⊕ List (Int × Int)), vs = [.ref y, .ref x, v] ∧ H y = some (.ins CS dy []) ∧ FldAt CF H x p ∧ goodP p = true ∧ SRow K C CRd H p 1 32 v b g ∧
  (∀ n, headG g = .inl n → ∀ H', Same H H' → ∀ d, H' d = none → E (.ref CNP) (some d) (upd H' d (fldAt "place" (.int n)))) ∧
  (∀ prs, headG g = .inr prs → ∀ H', But y H H' → Ser C CS CF H' y p prs → Q .non H')
def spSLen (C CS CF : Addr) : Sp := fun vs H Q _ => ∃ (x : Addr) (p : Int) (prs : List (Int × Int)), vs = [.ref x] ∧ Ser C CS CF H x p prs ∧ Q (.int (prs.length : Int)) H
def Alike (a b : List (Int × Int)) : Prop := ∀ (i : Nat) u v, a[i]? = some u → b[i]? = some v → u = v
def spSEq (K : PySem.W.Frag) (C CS CF : Addr) : Sp := fun vs H Q _ => ∃ (x : Addr) (v : V) (p : Int) (prs : List (Int × Int)), vs = [.ref x, v] ∧ Ser C CS CF H x p prs ∧
  ((∃ y prs', v = .ref y ∧ Ser C CS CF H y p prs' ∧ Alike prs prs' ∧ ∀ H', Same H H' → Q (.bl (decide (prs.length = prs'.length))) H') ∨ (NotC K H v CS ∧ Q (.bl false) H))
def spSFirst (K : PySem.W.Frag) (C CS CF CNC : Addr) : Sp := fun vs H Q E => ∃ (x : Addr) (v : V) (p : Int) (prs : List (Int × Int)), vs = [.ref x, v] ∧ Ser C CS CF H x p prs ∧ goodP p = true ∧ IsTy K H v ∧ (inR v 1 (prs.length : Int) = false → E (.ref CNC) none H) ∧
  (∀ k : Nat, v = .int (k : Int) → 1 ≤ k → k ≤ prs.length → ∀ y H', Same H H' → Ser C CS CF H' y p (prs.take k) → Q (.ref y) H')
/-- what is passed to go on with -/
inductive TRow (K : PySem.W.Frag) (C : Addr) (H : Hp) (p : Int) (most : Nat) : V → Int ⊕ List (Int × Int) → Prop where
  | no {v : V} (h : IsQ K H v false) : TRow K C H p most v (.inl (-1))
  | size {l : Addr} {xs : List V} (h : LT H l xs) (n : most < xs.length) : TRow K C H p most (.ref l) (.inl (-1))
  | bad {l : Addr} {xs : List V} {os : List (Option (Int × Int))} (h : LT H l xs) (n : xs.length ≤ most) (g : Givs K C H p xs os) (lt : (pre os).length < os.length) : TRow K C H p most (.ref l) (.inl ((pre os).length : Nat))
  | row {l : Addr} {xs : List V} {prs : List (Int × Int)} (h : LT H l xs) (n : xs.length ≤ most) (g : Givs K C H p xs (prs.map some)) : TRow K C H p most (.ref l) (.inr prs)
theorem TRow.same {K : PySem.W.Frag} {C : Addr} {H H' : Hp} {p : Int} {most : Nat} {v : V} {g : Int ⊕ List (Int × Int)} (s : Same H H') (h : TRow K C H p most v g) : TRow K C H' p most v g := by
  cases h with
  | no h => exact .no (h.same s)
  | size h n => exact .size (h.same s) n
  | bad h n g lt => exact .bad (h.same s) n (g.same s) lt
  | row h n g => exact .row (h.same s) n (g.same s)
def spSThen (K : PySem.W.Frag) (C CS CF CNP : Addr) : Sp := fun vs H Q E => ∃ (x : Addr) (v : V) (p : Int) (prs : List (Int × Int)) (g : Int ⊕ List (Int × Int)), vs = [.ref x, v] ∧ Ser C CS CF H x p prs ∧ goodP p = true ∧ prs.length ≤ 79 ∧ TRow K C H p (79 - prs.length) v g ∧
  (∀ n, g = .inl n → ∀ H', Same H H' → ∀ d, H' d = none → E (.ref CNP) (some d) (upd H' d (fldAt "place" (.int n)))) ∧
  (∀ more, g = .inr more → ∀ y H', Same H H' → Ser C CS CF H' y p (prs ++ more) → Q (.ref y) H')
theorem head_ok {prs : List (Int × Int)} (h : ∃ a r, prs = a :: r ∧ a.1 ≠ 0) : headG (.inr prs) = .inr prs := by
  obtain ⟨a, r, rfl, h⟩ := h
  exact if_neg h
theorem FNs.app {C : Addr} {H : Hp} {p : Int} {ys zs : List V} {a b : List (Int × Int)} (h : FNs C H p ys a) (g : FNs C H p zs b) : FNs C H p (ys ++ zs) (a ++ b) := by
  refine ⟨by rw [List.length_append, List.length_append, h.len, g.len], fun i y pr e1 e2 => ?_⟩
  by_cases c : i < ys.length
  · rw [List.getElem?_append_left c] at e1
    rw [List.getElem?_append_left (by rw [← h.len]; exact c)] at e2
    exact h.at_ i y pr e1 e2
  · rw [List.getElem?_append_right (by omega)] at e1
    rw [List.getElem?_append_right (by rw [← h.len]; omega), ← h.len] at e2
    exact g.at_ _ y pr e1 e2
theorem SRow.ne {K : PySem.W.Frag} {C CRd : Addr} {H : Hp} {p : Int} {most : Nat} {v : V} {b : Bool} {g : Int ⊕ List (Int × Int)} {prs : List (Int × Int)} (h : SRow K C CRd H p 1 most v b g) (e : g = .inr prs) : prs ≠ [] := by
  cases h with
  | rdy h f ne => cases e; exact ne
  | no nc h => cases e
  | size nc h n => cases e
  | bad nc h n0 n g lt => cases e
  | row nc h n0 n g =>
    cases e
    have := g.len
    intro z
    rw [z] at this
    simp at this
    rw [this] at n0
    simp at n0
theorem FNs.ne {C : Addr} {H : Hp} {p : Int} {ys : List V} {a : List (Int × Int)} (h : FNs C H p ys a) (ne : a ≠ []) : 0 < ys.length := by
  rw [h.len]
  exact List.length_pos_iff.mpr ne
/-- two numbers of a field that are the same -/
def DN (C : Addr) : L2.Eqv := fun x y H => DIns C (fun a b H => ∃ t u, RatAt C H a t u ∧ RatAt C H b t u) x y H ∨ DFlat x y H
theorem monN {C : Addr} : Mon (DN C) := Mon.or (mon_ins fun a b H H' e h => by
  obtain ⟨t, u, h1, h2⟩ := h
  exact ⟨t, u, h1.same e, h2.same e⟩) mon_flat
theorem eqN {X : Cx} {C f : Addr} {fd : FuncData} (O : OwnOp X.K C f "__eq__") (G : FnOk X.prog X.w X.K X.mg X.base CX0 2 f fd ["self", "other"] (spR_eq X.K C)) (b : Binds X.K fd ["self", "other"] []) : EqG X 2 (DN C) := by
  have G2 : FnOk X.prog X.w X.K X.mg X.base CX0 2 f fd ["self", "other"] (spEq fun a b H => ∃ t u, RatAt C H a t u ∧ RatAt C H b t u) := G.imp fun vs H Q E ⟨a, b, e, ⟨t, u, h1, h2⟩, k⟩ => ⟨a, .ref b, t, u, e, h1, .inl ⟨b, t, u, rfl, h2, by rw [decide_eq_true ⟨rfl, rfl⟩]; exact k H Ext.rfl'⟩⟩
  exact (eqG_ins (E := E0) G2 O.at_ O.fn b pass0).or (eqG_flat.mono (by decide))
theorem FN.dn {C : Addr} {H : Hp} {p : Int} {u v : V} {a : Int × Int} (h : FN C H p u a.1 a.2) (g : FN C H p v a.1 a.2) : DN C u v H := by
  rcases h with ⟨p0, ⟨r, rfl, R⟩, _⟩ | ⟨p0, rfl, _⟩
  · rcases g with ⟨_, ⟨r', rfl, R'⟩, _⟩ | ⟨q, _⟩
    · obtain ⟨d, hr⟩ := id R
      obtain ⟨d', hr'⟩ := id R'
      exact .inl ⟨r, r', d, d', _, _, rfl, rfl, hr, hr', _, _, R, R'⟩
    · exact absurd p0 q
  · rcases g with ⟨q, _⟩ | ⟨_, rfl, _⟩
    · exact absurd q p0
    · exact .inr ⟨rfl, rfl, by show (a.1 == a.1) = true; simp⟩
section
variable {P : Program} {w : World} {K : PySem.W.Frag} {mg : Str → Option Value} {base : Heap}
theorem sc_rd : FnScope ["self", "row"] ["self", "row"] (defScope s_rd) := ⟨rfl, rfl, rfl, by decide +kernel, rfl, by decide +kernel, by decide +kernel⟩
theorem ok_rd {f CRd : Addr} {fd : FuncData} (F : Fun K "__init__" "Ready.__init__" s_rd f fd) (B : QTx mg) (TR : IRd K CRd) : FnOk P w K mg base CX0 1 f fd ["self", "row"] (spReady CRd K) := by
  refine F.ok sc_rd (fun vs H Q E h => ?_) (fun cdv A outer s H vs Q E hr h => ?_)
  · obtain ⟨y, dy, l, xs, rfl, _⟩ := h
    rfl
  · obtain ⟨y, dy, l, xs, rfl, hy0, hl, k⟩ := h
    refine ⟨_, (pss_one (ps_fld (pv 0) (pe_callTy call_tuple_of (by rfl) B.b_tuple (by decide +kernel) (pa_cons (pv 1) pa_nil)) rfl)), ?_⟩
    rcases hl with hl | hl
    · refine ⟨_, rfl, l, xs, rfl, .inl ⟨SqL.of hl, fun t ht => ?_⟩⟩
      have n : t ≠ y := (ne_of_none hy0 ht).symm
      refine ⟨_, rfl, y, CRd, dy, _, rfl, (upd_ne n.symm).trans hy0, TR.cl, TR.nR, (by show 0 < 1000; decide), ?_⟩
      exact k _ ((But.refl y H).new ht).upd ⟨dy, t, upd_same, (upd_ne n).trans upd_same⟩
    · have n : l ≠ y := fun z => by
        rw [z, hy0] at hl
        cases hl
      refine ⟨_, rfl, l, xs, rfl, .inr ⟨SqT.of hl, ?_⟩⟩
      refine ⟨_, rfl, y, CRd, dy, _, rfl, hy0, TR.cl, TR.nR, (by show 0 < 1000; decide), ?_⟩
      exact k _ (But.refl y H).upd ⟨dy, l, upd_same, (upd_ne n).trans hl⟩
theorem sc_fromto : FnScope ["value", "low", "high"] ["value", "low", "high"] (defScope s_fromto) := ⟨rfl, rfl, rfl, by decide +kernel, rfl, by decide +kernel, by decide +kernel⟩
theorem ok_fromto {f fII : Addr} {fd fdII : FuncData} (F : Fun K "is_from_to" "is_from_to" s_fromto f fd)
    (G_II : FnOk P w K mg base CX0 1 fII fdII ["value"] (spIsInt K)) (m_II : mg "is_an_integer" = some (.ref fII)) (k_II : PySem.W.keepIn K (.ref fII) = true) (b_II : Binds K fdII ["value"] []) : FnOk P w K mg base CX0 2 f fd ["value", "low", "high"] (spFromTo K) := by
  refine F.ok sc_fromto (fun vs H Q E h => ?_) (fun cdv A outer s H vs Q E hr h => ?_)
  · obtain ⟨v, lo, hi, rfl, _⟩ := h
    rfl
  · obtain ⟨v, lo, hi, rfl, tv, k⟩ := h
    refine ⟨_, (pss_one (ps_ret (pe_and (pe_call G_II (hr.mono (by decide)) rfl m_II k_II b_II .nil pass0 (pa_cons (pv 0) pa_nil)) (pe_one (pe_chain op_le op_le (pv 1) (pv 0) (pv 2)))))), ?_⟩
    refine ⟨_, rfl, v, rfl, tv, _, rfl, ?_⟩
    cases ev : isI v with
    | false =>
      refine iteF ?_
      have e : inR v lo hi = false := by
        cases v <;> first | rfl | cases ev
      rw [e] at k
      exact k
    | true =>
      obtain ⟨i, rfl⟩ := isI_int ev
      refine iteT ⟨_, rfl, _, rfl, _, _, rfl, rfl, _, rfl, ?_⟩
      by_cases c1 : lo ≤ i
      · refine itD (decide_eq_true c1) ⟨_, rfl, _, _, rfl, rfl, ?_⟩
        have e : inR (.int i) lo hi = decide (i ≤ hi) := by
          show (decide (lo ≤ i) && decide (i ≤ hi)) = _
          rw [decide_eq_true c1, Bool.true_and]
        rw [e] at k
        exact k
      · refine itDn (by simpa using c1) ?_
        have e : inR (.int i) lo hi = false := by
          show (decide (lo ≤ i) && decide (i ≤ hi)) = _
          rw [decide_eq_false c1, Bool.false_and]
        rw [e] at k
        exact k
theorem sc_snum : FnScope ["field", "values", "numbers"] ["field", "values"] (defScope s_snum) := ⟨rfl, rfl, rfl, by decide +kernel, rfl, by decide +kernel, by decide +kernel⟩
theorem ok_snum {f C CF CNP fNP ftaken : Addr} {fd fdNP fdtaken : FuncData} (F : Fun K "_numbers" "_numbers" s_snum f fd) (B : QTx mg) (m_NP : mg "NoSeries" = some (.ref CNP)) (NP : NTxF K "place" CNP fNP) (G_NP : FnOk P w K mg base CX0 1 fNP fdNP ["self", "place"] (spFInit "place" CNP)) (b_NP : Binds K fdNP ["self", "place"] [])
    (G_taken : FnOk P w K mg base CX0 9 ftaken fdtaken ["field", "values"] (spTaken K C CF)) (m_taken : mg "taken" = some (.ref ftaken)) (k_taken : PySem.W.keepIn K (.ref ftaken) = true) (b_taken : Binds K fdtaken ["field", "values"] []) : FnOk P w K mg base (L2.CX P w) 10 f fd ["field", "values"] (spSNum K C CF CNP) := by
  refine F.okX sc_snum (fun vs H Q E h => ?_) (fun cdv A outer s H vs Q E hr h => ?_)
  · obtain ⟨x, l, p, xs, os, rfl, _⟩ := h
    rfl
  · obtain ⟨x, l, p, xs, os, rfl, hx, hg, hl, n200, gv, kE, kQ⟩ := h
    refine ⟨_, (pss_cons (ps_set (i := 2) sc_snum.nd rfl (Or.inl rfl) (pe_call G_taken (hr.mono (by decide)) rfl m_taken k_taken b_taken .nil pass0 (pa_cons (pv 0) (pa_cons (pv 1) pa_nil))))
      (pss_cons (ps_if (pt_cmpR op_lt (pe_callB call_len_seq (by rfl) B.b_len (by decide +kernel) (pa_cons (pv 2) pa_nil)) (pe_callB call_len_seq (by rfl) B.b_len (by decide +kernel) (pa_cons (pv 1) pa_nil)) (nomark _)) (pss_one (ps_raise rfl (takes_of rfl rfl rfl rfl) (pmk_oex NP.oex NP.iC NP.tI G_NP (hr.mono (by decide)) b_NP .nil pass0 rfl m_NP (pa_cons (pe_callB call_len_seq (by rfl) B.b_len (by decide +kernel) (pa_cons (pv 2) pa_nil)) pa_nil)))) pss_nil)
      (pss_one (ps_ret (pv 2))))), ?_⟩
    refine ⟨_, rfl, _, rfl, x, l, p, xs, os, rfl, hx, hg, hl, n200, gv, fun q ys H1 s1 hq fn => ?_⟩
    have hl1 := hl.same s1
    have e1 : ys.length = (pre os).length := fn.len
    have e2 := gv.len
    have e3 := pre_le os
    refine ⟨_, rfl, q, ys, rfl, .inl (SqL.of hq), _, rfl, l, xs, rfl, hl1.imp SqL.of SqT.of, _, _, rfl, rfl, _, rfl, ?_⟩
    by_cases c : (pre os).length = os.length
    · exact itDn (by simp; omega) ⟨_, rfl, kQ c q ys H1 s1 hq fn⟩
    · refine itD (decide_eq_true (by omega)) ?_
      refine ⟨_, rfl, q, ys, rfl, .inl (SqL.of hq), (by show 1 ≤ 1000; decide), mkO_readF ?_⟩
      rw [e1]
      exact kE (by omega) H1 s1
theorem sc_srow : FnScope ["field", "coefficients"] ["field", "coefficients"] (defScope s_srow) := ⟨rfl, rfl, rfl, by decide +kernel, rfl, by decide +kernel, by decide +kernel⟩
theorem ok_srow {f C CF CRd CNP fNP fseq fsnum : Addr} {fd fdNP fdseq fdsnum : FuncData} {tk : Tok} (F : Fun K "_row" "_row" s_srow f fd) (B : QTx mg) (TR : IRd K CRd) (m_Rd : mg "Ready" = some (.ref CRd)) (MP : mg "MOST_PASSED" = some (.int 32 tk)) (m_NP : mg "NoSeries" = some (.ref CNP)) (NP : NTxF K "place" CNP fNP) (G_NP : FnOk P w K mg base CX0 1 fNP fdNP ["self", "place"] (spFInit "place" CNP)) (b_NP : Binds K fdNP ["self", "place"] [])
    (G_seq : FnOk P w K mg base CX0 1 fseq fdseq ["value"] (spSeq K)) (m_seq : mg "is_a_sequence" = some (.ref fseq)) (k_seq : PySem.W.keepIn K (.ref fseq) = true) (b_seq : Binds K fdseq ["value"] [])
    (G_snum : FnOk P w K mg base (L2.CX P w) 10 fsnum fdsnum ["field", "values"] (spSNum K C CF CNP)) (m_snum : mg "_numbers" = some (.ref fsnum)) (k_snum : PySem.W.keepIn K (.ref fsnum) = true) (b_snum : Binds K fdsnum ["field", "values"] []) : FnOk P w K mg base (L2.CX P w) 11 f fd ["field", "coefficients"] (spSRow K C CF CRd CNP) := by
  refine F.okX sc_srow (fun vs H Q E h => ?_) (fun cdv A outer s H vs Q E hr h => ?_)
  · obtain ⟨x, p, v, b, g, rfl, _⟩ := h
    rfl
  · obtain ⟨x, p, v, b, g, rfl, hx, hg, hv, kE, kQ⟩ := h
    refine ⟨_, (pss_cons (ps_if (pt_val (pe_callB call_isi (by rfl) B.b_isinstance (by decide +kernel) (pa_cons (pv 1) (pa_cons (pe_glob (v := .ref CRd) rfl m_Rd rfl) pa_nil)))) (pss_one (ps_ret (pe_fld (pv 1) rfl))) pss_nil)
      (pss_cons (ps_if (PW.pt (pw_or (pt_not (pt_val (pe_call G_seq (hr.mono (by decide)) rfl m_seq k_seq b_seq .nil pass0 (pa_cons (pv 1) pa_nil)))) (pw_or1 (pt_not (pt_chain op_le op_le pe_int (pe_callB call_len_seq (by rfl) B.b_len (by decide +kernel) (pa_cons (pv 1) pa_nil)) (pe_glob (v := .int 32) rfl MP ⟨_, rfl⟩)))))) (pss_one (ps_raise rfl (takes_of rfl rfl rfl rfl) (pmk_oex NP.oex NP.iC NP.tI G_NP (hr.mono (by decide)) b_NP .nil pass0 rfl m_NP (pa_cons (pe_un un_neg pe_int) pa_nil)))) pss_nil)
      (pss_one (ps_ret (pe_call (E := E) G_snum (hr.mono (by decide)) rfl m_snum k_snum b_snum .nil (passes_call (takes_of rfl rfl rfl rfl) fun _ _ _ _ h => h) (pa_cons (pv 0) (pa_cons (pv 1) pa_nil))))))), ?_⟩
    cases hv with
    | @rdy r ys prs h f ne =>
      obtain ⟨dy, t, hr1, ht⟩ := id h
      refine ⟨_, rfl, _, _, _, _, true, rfl, .own CRd, .base (.ins hr1 TR.cl TR.ha TR.hn TR.htk TR.hm), kit_self, _, rfl, iteT ?_⟩
      exact ⟨_, rfl, r, CRd, dy, _, _, rfl, hr1, TR.cl, TR.nR, rdf_row t, kQ prs rfl t ys H (Same.refl H) ht f⟩
    | no nc h =>
      obtain ⟨t, ty, kt⟩ := nc
      refine ⟨_, rfl, _, _, _, _, false, rfl, .own CRd, ty, kt, _, rfl, iteF ?_⟩
      exact ⟨_, rfl, v, false, rfl, h, fun H1 s1 => ⟨_, rfl, iteT ⟨_, rfl, by decide, mkO_readF (kE _ rfl H1 s1)⟩⟩⟩
    | @size l xs nc h n =>
      obtain ⟨t, ty, kt⟩ := nc
      refine ⟨_, rfl, _, _, _, _, false, rfl, .own CRd, ty, kt, _, rfl, iteF ?_⟩
      refine ⟨_, rfl, _, true, rfl, h.isQ, fun H1 s1 => ⟨_, rfl, iteF ?_⟩⟩
      have h1 := h.same s1
      refine ⟨_, rfl, l, xs, rfl, h1.imp SqL.of SqT.of, _, _, rfl, rfl, _, rfl, ?_⟩
      by_cases c : 1 ≤ xs.length
      · refine itD (decide_eq_true (by omega)) ⟨_, _, rfl, rfl, _, rfl, ?_⟩
        rw [decide_eq_false (by omega)]
        exact iteT ⟨_, rfl, by decide, mkO_readF (kE _ rfl H1 s1)⟩
      · refine itDn (by simp; omega) ⟨_, rfl, iteT ?_⟩
        exact ⟨_, rfl, by decide, mkO_readF (kE _ rfl H1 s1)⟩
    | @bad l xs os nc h n0 n g lt =>
      obtain ⟨t, ty, kt⟩ := nc
      refine ⟨_, rfl, _, _, _, _, false, rfl, .own CRd, ty, kt, _, rfl, iteF ?_⟩
      refine ⟨_, rfl, _, true, rfl, h.isQ, fun H1 s1 => ⟨_, rfl, iteF ?_⟩⟩
      have h1 := h.same s1
      refine ⟨_, rfl, l, xs, rfl, h1.imp SqL.of SqT.of, _, _, rfl, rfl, _, rfl, ?_⟩
      refine itD (decide_eq_true (by omega)) ⟨_, _, rfl, rfl, _, rfl, ?_⟩
      rw [decide_eq_true (by omega)]
      refine iteF ⟨_, rfl, _, rfl, x, l, p, xs, os, rfl, hx.same s1, hg, h1, by omega, g.same s1, fun _ H2 s2 => kE _ rfl H2 (s1.trans s2), fun c => by omega⟩
    | @row l xs prs nc h n0 n g =>
      obtain ⟨t, ty, kt⟩ := id nc
      refine ⟨_, rfl, _, _, _, _, false, rfl, .own CRd, ty, kt, _, rfl, iteF ?_⟩
      refine ⟨_, rfl, _, true, rfl, h.isQ, fun H1 s1 => ⟨_, rfl, iteF ?_⟩⟩
      have h1 := h.same s1
      refine ⟨_, rfl, l, xs, rfl, h1.imp SqL.of SqT.of, _, _, rfl, rfl, _, rfl, ?_⟩
      refine itD (decide_eq_true (by omega)) ⟨_, _, rfl, rfl, _, rfl, ?_⟩
      rw [decide_eq_true (by omega)]
      refine iteF ⟨_, rfl, _, rfl, x, l, p, xs, prs.map some, rfl, hx.same s1, hg, h1, by omega, g.same s1, fun c => absurd c (by rw [pre_map]; omega), fun _ q ys H2 s2 hq fn => ?_⟩
      rw [pre_all rfl] at fn
      exact kQ prs rfl q ys H2 (s1.trans s2) hq fn
end
end Sq

namespace Sq
open PySem L2 PyProof.Rows
theorem mkR_go {K : PySem.W.Frag} {CRd r dr l : Addr} {H : Hp} {xs : List V} {Q : VK} {E : XK} (hl : H l = some (.lst xs) ∨ H l = some (.tup xs)) (nr : H r = none) (ndr : H dr = none) (ne : dr ≠ r) (k : ∀ H', Same H H' → RdyAt CRd H' r xs → Q .non H') :
    spReady CRd K [.ref r, .ref l] (upd (upd H dr (.own r)) r (.ins CRd dr [])) Q E := by
  have s0 : Same H (upd (upd H dr (.own r)) r (.ins CRd dr [])) := same_pair nr ndr ne
  exact ⟨r, dr, l, xs, rfl, upd_same, hl.imp (s0 _ _) (s0 _ _), fun H' b h => k H' (same_made nr ndr b) h⟩
theorem mkS_go {K : PySem.W.Frag} {C CS CF CRd CNP y dy x : Addr} {H : Hp} {p : Int} {v : V} {b : Bool} {g : Int ⊕ List (Int × Int)} {prs : List (Int × Int)} {Q : VK} {E : XK} (hx : FldAt CF H x p) (hg : goodP p = true) (sr : SRow K C CRd H p 1 32 v b g) (hh : headG g = .inr prs) (ny : H y = none) (ndy : H dy = none) (ne : dy ≠ y)
    (k : ∀ H', Same H H' → Ser C CS CF H' y p prs → Q .non H') : spSInit K C CS CF CRd CNP [.ref y, .ref x, v] (upd (upd H dy (.own y)) y (.ins CS dy [])) Q E := by
  have s0 : Same H (upd (upd H dy (.own y)) y (.ins CS dy [])) := same_pair ny ndy ne
  refine ⟨y, dy, x, p, v, b, g, rfl, upd_same, hx.same s0, hg, sr.same s0, fun n e => ?_, fun q e H1 b1 s => ?_⟩
  · rw [hh] at e
    cases e
  · rw [hh] at e
    cases e
    exact k H1 (same_made ny ndy b1) s
section
variable {P : Program} {w : World} {K : PySem.W.Frag} {mg : Str → Option Value} {base : Heap}
theorem sc_sinit : FnScope ["self", "field", "coefficients", "row"] ["self", "field", "coefficients"] (defScope s_sinit) := ⟨rfl, rfl, rfl, by decide +kernel, rfl, by decide +kernel, by decide +kernel⟩
theorem ok_sinit {f C CF CS CRd CNP fNP fsrow feq : Addr} {fd fdNP fdsrow fdeq : FuncData} (F : Fun K "__init__" "Series.__init__" s_sinit f fd) (B : QTx mg) (TS : STx K CS) (m_NP : mg "NoSeries" = some (.ref CNP)) (NP : NTxF K "place" CNP fNP) (G_NP : FnOk P w K mg base CX0 1 fNP fdNP ["self", "place"] (spFInit "place" CNP)) (b_NP : Binds K fdNP ["self", "place"] [])
    (O_eq : OwnOp K C feq "__eq__") (nf1 : PySem.W.notFirst K C (.type "int") = true) (G_eq : FnOk P w K mg base CX0 2 feq fdeq ["self", "other"] (spR_eq K C)) (b_eq : Binds K fdeq ["self", "other"] [])
    (G_srow : FnOk P w K mg base (L2.CX P w) 11 fsrow fdsrow ["field", "coefficients"] (spSRow K C CF CRd CNP)) (m_srow : mg "_row" = some (.ref fsrow)) (k_srow : PySem.W.keepIn K (.ref fsrow) = true) (b_srow : Binds K fdsrow ["field", "coefficients"] []) : FnOk P w K mg base (L2.CX P w) 12 f fd ["self", "field", "coefficients"] (spSInit K C CS CF CRd CNP) := by
  refine F.okX sc_sinit (fun vs H Q E h => ?_) (fun cdv A outer s H vs Q E hr h => ?_)
  · obtain ⟨y, dy, x, p, v, b, g, rfl, _⟩ := h
    rfl
  · obtain ⟨y, dy, x, p, v, b, g, rfl, hy0, hx, hg, hv, kE, kQ⟩ := h
    cases b with
    | true =>
      refine ⟨_, (pss_cons (ps_set (i := 3) sc_sinit.nd rfl (Or.inl rfl) (pe_call (E := E) G_srow (hr.mono (by decide)) rfl m_srow k_srow b_srow .nil (passes_call (takes_of rfl rfl rfl rfl) fun _ _ _ _ h => h) (pa_cons (pv 1) (pa_cons (pv 2) pa_nil))))
      (pss_cons (ps_if (pt_cmpR (op_or op_eq (op_ownEq O_eq G_eq (hr.mono (by decide)) b_eq pass0)) (pe_ix ix_tup (pv 3) pe_int (fun _ _ => rfl)) pe_int (nomark _)) (pss_one (ps_raise rfl (takes_of rfl rfl rfl rfl) (pmk_oex NP.oex NP.iC NP.tI G_NP (hr.mono (by decide)) b_NP .nil pass0 rfl m_NP (pa_cons pe_int pa_nil)))) pss_nil)
      (pss_cons (ps_fld (pv 0) (pv 1) rfl)
      (pss_cons (ps_fld (pv 0) (pe_callTy call_tuple_of (by rfl) B.b_tuple (by decide +kernel) (pa_cons (pv 3) pa_nil)) rfl)
      (pss_one (ps_fld (pv 0) (pe_callB call_len_seq (by rfl) B.b_len (by decide +kernel) (pa_cons (pv 3) pa_nil)) rfl)))))), ?_⟩
      refine ⟨_, rfl, _, rfl, x, p, v, true, g, rfl, hx, hg, hv, fun n e H1 s1 => kE n (by rw [e]; rfl) H1 s1, fun prs e q ys H1 s1 hq fn => ?_⟩
      subst e
      have ne := hv.ne rfl
      obtain ⟨a, r, rfl⟩ : ∃ a r, prs = a :: r := by
        cases prs with
        | nil => exact absurd rfl ne
        | cons a r => exact ⟨a, r, rfl⟩
      have l0 : 0 < ys.length := fn.ne ne
      have fa := fn.at_ 0 _ a (List.getElem?_eq_getElem l0) rfl
      refine ⟨_, rfl, _, _, _, _, rfl, rfl, SqT.of hq, at_of (j := 0) rfl (List.getElem?_eq_getElem l0), fn_eq0 nf1 fa ⟨_, rfl, ?_⟩⟩
      by_cases c : a.1 = 0
      · refine itD (by simp [c]) ⟨by decide, mkO_readF (kE 0 (if_pos c) H1 s1)⟩
      refine itDn (by simp [c]) ?_
      have hh : headG (.inr (a :: r)) = .inr (a :: r) := if_neg c
      have hy1 := s1 _ _ hy0
      refine ⟨_, rfl, _, rfl, y, CS, dy, _, rfl, hy1, TS.cl, TS.nF, (by show 0 < 1000; decide), ?_⟩
      have nq : q ≠ y := fun z => by
        rw [z, hy1] at hq
        cases hq
      have hq2 := (upd_ne (o := .ins CS dy (putF "field" (.ref x) [])) nq).trans hq
      have b2 : But y H1 (upd H1 y (.ins CS dy (putF "field" (.ref x) []))) := (But.refl y H1).upd
      refine ⟨_, rfl, q, ys, rfl, .inr ⟨SqT.of hq2, _, rfl, y, CS, dy, _, rfl, upd_same, TS.cl, TS.nC, (by show 1 < 1000; decide), ?_⟩⟩
      have hq3 := (upd_ne (o := .ins CS dy (putF "coefficients" (.ref q) (putF "field" (.ref x) []))) nq).trans hq2
      refine ⟨_, rfl, q, ys, rfl, .inr (SqT.of hq3), _, rfl, y, CS, dy, _, rfl, upd_same, TS.cl, TS.nK, (by show 2 < 1000; decide), ?_⟩
      have bF := (b2.upd (o := .ins CS dy (putF "coefficients" (.ref q) (putF "field" (.ref x) [])))).upd (o := .ins CS dy (putF "known" (.int (ys.length : Int)) (putF "coefficients" (.ref q) (putF "field" (.ref x) []))))
      have hq4 := (upd_ne (o := .ins CS dy (putF "known" (.int (ys.length : Int)) (putF "coefficients" (.ref q) (putF "field" (.ref x) [])))) nq).trans hq3
      refine kQ _ hh _ ((Same.but s1).trans bF) ⟨dy, x, q, ys, ?_, (hx.same s1).but hy1 bF, hq4, fn.but hy1 bF, a, r, rfl, c⟩
      rw [← fn.len]
      exact upd_same
    | false =>
      refine ⟨_, (pss_cons (ps_set (i := 3) sc_sinit.nd rfl (Or.inl rfl) (pe_call (E := E) G_srow (hr.mono (by decide)) rfl m_srow k_srow b_srow .nil (passes_call (takes_of rfl rfl rfl rfl) fun _ _ _ _ h => h) (pa_cons (pv 1) (pa_cons (pv 2) pa_nil))))
      (pss_cons (ps_if (pt_cmpR (op_or op_eq (op_ownEq O_eq G_eq (hr.mono (by decide)) b_eq pass0)) (pe_ix ix_list (pv 3) pe_int (fun _ _ => rfl)) pe_int (nomark _)) (pss_one (ps_raise rfl (takes_of rfl rfl rfl rfl) (pmk_oex NP.oex NP.iC NP.tI G_NP (hr.mono (by decide)) b_NP .nil pass0 rfl m_NP (pa_cons pe_int pa_nil)))) pss_nil)
      (pss_cons (ps_fld (pv 0) (pv 1) rfl)
      (pss_cons (ps_fld (pv 0) (pe_callTy call_tuple_of (by rfl) B.b_tuple (by decide +kernel) (pa_cons (pv 3) pa_nil)) rfl)
      (pss_one (ps_fld (pv 0) (pe_callB call_len_seq (by rfl) B.b_len (by decide +kernel) (pa_cons (pv 3) pa_nil)) rfl)))))), ?_⟩
      refine ⟨_, rfl, _, rfl, x, p, v, false, g, rfl, hx, hg, hv, fun n e H1 s1 => kE n (by rw [e]; rfl) H1 s1, fun prs e q ys H1 s1 hq fn => ?_⟩
      subst e
      have ne := hv.ne rfl
      obtain ⟨a, r, rfl⟩ : ∃ a r, prs = a :: r := by
        cases prs with
        | nil => exact absurd rfl ne
        | cons a r => exact ⟨a, r, rfl⟩
      have l0 : 0 < ys.length := fn.ne ne
      have fa := fn.at_ 0 _ a (List.getElem?_eq_getElem l0) rfl
      refine ⟨_, rfl, _, _, _, _, rfl, rfl, SqL.of hq, at_of (j := 0) rfl (List.getElem?_eq_getElem l0), fn_eq0 nf1 fa ⟨_, rfl, ?_⟩⟩
      by_cases c : a.1 = 0
      · refine itD (by simp [c]) ⟨by decide, mkO_readF (kE 0 (if_pos c) H1 s1)⟩
      refine itDn (by simp [c]) ?_
      have hh : headG (.inr (a :: r)) = .inr (a :: r) := if_neg c
      have hy1 := s1 _ _ hy0
      refine ⟨_, rfl, _, rfl, y, CS, dy, _, rfl, hy1, TS.cl, TS.nF, (by show 0 < 1000; decide), ?_⟩
      have nq : q ≠ y := fun z => by
        rw [z, hy1] at hq
        cases hq
      have hq2 := (upd_ne (o := .ins CS dy (putF "field" (.ref x) [])) nq).trans hq
      have b2 : But y H1 (upd H1 y (.ins CS dy (putF "field" (.ref x) []))) := (But.refl y H1).upd
      refine ⟨_, rfl, q, ys, rfl, .inl ⟨SqL.of hq2, fun t ht => ?_⟩⟩
      have nt : t ≠ y := fun z => by
        rw [z, upd_same] at ht
        cases ht
      have b3 := b2.new (o := .tup ys) ht
      have nqt : q ≠ t := ne_of_none hq2 ht
      refine ⟨_, rfl, y, CS, dy, _, rfl, (upd_ne nt.symm).trans upd_same, TS.cl, TS.nC, (by show 1 < 1000; decide), ?_⟩
      have hq3 := (upd_ne (o := .ins CS dy (putF "coefficients" (.ref t) (putF "field" (.ref x) []))) nq).trans ((upd_ne (o := .tup ys) nqt).trans hq2)
      refine ⟨_, rfl, q, ys, rfl, .inl (SqL.of hq3), _, rfl, y, CS, dy, _, rfl, upd_same, TS.cl, TS.nK, (by show 2 < 1000; decide), ?_⟩
      have bF := (b3.upd (o := .ins CS dy (putF "coefficients" (.ref t) (putF "field" (.ref x) [])))).upd (o := .ins CS dy (putF "known" (.int (ys.length : Int)) (putF "coefficients" (.ref t) (putF "field" (.ref x) []))))
      refine kQ _ hh _ ((Same.but s1).trans bF) ⟨dy, x, t, ys, ?_, (hx.same s1).but hy1 bF, (upd_ne nt).trans ((upd_ne nt).trans upd_same), fn.but hy1 bF, a, r, rfl, c⟩
      rw [← fn.len]
      exact upd_same
theorem sc_slen : FnScope ["self"] ["self"] (defScope s_slen) := ⟨rfl, rfl, rfl, by decide +kernel, rfl, by decide +kernel, by decide +kernel⟩
theorem ok_slen {f C CF CS : Addr} {fd : FuncData} (F : Fun K "__len__" "Series.__len__" s_slen f fd) (B : QTx mg) (TS : STx K CS) : FnOk P w K mg base CX0 1 f fd ["self"] (spSLen C CS CF) := by
  refine F.ok sc_slen (fun vs H Q E h => ?_) (fun cdv A outer s H vs Q E hr h => ?_)
  · obtain ⟨x, p, prs, rfl, _⟩ := h
    rfl
  · obtain ⟨x, p, prs, rfl, SR, k⟩ := h
    refine ⟨_, (pss_one (ps_ret (pe_callB call_len_seq (by rfl) B.b_len (by decide +kernel) (pa_cons (pe_fld (pv 0) rfl) pa_nil)))), ?_⟩
    obtain ⟨dx, fx, ct, ys, SO⟩ := id SR
    refine ⟨_, rfl, x, CS, dx, _, _, rfl, SO.ob, TS.cl, TS.nC, slf_coef _ _ _, ct, ys, rfl, .inr (SqT.of SO.co), ?_⟩
    rw [SO.nu.len]
    exact k
theorem sc_seq : FnScope ["self", "other"] ["self", "other"] (defScope s_seq) := ⟨rfl, rfl, rfl, by decide +kernel, rfl, by decide +kernel, by decide +kernel⟩
theorem ok_seqq {f C CF CS feq ffeq : Addr} {fd fdeq fdfeq : FuncData} (F : Fun K "__eq__" "Series.__eq__" s_seq f fd) (B : QTx mg) (TS : STx K CS) (TF : FTx K CF) (YF : IFy K CF) (m_S : mg "Series" = some (.ref CS)) (O_feq : OwnOp K CF ffeq "__eq__") (nfF : PySem.W.notFirst K CF (.ref CF) = true) (G_feq : FnOk P w K mg base CX0 1 ffeq fdfeq ["self", "other"] (spF_eq K CF)) (b_feq : Binds K fdfeq ["self", "other"] [])
    (O_eq : OwnOp K C feq "__eq__") (G_eq : FnOk P w K mg base CX0 2 feq fdeq ["self", "other"] (spR_eq K C)) (b_eq : Binds K fdeq ["self", "other"] []) : FnOk P w K mg base CX0 4 f fd ["self", "other"] (spSEq K C CS CF) := by
  refine F.ok sc_seq (fun vs H Q E h => ?_) (fun cdv A outer s H vs Q E hr h => ?_)
  · obtain ⟨x, v, p, prs, rfl, _⟩ := h
    rfl
  · obtain ⟨x, v, p, prs, rfl, SR, k⟩ := h
    refine ⟨_, (pss_one (ps_ret (pe_and (pe_callB call_isi (by rfl) B.b_isinstance (by decide +kernel) (pa_cons (pv 1) (pa_cons (pe_glob (v := .ref CS) rfl m_S rfl) pa_nil))) (pe_and (pe_cmpR (op_ownEq O_feq G_feq (hr.mono (by decide)) b_feq pass0) (pe_fld (pv 0) rfl) (pe_fld (pv 1) rfl) (nomark _)) (pe_one (pe_cmpR (op_eqN monN (eqN O_eq G_eq b_eq) (hr.mono (by decide))) (pe_fld (pv 0) rfl) (pe_fld (pv 1) rfl) (nomark _))))))), ?_⟩
    obtain ⟨dx, fx, ct, ys, SO⟩ := id SR
    rcases k with ⟨y, prs', rfl, SR', al, k⟩ | ⟨⟨t, ty, kt⟩, k⟩
    · obtain ⟨dx', fx', ct', ys', SO'⟩ := id SR'
      refine ⟨_, rfl, _, _, _, _, true, rfl, .own CS, SO'.ty TS, kit_self, _, rfl, iteT ?_⟩
      obtain ⟨df, hf⟩ := id SO.fl
      refine ⟨_, rfl, x, CS, dx, _, _, rfl, SO.ob, TS.cl, TS.nF, slf_field _ _ _, _, rfl, y, CS, dx', _, _, rfl, SO'.ob, TS.cl, TS.nF, slf_field _ _ _, fx, df, _, _, rfl, hf, SO'.fl.ty TF YF, nfF, fx, .ref fx', p, rfl, SO.fl, .inl ⟨fx', p, rfl, SO'.fl, _, rfl, ?_⟩⟩
      rw [decide_eq_true rfl]
      refine iteT ⟨_, rfl, x, CS, dx, _, _, rfl, SO.ob, TS.cl, TS.nC, slf_coef _ _ _, _, rfl, y, CS, dx', _, _, rfl, SO'.ob, TS.cl, TS.nC, slf_coef _ _ _, ct, ct', ys, ys', rfl, rfl, SqT.of SO.co, SqT.of SO'.co, fun i u v h1 h2 => ?_, fun H1 s1 => ?_⟩
      · have k1 : i < prs.length := by rw [← SO.nu.len]; exact get_len h1
        have k2 : i < prs'.length := by rw [← SO'.nu.len]; exact get_len h2
        have e := al i _ _ (List.getElem?_eq_getElem k1) (List.getElem?_eq_getElem k2)
        have f1 := SO.nu.at_ i u _ h1 (List.getElem?_eq_getElem k1)
        have f2 := SO'.nu.at_ i v _ h2 (List.getElem?_eq_getElem k2)
        rw [← e] at f2
        exact f1.dn f2
      · rw [SO.nu.len, SO'.nu.len]
        exact k H1 s1
    · exact ⟨_, rfl, _, _, _, _, false, rfl, .own CS, ty, kt, _, rfl, iteF k⟩
theorem sc_sfirst : FnScope ["self", "count"] ["self", "count"] (defScope s_sfirst) := ⟨rfl, rfl, rfl, by decide +kernel, rfl, by decide +kernel, by decide +kernel⟩
theorem ok_sfirst {f C CF CS CRd CNP CNC fsinit frd ffromto : Addr} {fd fdsinit fdrd fdfromto : FuncData} (F : Fun K "first" "Series.first" s_sfirst f fd) (TS : STx K CS) (RN : RNx K mg "NoCount" CNC) (MS : Mk K CS fsinit) (G_sinit : FnOk P w K mg base (L2.CX P w) 12 fsinit fdsinit ["self", "field", "coefficients"] (spSInit K C CS CF CRd CNP)) (b_sinit : Binds K fdsinit ["self", "field", "coefficients"] []) (m_S : mg "Series" = some (.ref CS)) (MRd : Mk K CRd frd) (G_rd : FnOk P w K mg base CX0 1 frd fdrd ["self", "row"] (spReady CRd K)) (b_rd : Binds K fdrd ["self", "row"] []) (m_Rd : mg "Ready" = some (.ref CRd))
    (G_fromto : FnOk P w K mg base CX0 2 ffromto fdfromto ["value", "low", "high"] (spFromTo K)) (m_fromto : mg "is_from_to" = some (.ref ffromto)) (k_fromto : PySem.W.keepIn K (.ref ffromto) = true) (b_fromto : Binds K fdfromto ["value", "low", "high"] []) : FnOk P w K mg base (L2.CX P w) 14 f fd ["self", "count"] (spSFirst K C CS CF CNC) := by
  refine F.okX sc_sfirst (fun vs H Q E h => ?_) (fun cdv A outer s H vs Q E hr h => ?_)
  · obtain ⟨x, v, p, prs, rfl, _⟩ := h
    rfl
  · obtain ⟨x, v, p, prs, rfl, SR, hg, tv, kE, kQ⟩ := h
    refine ⟨_, (pss_cons (ps_if (pt_not (pt_val (pe_call G_fromto (hr.mono (by decide)) rfl m_fromto k_fromto b_fromto .nil pass0 (pa_cons (pv 1) (pa_cons pe_int (pa_cons (pe_fld (pv 0) rfl) pa_nil)))))) (pss_one (ps_raise rfl (takes_of rfl rfl rfl rfl) (pmk_own0 PySem.F.excBase_ValueError RN.q RN.m RN.k (raises_own RN.ex RN.ty) rfl))) pss_nil)
      (pss_one (ps_ret (pe_make (E := fun _ _ _ => False) MS G_sinit (hr.mono (by decide)) rfl m_S b_sinit .nil passL (pa_cons (pe_fld (pv 0) rfl) (pa_cons (pe_make (E := fun _ _ _ => False) MRd G_rd (hr.mono (by decide)) rfl m_Rd b_rd .nil pass0 (pa_cons (pe_slice sl_tupA (pe_fld (pv 0) rfl) po_none (po_some (pv 1))) pa_nil)) pa_nil)))))), ?_⟩
    obtain ⟨dx, fx, ct, ys, SO⟩ := id SR
    refine ⟨_, rfl, _, rfl, x, CS, dx, _, _, rfl, SO.ob, TS.cl, TS.nK, slf_known _ _ _, v, 1, _, rfl, tv, _, rfl, ?_⟩
    cases ei : inR v 1 (prs.length : Int) with
    | false => exact iteT (kE ei)
    | true =>
      obtain ⟨k, rfl, k1, k2⟩ : ∃ k : Nat, v = .int (k : Int) ∧ 1 ≤ k ∧ k ≤ prs.length := by
        cases v with
        | int i =>
          have : (decide (1 ≤ i) && decide (i ≤ (prs.length : Int))) = true := ei
          simp only [Bool.and_eq_true, decide_eq_true_eq] at this
          exact ⟨i.toNat, by rw [Int.toNat_of_nonneg (by omega)], by omega, by omega⟩
        | _ => cases ei
      have ly := SO.nu.len
      obtain ⟨a, r, e0, a0⟩ := SO.hd
      have net : prs.take k ≠ [] := by
        rw [e0]
        cases k with
        | zero => omega
        | succ k => simp
      have hh : headG (.inr (prs.take k)) = .inr (prs.take k) := by
        refine head_ok ?_
        rw [e0]
        cases k with
        | zero => omega
        | succ k => exact ⟨a, _, rfl, a0⟩
      have go : ∀ (q : Addr) (H1 : Hp), Same H H1 → H1 q = some (.tup (ys.take k)) → ∀ (r dr : Addr), H1 r = none → H1 dr = none → dr ≠ r → spReady CRd K [.ref r, .ref q] (upd (upd H1 dr (.own r)) r (.ins CRd dr [])) (fun v H2 => v = .non ∧ ∀ (y dy : Addr), H2 y = none → H2 dy = none → dy ≠ y → spSInit K C CS CF CRd CNP [.ref y, .ref fx, .ref r] (upd (upd H2 dy (.own y)) y (.ins CS dy [])) (fun v H3 => v = .non ∧ Q (.ref y) H3) (fun _ _ _ => False)) (fun _ _ _ => False) := by
        intro q H1 s1 hq r dr nr ndr ner
        refine mkR_go (.inr hq) nr ndr ner fun H2 s2 rdy => ⟨rfl, fun y dy ny ndy ney => ?_⟩
        exact mkS_go (SO.fl.same (s1.trans s2)) hg (.rdy rdy ((SO.nu.take k).same (s1.trans s2)) net) hh ny ndy ney fun H3 s3 ser => ⟨rfl, kQ k rfl k1 k2 y H3 ((s1.trans s2).trans s3) ser⟩
      refine iteF ⟨_, rfl, x, CS, dx, _, _, rfl, SO.ob, TS.cl, TS.nF, slf_field _ _ _, _, rfl, x, CS, dx, _, _, rfl, SO.ob, TS.cl, TS.nC, slf_coef _ _ _, _, rfl, _, rfl, ct, ys, rfl, SqT.of SO.co, fun full => ?_, fun _ q hq => ?_⟩
      · refine go ct H (Same.refl H) ?_
        have e1 : ys.take k = ys := by
          have h2 := full.2
          rw [HT.sIx_nat] at h2
          exact List.take_of_length_le (by omega)
        rw [e1]
        exact SO.co
      · refine go q _ (same_new (Same.refl H) hq) ?_
        rw [take_cut]
        exact upd_same
theorem sc_sthen : FnScope ["self", "numbers"] ["self", "numbers"] (defScope s_sthen) := ⟨rfl, rfl, rfl, by decide +kernel, rfl, by decide +kernel, by decide +kernel⟩
theorem ok_sthen {f C CF CS CRd CNP fNP fsinit frd fseq fsnum : Addr} {fd fdNP fdsinit fdrd fdseq fdsnum : FuncData} {tk : Tok} (F : Fun K "then" "Series.then" s_sthen f fd) (B : QTx mg) (TS : STx K CS) (MK79 : mg "MOST_KNOWN" = some (.int 79 tk)) (m_NP : mg "NoSeries" = some (.ref CNP)) (NP : NTxF K "place" CNP fNP) (G_NP : FnOk P w K mg base CX0 1 fNP fdNP ["self", "place"] (spFInit "place" CNP)) (b_NP : Binds K fdNP ["self", "place"] [])
    (MS : Mk K CS fsinit) (G_sinit : FnOk P w K mg base (L2.CX P w) 12 fsinit fdsinit ["self", "field", "coefficients"] (spSInit K C CS CF CRd CNP)) (b_sinit : Binds K fdsinit ["self", "field", "coefficients"] []) (m_S : mg "Series" = some (.ref CS)) (MRd : Mk K CRd frd) (G_rd : FnOk P w K mg base CX0 1 frd fdrd ["self", "row"] (spReady CRd K)) (b_rd : Binds K fdrd ["self", "row"] []) (m_Rd : mg "Ready" = some (.ref CRd))
    (G_seq : FnOk P w K mg base CX0 1 fseq fdseq ["value"] (spSeq K)) (m_seq : mg "is_a_sequence" = some (.ref fseq)) (k_seq : PySem.W.keepIn K (.ref fseq) = true) (b_seq : Binds K fdseq ["value"] [])
    (G_snum : FnOk P w K mg base (L2.CX P w) 10 fsnum fdsnum ["field", "values"] (spSNum K C CF CNP)) (m_snum : mg "_numbers" = some (.ref fsnum)) (k_snum : PySem.W.keepIn K (.ref fsnum) = true) (b_snum : Binds K fdsnum ["field", "values"] []) : FnOk P w K mg base (L2.CX P w) 14 f fd ["self", "numbers"] (spSThen K C CS CF CNP) := by
  refine F.okX sc_sthen (fun vs H Q E h => ?_) (fun cdv A outer s H vs Q E hr h => ?_)
  · obtain ⟨x, v, p, prs, g, rfl, _⟩ := h
    rfl
  · obtain ⟨x, v, p, prs, g, rfl, SR, hg, l79, hv, kE, kQ⟩ := h
    refine ⟨_, (pss_cons (ps_if (PW.pt (pw_or (pt_not (pt_val (pe_call G_seq (hr.mono (by decide)) rfl m_seq k_seq b_seq .nil pass0 (pa_cons (pv 1) pa_nil)))) (pw_or1 (pt_cmpR op_gt (pe_op op_add (pe_fld (pv 0) rfl) (pe_callB call_len_seq (by rfl) B.b_len (by decide +kernel) (pa_cons (pv 1) pa_nil))) (pe_glob (v := .int 79) rfl MK79 ⟨_, rfl⟩) (nomark _))))) (pss_one (ps_raise rfl (takes_of rfl rfl rfl rfl) (pmk_oex NP.oex NP.iC NP.tI G_NP (hr.mono (by decide)) b_NP .nil pass0 rfl m_NP (pa_cons (pe_un un_neg pe_int) pa_nil)))) pss_nil)
      (pss_one (ps_ret (pe_make (E := fun _ _ _ => False) MS G_sinit (hr.mono (by decide)) rfl m_S b_sinit .nil passL (pa_cons (pe_fld (pv 0) rfl) (pa_cons (pe_make (E := fun _ _ _ => False) MRd G_rd (hr.mono (by decide)) rfl m_Rd b_rd .nil pass0 (pa_cons (pe_lst (StX.pa_star (pe_fld (pv 0) rfl) (StX.pa_star (pe_call (E := E) G_snum (hr.mono (by decide)) rfl m_snum k_snum b_snum .nil (passes_call (takes_of rfl rfl rfl rfl) fun _ _ _ _ h => h) (pa_cons (pe_fld (pv 0) rfl) (pa_cons (pv 1) pa_nil))) pa_nil))) pa_nil)) pa_nil)))))), ?_⟩
    obtain ⟨dx, fx, ct, ys, SO⟩ := id SR
    have ly := SO.nu.len
    -- a row that is let: its numbers are asked for
    have go : ∀ (l : Addr) (xs : List V) (os : List (Option (Int × Int))) (H1 : Hp), Same H H1 → LT H1 l xs → xs.length ≤ 79 - prs.length → Givs K C H1 p xs os → ((pre os).length < os.length → g = .inl ((pre os).length : Nat)) → ((pre os).length = os.length → g = .inr (pre os)) →
        spSNum K C CF CNP [.ref fx, .ref l] H1 (fun v H2 => ∃ q zs, v = .ref q ∧ (SqT K H2 q zs ∨ SqL K H2 q zs) ∧ (ys ++ (zs ++ [])).length ≤ sizeLine ∧ ∀ (m : Addr), H2 m = none → ∀ (r dr : Addr), upd H2 m (.lst (ys ++ (zs ++ []))) r = none → upd H2 m (.lst (ys ++ (zs ++ []))) dr = none → dr ≠ r → spReady CRd K [.ref r, .ref m] (upd (upd (upd H2 m (.lst (ys ++ (zs ++ [])))) dr (.own r)) r (.ins CRd dr []))
          (fun v H3 => v = .non ∧ ∀ (y dy : Addr), H3 y = none → H3 dy = none → dy ≠ y → spSInit K C CS CF CRd CNP [.ref y, .ref fx, .ref r] (upd (upd H3 dy (.own y)) y (.ins CS dy [])) (fun v H4 => v = .non ∧ Q (.ref y) H4) (fun _ _ _ => False)) (fun _ _ _ => False)) E := by
      intro l xs os H1 s1 hl n gv gb gr
      refine ⟨fx, l, p, xs, os, rfl, SO.fl.same s1, hg, hl, by omega, gv, fun lt H2 s2 => kE _ (gb lt) H2 (s1.trans s2), fun c q zs H2 s2 hq fn => ?_⟩
      have e24 : (sizeLine : Nat) = 16777216 := sizeLine_eq
      have lz := fn.len
      have lo := gv.len
      refine ⟨q, zs, rfl, .inr (SqL.of hq), by simp; omega, fun m hm r dr nr ndr ner => ?_⟩
      have s3 := (s1.trans s2).trans (same_new (o := .lst (ys ++ (zs ++ []))) (Same.refl H2) hm)
      refine mkR_go (.inl upd_same) nr ndr ner fun H3 s4 rdy => ⟨rfl, fun y dy ny ndy ney => ?_⟩
      have fa := ((SO.nu.same (s1.trans s2)).app fn).same ((same_new (o := .lst (ys ++ (zs ++ []))) (Same.refl H2) hm).trans s4)
      rw [List.append_nil] at rdy
      obtain ⟨a, r0, e0, a0⟩ := SO.hd
      have hh : headG (.inr (prs ++ pre os)) = .inr (prs ++ pre os) := by
        refine head_ok ?_
        rw [e0]
        exact ⟨a, _, rfl, a0⟩
      refine mkS_go (SO.fl.same (s3.trans s4)) hg (.rdy rdy fa ?_) hh ny ndy ney fun H4 s5 ser => ⟨rfl, kQ _ (gr c) y H4 ((s3.trans s4).trans s5) ser⟩
      rw [e0]
      simp
    cases hv with
    | no h =>
      exact ⟨_, rfl, v, false, rfl, h, fun H1 s1 => ⟨_, rfl, iteT ⟨_, rfl, by decide, mkO_readF (kE _ rfl H1 s1)⟩⟩⟩
    | @size l xs h n =>
      refine ⟨_, rfl, _, true, rfl, h.isQ, fun H1 s1 => ⟨_, rfl, iteF ?_⟩⟩
      have SO1 := SO.same s1
      refine ⟨_, rfl, x, CS, dx, _, _, rfl, SO1.ob, TS.cl, TS.nK, slf_known _ _ _, _, rfl, l, xs, rfl, (h.same s1).imp SqL.of SqT.of, _, _, rfl, rfl, _, _, rfl, rfl, _, rfl, ?_⟩
      refine itD (decide_eq_true (by omega)) ?_
      exact ⟨_, rfl, by decide, mkO_readF (kE _ rfl H1 s1)⟩
    | @bad l xs os h n gv lt =>
      refine ⟨_, rfl, _, true, rfl, h.isQ, fun H1 s1 => ⟨_, rfl, iteF ?_⟩⟩
      have SO1 := SO.same s1
      refine ⟨_, rfl, x, CS, dx, _, _, rfl, SO1.ob, TS.cl, TS.nK, slf_known _ _ _, _, rfl, l, xs, rfl, (h.same s1).imp SqL.of SqT.of, _, _, rfl, rfl, _, _, rfl, rfl, _, rfl, ?_⟩
      refine itDn (by simp; omega) ?_
      exact ⟨_, rfl, x, CS, dx, _, _, rfl, SO1.ob, TS.cl, TS.nF, slf_field _ _ _, _, rfl, x, CS, dx, _, _, rfl, SO1.ob, TS.cl, TS.nC, slf_coef _ _ _, ct, ys, rfl, .inl (SqT.of SO1.co), _, rfl, x, CS, dx, _, _, rfl, SO1.ob, TS.cl, TS.nF, slf_field _ _ _, _, rfl, go l xs os H1 s1 (h.same s1) n (gv.same s1) (fun _ => rfl) (fun c => by omega)⟩
    | @row l xs more h n gv =>
      refine ⟨_, rfl, _, true, rfl, h.isQ, fun H1 s1 => ⟨_, rfl, iteF ?_⟩⟩
      have SO1 := SO.same s1
      refine ⟨_, rfl, x, CS, dx, _, _, rfl, SO1.ob, TS.cl, TS.nK, slf_known _ _ _, _, rfl, l, xs, rfl, (h.same s1).imp SqL.of SqT.of, _, _, rfl, rfl, _, _, rfl, rfl, _, rfl, ?_⟩
      refine itDn (by simp; omega) ?_
      exact ⟨_, rfl, x, CS, dx, _, _, rfl, SO1.ob, TS.cl, TS.nF, slf_field _ _ _, _, rfl, x, CS, dx, _, _, rfl, SO1.ob, TS.cl, TS.nC, slf_coef _ _ _, ct, ys, rfl, .inl (SqT.of SO1.co), _, rfl, x, CS, dx, _, _, rfl, SO1.ob, TS.cl, TS.nF, slf_field _ _ _, _, rfl, go l xs (more.map some) H1 s1 (h.same s1) n (gv.same s1) (fun lt => absurd lt (by rw [pre_map]; omega)) (fun _ => by rw [pre_all rfl])⟩
end
end Sq

namespace Sq
open PySem L2 PyProof.Rows
abbrev s_minus : Stmt := top 50
abbrev s_unit : Stmt := top 59
abbrev s_exp : Stmt := top 60
def minusP (p : Int) (a b : Int × Int) : Int × Int := npair p (a.1 * b.2 - b.1 * a.2) (a.2 * b.2)
def spMinus : Sp := fun vs H Q _ => ∃ (p : Int) (q1 q2 : Addr) (a b : Int × Int), vs = [.int p, .ref q1, .ref q2] ∧ goodP p = true ∧ PairAt H q1 a ∧ PairAt H q2 b ∧ PB p a ∧ PB p b ∧ ∀ q H', Same H H' → PairAt H' q (minusP p a b) → Q (.ref q) H'
def spUnit : Sp := fun vs H Q _ => ∃ (st : Addr) (p : Int) (ad : Addr), vs = [.ref st, .int p] ∧ StA H st ad ∧ goodP p = true ∧ ∀ q a H', StA H' st ad → But st H H' → PairAt H' q a → NumOk p a → a.1 ≠ 0 → Q (.ref q) H'
/-! ### bounds of an expansion -/
def LL : Nat := 72201776446800
structure VB (D c : Nat) (a : Int × Int) : Prop where
  pos : 1 ≤ a.2
  dv : a.2 ∣ (D : Int)
  le : a.1.natAbs ≤ c * a.2.natAbs
theorem vb_low {A B : Int} {D c : Nat} {a : Int × Int} (hB : B ≠ 0) (L : Low A B a.1 a.2) (hd : B ∣ A * (D : Int)) (hc : A.natAbs ≤ c * B.natAbs) : VB D c a := by
  refine ⟨L.pos, ?_, ?_⟩
  · obtain ⟨q, hq⟩ := hd
    have e : a.1 * (D : Int) = a.2 * q := by
      refine Int.eq_of_mul_eq_mul_left hB ?_
      have v := L.val
      calc B * (a.1 * (D : Int)) = (a.1 * B) * D := by rw [← Int.mul_assoc, Int.mul_comm B]
        _ = (A * a.2) * D := by rw [v]
        _ = a.2 * (A * D) := by rw [Int.mul_comm A, Int.mul_assoc]
        _ = a.2 * (B * q) := by rw [hq]
        _ = B * (a.2 * q) := by rw [Int.mul_left_comm]
    have d : a.2.natAbs ∣ a.1.natAbs * (D : Int).natAbs := by
      rw [← Int.natAbs_mul]
      exact Int.natAbs_dvd_natAbs.mpr ⟨q, e⟩
    have co : Nat.Coprime a.2.natAbs a.1.natAbs := by
      have := L.cop
      rw [Int.gcd_comm] at this
      exact this
    exact Int.natAbs_dvd_natAbs.mp (Nat.Coprime.dvd_of_dvd_mul_left co d)
  · have v : a.1.natAbs * B.natAbs = A.natAbs * a.2.natAbs := by rw [← Int.natAbs_mul, ← Int.natAbs_mul, L.val]
    refine Nat.le_of_mul_le_mul_right (c := B.natAbs) ?_ (by omega)
    rw [v]
    calc A.natAbs * a.2.natAbs ≤ (c * B.natAbs) * a.2.natAbs := Nat.mul_le_mul_right _ hc
      _ = c * a.2.natAbs * B.natAbs := by rw [Nat.mul_assoc, Nat.mul_assoc, Nat.mul_comm B.natAbs]
theorem VB.times {D D' c c' : Nat} {a b : Int × Int} (h : VB D c a) (g : VB D' c' b) : VB (D * D') (c * c') (timesP 0 a b) := by
  have hp := h.pos
  have gp := g.pos
  have hB : a.2 * b.2 ≠ 0 := mul_ne (by omega) (by omega)
  unfold timesP npair
  rw [if_pos rfl]
  refine vb_low hB (low_lowp _ hB) ?_ ?_
  · have e : ((D * D' : Nat) : Int) = (D : Int) * (D' : Int) := by push_cast; rfl
    rw [e]
    exact Int.dvd_mul_of_dvd_right (Int.mul_dvd_mul h.dv g.dv)
  · rw [Int.natAbs_mul, Int.natAbs_mul]
    calc a.1.natAbs * b.1.natAbs ≤ (c * a.2.natAbs) * (c' * b.2.natAbs) := Nat.mul_le_mul h.le g.le
      _ = c * c' * (a.2.natAbs * b.2.natAbs) := by simp only [Nat.mul_assoc, Nat.mul_left_comm, Nat.mul_comm]
theorem VB.minus {D c c' : Nat} {a b : Int × Int} (h : VB D c a) (g : VB D c' b) : VB D (c + c') (minusP 0 a b) := by
  have hp := h.pos
  have gp := g.pos
  have hB : a.2 * b.2 ≠ 0 := mul_ne (by omega) (by omega)
  unfold minusP npair
  rw [if_pos rfl]
  refine vb_low hB (low_lowp _ hB) ?_ ?_
  · obtain ⟨k, hk⟩ := h.dv
    obtain ⟨m, hm⟩ := g.dv
    refine ⟨a.1 * k - b.1 * m, ?_⟩
    rw [Int.sub_mul, Int.mul_sub]
    have e1 : a.1 * b.2 * (D : Int) = a.2 * b.2 * (a.1 * k) := by rw [hk]; simp only [Int.mul_assoc, Int.mul_left_comm, Int.mul_comm]
    have e2 : b.1 * a.2 * (D : Int) = a.2 * b.2 * (b.1 * m) := by rw [hm]; simp only [Int.mul_assoc, Int.mul_left_comm, Int.mul_comm]
    rw [e1, e2]
  · refine Nat.le_trans (Int.natAbs_sub_le _ _) ?_
    rw [Int.natAbs_mul, Int.natAbs_mul, Int.natAbs_mul, Nat.add_mul]
    refine Nat.add_le_add ?_ ?_
    · rw [← Nat.mul_assoc]
      exact Nat.mul_le_mul_right _ h.le
    · calc b.1.natAbs * a.2.natAbs ≤ (c' * b.2.natAbs) * a.2.natAbs := Nat.mul_le_mul_right _ g.le
        _ = c' * (a.2.natAbs * b.2.natAbs) := by rw [Nat.mul_assoc, Nat.mul_comm b.2.natAbs]
theorem VB.mono {D D' c c' : Nat} {a : Int × Int} (h : VB D c a) (d : D ∣ D') (l : c ≤ c') : VB D' c' a := ⟨h.pos, Int.dvd_trans h.dv (Int.ofNat_dvd.mpr d), Nat.le_trans h.le (Nat.mul_le_mul_right _ l)⟩
theorem dvd_LL : ∀ n : Nat, n < 32 → n = 0 ∨ LL % n = 0 := by decide +kernel
theorem NumOk.vb {a : Int × Int} (h : NumOk 0 a) : VB LL 31 a := by
  obtain ⟨b1, b2⟩ := (h.2.1 rfl).2
  have p := h.1
  have q1 : a.1.natAbs < 32 := b1
  have q2 : a.2.natAbs < 32 := b2
  refine ⟨p, ?_, ?_⟩
  · have e : a.2 = ((a.2.toNat : Nat) : Int) := by omega
    rw [e]
    rcases dvd_LL a.2.toNat (by omega) with z | z
    · omega
    · exact Int.ofNat_dvd.mpr (Nat.dvd_of_mod_eq_zero z)
  · have : 1 ≤ a.2.natAbs := by omega
    omega
/-- the k-th coefficient of an expansion -/
def EXp (p : Int) (k : Nat) (a : Int × Int) : Prop := 1 ≤ a.2 ∧ (p = 0 → Int.gcd a.1 a.2 = 1 ∧ VB (LL ^ (k + 1)) (155 ^ (k + 1)) a) ∧ (p ≠ 0 → a.2 = 1 ∧ 0 ≤ a.1 ∧ a.1 < p)
set_option exponentiation.threshold 2000 in
theorem big_LL {k : Nat} (h : k ≤ 12) : LL ^ k < 2 ^ 600 := Nat.lt_of_le_of_lt (Nat.pow_le_pow_right (by decide) h) (by decide +kernel)
theorem VB.bd {k : Nat} {a : Int × Int} (h : VB (LL ^ (k + 1)) (155 ^ (k + 1)) a) (l : k ≤ 11) : Bd 1000 a := by
  have p := h.pos
  have lp : (0 : Int) < ((LL ^ (k + 1) : Nat) : Int) := Int.ofNat_lt.mpr (Nat.pow_pos (by decide))
  have u1 : a.2.natAbs ≤ LL ^ (k + 1) := by
    have := Int.le_of_dvd lp h.dv
    omega
  have u2 : a.2.natAbs < 2 ^ 600 := Nat.lt_of_le_of_lt u1 (big_LL (by omega))
  refine ⟨?_, Nat.lt_of_lt_of_le u2 (Nat.pow_le_pow_right (by decide) (by decide))⟩
  have c1 : 155 ^ (k + 1) ≤ 2 ^ 100 := Nat.le_trans (Nat.pow_le_pow_right (by decide) (show k + 1 ≤ 12 by omega)) (by decide +kernel)
  calc a.1.natAbs ≤ 155 ^ (k + 1) * a.2.natAbs := h.le
    _ ≤ 2 ^ 100 * a.2.natAbs := Nat.mul_le_mul_right _ c1
    _ < 2 ^ 100 * 2 ^ 600 := Nat.mul_lt_mul_of_pos_left u2 (by decide)
    _ = 2 ^ 700 := by rw [← Nat.pow_add]
    _ ≤ 2 ^ 1000 := Nat.pow_le_pow_right (by decide) (by decide)
theorem EXp.num {p : Int} {k : Nat} {a : Int × Int} (h : EXp p k a) (l : p = 0 → k ≤ 11) : NumN 1000 p a := ⟨h.1, fun p0 => ⟨(h.2.1 p0).1, (h.2.1 p0).2.bd (l p0)⟩, h.2.2⟩
/-- a sum that is under way -/
def SUp (p : Int) (k j : Nat) (a : Int × Int) : Prop := 1 ≤ a.2 ∧ (p = 0 → Int.gcd a.1 a.2 = 1 ∧ VB (LL ^ (k + 1)) (31 + j * (31 * 155 ^ k)) a) ∧ (p ≠ 0 → a.2 = 1 ∧ 0 ≤ a.1 ∧ a.1 < p)
theorem pow155 (k : Nat) : 1 ≤ 155 ^ k := Nat.pow_pos (by decide)
theorem SUp.ex {p : Int} {k j : Nat} {a : Int × Int} (h : SUp p k j a) (l : j ≤ 4) : EXp p k a := by
  refine ⟨h.1, fun p0 => ⟨(h.2.1 p0).1, (h.2.1 p0).2.mono (Nat.dvd_refl _) ?_⟩, h.2.2⟩
  have := pow155 k
  have e : 155 ^ (k + 1) = 155 ^ k * 155 := Nat.pow_succ ..
  rw [e]
  generalize 155 ^ k = c at *
  have : j * (31 * c) ≤ 4 * (31 * c) := Nat.mul_le_mul_right _ l
  omega
theorem minus_num {p : Int} {a b : Int × Int} (hg : goodP p = true) (p0 : p ≠ 0) : (minusP p a b).2 = 1 ∧ 0 ≤ (minusP p a b).1 ∧ (minusP p a b).1 < p := by
  have := prime_lt hg p0
  unfold minusP npair
  rw [if_neg p0]
  exact ⟨rfl, Int.emod_nonneg _ p0, Int.emod_lt_of_pos _ (by omega)⟩
theorem plus_num {p : Int} {a b : Int × Int} (hg : goodP p = true) (p0 : p ≠ 0) : (plusP p a b).2 = 1 ∧ 0 ≤ (plusP p a b).1 ∧ (plusP p a b).1 < p := by
  have := prime_lt hg p0
  unfold plusP npair
  rw [if_neg p0]
  exact ⟨rfl, Int.emod_nonneg _ p0, Int.emod_lt_of_pos _ (by omega)⟩
theorem times_num {p : Int} {a b : Int × Int} (hg : goodP p = true) (p0 : p ≠ 0) : (timesP p a b).2 = 1 ∧ 0 ≤ (timesP p a b).1 ∧ (timesP p a b).1 < p := by
  have := prime_lt hg p0
  unfold timesP npair
  rw [if_neg p0]
  exact ⟨rfl, Int.emod_nonneg _ p0, Int.emod_lt_of_pos _ (by omega)⟩
theorem npair_cop {t u : Int} (hu : u ≠ 0) : Int.gcd (npair 0 t u).1 (npair 0 t u).2 = 1 := by
  unfold npair
  rw [if_pos rfl]
  exact (low_lowp t hu).cop
theorem SUp.step {p : Int} {k i j : Nat} {a b f : Int × Int} (hg : goodP p = true) (h : SUp p k j a) (hb : NumOk p b) (hf : EXp p (k - i) f) (i1 : 1 ≤ i) (ik : i ≤ k) : SUp p k (j + 1) (minusP p a (timesP p b f)) ∧ NumN 1400 p (timesP p b f) ∨ p = 0 ∧ 11 < k := by
  by_cases p0 : p = 0
  · subst p0
    by_cases l : 11 < k
    · exact .inr ⟨rfl, l⟩
    refine .inl ?_
    have vb := hb.vb
    have vf := (hf.2.1 rfl).2
    have fp := vf.pos
    have bp := vb.pos
    have vt := vb.times vf
    have d1 : LL * LL ^ (k - i + 1) ∣ LL ^ (k + 1) := by
      have e : LL * LL ^ (k - i + 1) = LL ^ (k - i + 2) := by rw [Nat.mul_comm, ← Nat.pow_succ]
      rw [e]
      exact Nat.pow_dvd_pow _ (by omega)
    have c1 : 31 * 155 ^ (k - i + 1) ≤ 31 * 155 ^ k := Nat.mul_le_mul_left _ (Nat.pow_le_pow_right (by decide) (by omega))
    have vt2 := vt.mono d1 c1
    have vm := (h.2.1 rfl).2.minus vt2
    have tp := vt.pos
    have ap := h.1
    have tb : Bd 1400 (timesP 0 b f) := by
      have := times_bd (hb.2.1 rfl).2 (vf.bd (by omega)) bp fp
      exact this.le (by decide)
    refine ⟨⟨vm.pos, fun _ => ⟨npair_cop (mul_ne (by omega) (by omega)), vm.mono (Nat.dvd_refl _) ?_⟩, fun z => absurd rfl z⟩, tp, fun _ => ⟨npair_cop (mul_ne (by omega) (by omega)), tb⟩, fun z => absurd rfl z⟩
    rw [Nat.add_mul, Nat.one_mul]
    omega
  · have t := times_num (a := b) (b := f) hg p0
    have m := minus_num (a := a) (b := timesP p b f) hg p0
    exact .inl ⟨⟨by rw [m.1]; decide, fun z => absurd z p0, fun _ => m⟩, by rw [t.1]; decide, fun z => absurd z p0, fun _ => t⟩
def spExp : Sp := fun vs H Q _ => ∃ (p : Int) (l1 l2 : Addr) (n : Nat) (tops bots : List (Int × Int)), vs = [.int p, .ref l1, .ref l2, .int (n : Int)] ∧ goodP p = true ∧ RowAt H l1 tops ∧ RowAt H l2 bots ∧ tops ≠ [] ∧ tops.length ≤ 5 ∧ bots.length ≤ 5 ∧ (∀ a ∈ tops, NumOk p a) ∧ (∀ a ∈ bots, NumOk p a) ∧ (p = 0 → n ≤ 12) ∧ n ≤ 100 ∧
  ∀ l prs H', Same H H' → H l = none → RowAt H' l prs → prs.length = n → (∀ a ∈ prs, NumN 1000 p a) → (1 ≤ n → prs[0]? = tops[0]?) → Q (.ref l) H'
section
variable {P : Program} {w : World} {K : PySem.W.Frag} {mg : Str → Option Value} {base : Heap}
theorem sc_minus : FnScope ["_law_prime_here", "_law_one", "_law_other"] ["_law_prime_here", "_law_one", "_law_other"] (defScope s_minus) := ⟨rfl, rfl, rfl, by decide +kernel, rfl, by decide +kernel, by decide +kernel⟩
theorem ok_minus {f fpair : Addr} {fd fdpair : FuncData} (F : Fun K "_law_minus" "_law_minus" s_minus f fd) (G_pair : FnOk P w K mg base CX0 2 fpair fdpair ["_law_prime_here", "_law_top", "_law_bottom"] spPair) (m_pair : mg "_law_pair" = some (.ref fpair)) (k_pair : PySem.W.keepIn K (.ref fpair) = true) (b_pair : Binds K fdpair ["_law_prime_here", "_law_top", "_law_bottom"] []) : FnOk P w K mg base CX0 3 f fd ["_law_prime_here", "_law_one", "_law_other"] spMinus := by
  refine F.ok sc_minus (fun vs H Q E h => ?_) (fun cdv A outer s H vs Q E hr h => ?_)
  · obtain ⟨p, q1, q2, a, b, rfl, _⟩ := h
    rfl
  · obtain ⟨p, q1, q2, a, b, rfl, hg, h1, h2, ⟨pa, ea, ba⟩, ⟨pb, eb, bb⟩, k⟩ := h
    refine ⟨_, (pss_one (ps_ret (pe_call G_pair (hr.mono (by decide)) rfl m_pair k_pair b_pair .nil pass0 (pa_cons (pv 0) (pa_cons (pe_op op_sub (pe_op op_mulW (pe_ix ix_tup (pv 1) pe_int (fun _ _ => rfl)) (pe_ix ix_tup (pv 2) pe_int (fun _ _ => rfl))) (pe_op op_mulW (pe_ix ix_tup (pv 2) pe_int (fun _ _ => rfl)) (pe_ix ix_tup (pv 1) pe_int (fun _ _ => rfl)))) (pa_cons (pe_op op_mulW (pe_ix ix_tup (pv 1) pe_int (fun _ _ => rfl)) (pe_ix ix_tup (pv 2) pe_int (fun _ _ => rfl))) pa_nil)))))), ?_⟩
    refine ⟨_, rfl, _, rfl, _, _, _, _, rfl, rfl, SqT.of h1, rfl, _, rfl, _, _, _, _, rfl, rfl, SqT.of h2, rfl, _, _, rfl, rfl, pm ba.1 bb.2, ?_⟩
    refine ⟨_, rfl, _, _, _, _, rfl, rfl, SqT.of h2, rfl, _, rfl, _, _, _, _, rfl, rfl, SqT.of h1, rfl, _, _, rfl, rfl, pm bb.1 ba.2, _, _, rfl, rfl, ?_⟩
    refine ⟨_, rfl, _, _, _, _, rfl, rfl, SqT.of h1, rfl, _, rfl, _, _, _, _, rfl, rfl, SqT.of h2, rfl, _, _, rfl, rfl, pm ba.2 bb.2, ?_⟩
    exact ⟨p, _, _, rfl, hg, fun p0 => by rw [ea p0, eb p0]; rfl, mul_ne (by omega) (by omega), pm8 ba.2 bb.2, k⟩
theorem sc_unit : FnScope ["_law_state_here", "_law_prime_here", "_law_found"] ["_law_state_here", "_law_prime_here"] (defScope s_unit) := ⟨rfl, rfl, rfl, by decide +kernel, rfl, by decide +kernel, by decide +kernel⟩
theorem ok_unit {f fnumber : Addr} {fd fdnumber : FuncData} (F : Fun K "_law_unit" "_law_unit" s_unit f fd)
    (G_number : FnOk P w K mg base CX0 3 fnumber fdnumber ["_law_state_here", "_law_prime_here"] spNumber) (m_number : mg "_law_number" = some (.ref fnumber)) (k_number : PySem.W.keepIn K (.ref fnumber) = true) (b_number : Binds K fdnumber ["_law_state_here", "_law_prime_here"] []) : FnOk P w K mg base CX0 4 f fd ["_law_state_here", "_law_prime_here"] spUnit := by
  refine F.ok sc_unit (fun vs H Q E h => ?_) (fun cdv A outer s H vs Q E hr h => ?_)
  · obtain ⟨st, p, ad, rfl, _⟩ := h
    rfl
  · obtain ⟨st, p, ad, rfl, S, hg, k⟩ := h
    refine ⟨_, (pss_cons (ps_set (i := 2) sc_unit.nd rfl (Or.inl rfl) (pe_call G_number (hr.mono (by decide)) rfl m_number k_number b_number .nil pass0 (pa_cons (pv 0) (pa_cons (pv 1) pa_nil))))
      (pss_cons (ps_if (pt_cmpR op_eq (pe_ix ix_tup (pv 2) pe_int (fun _ _ => rfl)) pe_int (nomark _))
        (pss_one (ps_ret (pe_tup (pa_cons pe_int (pa_cons pe_int pa_nil)))))
        pss_nil)
      (pss_one (ps_ret (pv 2))))), ?_⟩
    refine ⟨_, rfl, _, rfl, st, p, ad, rfl, S, hg, fun q a H1 S1 B1 hq ok => ?_⟩
    refine ⟨_, rfl, _, _, _, _, rfl, rfl, SqT.of hq, rfl, rfl, _, rfl, ?_⟩
    by_cases c : a.1 = 0
    · refine itD (by simp [c]) ⟨(by show 2 ≤ sizeLine; decide), fun q2 hq2 => ?_⟩
      refine k q2 (1, 1) _ (S1.up hq2) (B1.new hq2) upd_same ⟨by decide, fun _ => ⟨by decide, by decide, by decide⟩, fun p0 => ⟨rfl, by decide, by have := prime_lt hg p0; show (1 : Int) < p; omega⟩⟩ (by decide)
    · exact itDn (by simp [c]) ⟨_, rfl, k q a H1 S1 B1 hq ok c⟩
theorem sc_exp : FnScope ["_law_prime_here", "_law_top", "_law_bottom", "_law_count", "_law_found", "_law_k", "_law_total", "_law_i"] ["_law_prime_here", "_law_top", "_law_bottom", "_law_count"] (defScope s_exp) := ⟨rfl, rfl, rfl, by decide +kernel, rfl, by decide +kernel, by decide +kernel⟩
theorem ok_exp {f fminus ftimes : Addr} {fd fdminus fdtimes : FuncData} (F : Fun K "_law_expansion" "_law_expansion" s_exp f fd) (D : DTx mg) (B : QTx mg) (b_min : mg "min" = none)
    (G_minus : FnOk P w K mg base CX0 3 fminus fdminus ["_law_prime_here", "_law_one", "_law_other"] spMinus) (m_minus : mg "_law_minus" = some (.ref fminus)) (k_minus : PySem.W.keepIn K (.ref fminus) = true) (b_minus : Binds K fdminus ["_law_prime_here", "_law_one", "_law_other"] [])
    (G_times : FnOk P w K mg base CX0 3 ftimes fdtimes ["_law_prime_here", "_law_one", "_law_other"] spTimes) (m_times : mg "_law_times" = some (.ref ftimes)) (k_times : PySem.W.keepIn K (.ref ftimes) = true) (b_times : Binds K fdtimes ["_law_prime_here", "_law_one", "_law_other"] []) : FnOk P w K mg base CX0 4 f fd ["_law_prime_here", "_law_top", "_law_bottom", "_law_count"] spExp := by
  refine F.ok sc_exp (fun vs H Q E h => ?_) (fun cdv A outer s H vs Q E hr h => ?_)
  · obtain ⟨p, l1, l2, n, tops, bots, rfl, _⟩ := h
    rfl
  · obtain ⟨p, l1, l2, n, tops, bots, rfl, hg, ⟨v1, hv1, r1⟩, ⟨v2, hv2, r2⟩, ne, n1, n2, o1, o2, n12, n100, k⟩ := h
    refine ⟨_, (pss_cons (ps_set (i := 4) sc_exp.nd rfl (Or.inl rfl) (pe_lst pa_nil))
      (pss_cons (ps_for PassesOwn.never rfl (pi_range1 (by rfl) D.b_range (pa_cons (pv 3) pa_nil)) (pg_name (i := 5) sc_exp.nd rfl (Or.inl rfl)) (pss_cons (ps_set (i := 6) sc_exp.nd rfl (Or.inl rfl) (pe_tup (pa_cons pe_int (pa_cons pe_int pa_nil))))
      (C8.pss_cut (ps_if (pt_cmpR op_lt (pv 5) (pe_callB call_len_seq (by rfl) B.b_len (by decide +kernel) (pa_cons (pv 1) pa_nil)) (nomark _))
        (pss_one (ps_set (i := 6) sc_exp.nd rfl (Or.inl rfl) (pe_ix ix_list (pv 1) (pv 5) (fun _ _ => rfl))))
        pss_nil)
      (pss_cons (ps_for PassesOwn.never rfl (pi_range2 (by rfl) D.b_range (pa_cons pe_int (pa_cons (pe_callB (call_min2 rfl) (by rfl) b_min (by decide +kernel) (pa_cons (pe_op op_add (pv 5) pe_int) (pa_cons (pe_callB call_len_seq (by rfl) B.b_len (by decide +kernel) (pa_cons (pv 2) pa_nil)) pa_nil))) pa_nil))) (pg_name (i := 7) sc_exp.nd rfl (Or.inl rfl)) (pss_one (ps_set (i := 6) sc_exp.nd rfl (Or.inl rfl) (pe_call G_minus (hr.mono (by decide)) rfl m_minus k_minus b_minus .nil pass0 (pa_cons (pv 0) (pa_cons (pv 6) (pa_cons (pe_call G_times (hr.mono (by decide)) rfl m_times k_times b_times .nil pass0 (pa_cons (pv 0) (pa_cons (pe_ix ix_list (pv 2) (pv 7) (fun _ _ => rfl)) (pa_cons (pe_ix ix_list (pv 4) (pe_op op_sub (pv 5) (pv 7)) (fun _ _ => rfl)) pa_nil)))) pa_nil)))))))
      (pss_one (ps_expr (pe_bm PySem.F.plainAttrs_list PySem.F.slot_list_append PySem.F.type_list_append mt_append (pv 4) (pa_cons (pv 6) pa_nil))))))))
      (pss_one (ps_ret (pv 4))))), ?_⟩
    refine ⟨(by show 0 ≤ sizeLine; decide), fun L hL => ?_⟩
    have e24 : (sizeLine : Nat) = 16777216 := sizeLine_eq
    have q1 := r1.len
    have q2 := r2.len
    refine ⟨_, rfl, (n : Int), rfl, by omega, by omega, ?_⟩
    refine for_range (lo := 0) (n := n) (fun k σ H' => ∃ (z1 z2 z3 : Option V) (vs : List V) (prs : List (Int × Int)), σ = [some (.int p), some (.ref l1), some (.ref l2), some (.int (n : Int)), some (.ref L), z1, z2, z3] ∧ Same H H' ∧ H' L = some (.lst vs) ∧ RowV H' vs prs ∧ prs.length = k ∧ (∀ i a, prs[i]? = some a → EXp p i a) ∧ (1 ≤ k → prs[0]? = tops[0]?)) ?_ ?_ ?_
    · exact ⟨none, none, none, [], [], rfl, same_new (Same.refl H) hL, upd_same, RowV.nil, rfl, fun i a e => by simp at e, fun z => absurd z (by decide)⟩
    · rintro kk σ H1 hk ⟨z1, z2, z3, vs, prs, rfl, s1, hvs, rv, lp, ex, hd⟩
      have lv := rv.len
      refine ⟨(by show 2 ≤ sizeLine; decide), fun q0 hq0 => ?_⟩
      have sq := same_new (o := .tup [.int 0, .int 1]) (Same.refl H1) hq0
      refine ⟨fun σ H' => ∃ (q : Addr) (a : Int × Int), σ = [some (.int p), some (.ref l1), some (.ref l2), some (.int (n : Int)), some (.ref L), some (.int (0 + (kk : Int))), some (.ref q), z3] ∧ Same H1 H' ∧ PairAt H' q a ∧ SUp p kk 0 a ∧ (kk = 0 → tops[0]? = some a), ?_, ?_⟩
      · have s0 : ∀ {a : Int × Int}, NumOk p a → SUp p kk 0 a := fun {a} h => ⟨h.1, fun p0 => ⟨(h.2.1 p0).1, by
            subst p0
            refine h.vb.mono ?_ (by omega)
            exact ⟨LL ^ kk, by rw [Nat.pow_succ, Nat.mul_comm]⟩⟩, h.2.2⟩
        refine ⟨_, rfl, _, rfl, l1, v1, rfl, .inl (SqL.of (sq _ _ (s1 _ _ hv1))), _, _, rfl, rfl, _, rfl, ?_⟩
        by_cases c : kk < tops.length
        · have cv : kk < v1.length := by omega
          obtain ⟨q, eq, hq⟩ := r1.at_ _ _ _ (List.getElem?_eq_getElem cv) (List.getElem?_eq_getElem c)
          refine itD (decide_eq_true (by omega)) ⟨_, rfl, _, rfl, _, _, _, _, rfl, rfl, SqL.of (sq _ _ (s1 _ _ hv1)), at_of (j := kk) (by omega) (List.getElem?_eq_getElem cv), ?_⟩
          rw [eq]
          refine ⟨q, _, rfl, sq, (hq.same s1).same sq, s0 (o1 _ (List.getElem_mem c)), fun z => ?_⟩
          subst z
          exact List.getElem?_eq_getElem c
        · refine itDn (by simp; omega) ⟨q0, (0, 1), rfl, sq, upd_same, s0 (num_ok0 hg), fun z => ?_⟩
          subst z
          exact absurd (List.length_pos_iff.mpr ne) c
      rintro σ H2 ⟨q, a, rfl, s2, hq, su, hz⟩
      have hv22 := s2 _ _ (s1 _ _ hv2)
      refine ⟨_, rfl, _, _, rfl, rfl, _, rfl, l2, v2, rfl, .inl (SqL.of hv22), _, _, rfl, ?_⟩
      obtain ⟨m, em, m0, m1, m2⟩ : ∃ m : Nat, (if (v2.length : Int) < 0 + (kk : Int) + 1 then (v2.length : Int) else 0 + (kk : Int) + 1) = (m : Int) ∧ m ≤ v2.length ∧ m ≤ kk + 1 ∧ (v2.length = 0 → m = 0) := by
        by_cases c : (v2.length : Int) < 0 + (kk : Int) + 1
        · rw [if_pos c]
          exact ⟨v2.length, rfl, Nat.le_refl _, by omega, fun h => h⟩
        · rw [if_neg c]
          exact ⟨kk + 1, by omega, by omega, Nat.le_refl _, fun h => by omega⟩
      refine ⟨1, (m : Int), by rw [em], ⟨by decide, by decide, by omega, by omega⟩, ?_⟩
      have en : ((m : Int) - 1).toNat = m - 1 := by omega
      rw [en]
      have hb12 : p = 0 → kk ≤ 11 := fun p0 => by have := n12 p0; omega
      refine for_range (lo := 1) (n := m - 1) (fun j σ H' => ∃ (z : Option V) (q : Addr) (a : Int × Int), σ = [some (.int p), some (.ref l1), some (.ref l2), some (.int (n : Int)), some (.ref L), some (.int (0 + (kk : Int))), some (.ref q), z] ∧ Same H2 H' ∧ PairAt H' q a ∧ SUp p kk j a ∧ (kk = 0 → tops[0]? = some a)) ⟨z3, q, a, rfl, Same.refl _, hq, su, hz⟩ ?_ ?_
      · rintro j σ H3 hj ⟨z, q, a, rfl, s3, hq, su, hz⟩
        have cb : 1 + j < v2.length := by omega
        have cb' : 1 + j < bots.length := by omega
        have cf : kk - (1 + j) < vs.length := by omega
        have cf' : kk - (1 + j) < prs.length := by omega
        obtain ⟨qb, eb, hqb⟩ := r2.at_ _ _ _ (List.getElem?_eq_getElem cb) (List.getElem?_eq_getElem cb')
        obtain ⟨qf, ef, hqf⟩ := rv.at_ _ _ _ (List.getElem?_eq_getElem cf) (List.getElem?_eq_getElem cf')
        have ob := o2 _ (List.getElem_mem cb')
        have of := ex _ _ (List.getElem?_eq_getElem cf')
        have sT := (s1.trans s2).trans s3
        refine ⟨_, rfl, _, rfl, _, rfl, _, rfl, _, rfl, _, _, _, _, rfl, rfl, SqL.of (sT _ _ hv2), at_of (j := 1 + j) (by omega) (List.getElem?_eq_getElem cb), _, rfl, _, rfl, _, rfl, _, _, rfl, rfl, _, _, _, _, rfl, rfl, SqL.of (s3 _ _ (s2 _ _ hvs)), at_of (j := kk - (1 + j)) (by omega) (List.getElem?_eq_getElem cf), ?_⟩
        rw [eb, ef]
        generalize bots[1 + j] = b at *
        generalize prs[kk - (1 + j)] = fk at *
        refine ⟨p, qb, qf, b, fk, rfl, hg, hqb.same sT, (hqf.same s2).same s3, ob.pb hg (by decide), (of.num fun p0 => by have := hb12 p0; omega).pb hg (by decide), fun qt H4 s4 ht => ?_⟩
        rcases su.step hg ob of (by omega) (by omega) with ⟨su2, tn⟩ | ⟨p0, lt⟩
        · refine ⟨p, q, qt, a, _, rfl, hg, hq.same s4, ht, ((su.ex (by omega)).num hb12).pb hg (by decide), tn.pb hg (by decide), fun q' H5 s5 hq' => ?_⟩
          exact ⟨_, q', _, rfl, (s3.trans s4).trans s5, hq', su2, fun z => by omega⟩
        · have := hb12 p0
          omega
      rintro σ H3 ⟨z, q, a, rfl, s3, hq, su, hz⟩
      have sT := (s1.trans s2).trans s3
      have hL3 := s3 _ _ (s2 _ _ hvs)
      refine ⟨_, rfl, .inl ⟨rfl, _, SqL.of hL3⟩, _, rfl, L, vs, _, rfl, rfl, hL3, by omega, ?_⟩
      refine ⟨_, _, _, vs ++ [.ref q], prs ++ [a], rfl, same_at sT hL, upd_same, (((rv.same s2).same s3).snoc hq).upd hL3, by simp [lp], fun i b e => ?_, fun _ => ?_⟩
      · rcases get_snoc e with e | ⟨ei, rfl⟩
        · exact ex i b e
        · rw [ei, lp]
          exact su.ex (by omega)
      · by_cases c : kk = 0
        · have : prs = [] := List.eq_nil_of_length_eq_zero (by omega)
          rw [this, hz c]
          rfl
        · rw [List.getElem?_append_left (by omega)]
          exact hd (by omega)
    · rintro σ H1 ⟨z1, z2, z3, vs, prs, rfl, s1, hvs, rv, lp, ex, hd⟩
      refine ⟨_, rfl, k L prs H1 s1 hL ⟨vs, hvs, rv⟩ lp (fun a ha => ?_) hd⟩
      obtain ⟨i, hi⟩ := List.mem_iff_getElem?.mp ha
      have := get_len hi
      exact (ex i a hi).num fun p0 => by have := n12 p0; omega
end
end Sq

namespace Sq
open PySem L2 PyProof.Rows
abbrev s_planted : Stmt := top 62
abbrev s_coefs : Stmt := top 63
theorem But.free {st ad p : Addr} {H H' : Hp} (S : StA H' st ad) (b : But st H H') (h : H' p = none) : H p = none := by
  cases e : H p with
  | none => rfl
  | some o =>
    have n := (S.ne h).1
    rw [b _ _ e n] at h
    cases h
theorem RowV.app {H : Hp} {xs ys : List V} {a b : List (Int × Int)} (h : RowV H xs a) (g : RowV H ys b) : RowV H (xs ++ ys) (a ++ b) := by
  refine ⟨by rw [List.length_append, List.length_append, h.len, g.len], fun i y pr e1 e2 => ?_⟩
  by_cases c : i < xs.length
  · rw [List.getElem?_append_left c] at e1
    rw [List.getElem?_append_left (by rw [← h.len]; exact c)] at e2
    exact h.at_ i y pr e1 e2
  · rw [List.getElem?_append_right (by omega)] at e1
    rw [List.getElem?_append_right (by rw [← h.len]; omega), ← h.len] at e2
    exact g.at_ _ y pr e1 e2
theorem RowAt.but {st ad l : Addr} {H H' : Hp} {prs : List (Int × Int)} (S : StA H st ad) (b : But st H H') (ne : l ≠ st) (h : RowAt H l prs) : RowAt H' l prs := by
  obtain ⟨vs, e, r⟩ := h
  exact ⟨vs, b _ _ e ne, but_row S b r⟩
def spPlanted : Sp := fun vs H Q _ => ∃ (st : Addr) (p : Int) (n : Nat) (ad : Addr), vs = [.ref st, .int p, .int (n : Int)] ∧ StA H st ad ∧ goodP p = true ∧ 1 ≤ n ∧ n ≤ 100 ∧ (p = 0 → n ≤ 12) ∧ ∀ l prs H', StA H' st ad → But st H H' → H l = none → RowAt H' l prs → prs.length = n → (∀ a ∈ prs, NumW p a) → (∃ a r, prs = a :: r ∧ a.1 ≠ 0) → Q (.ref l) H'
def spCoefs : Sp := fun vs H Q _ => ∃ (st : Addr) (p : Int) (n : Nat) (ad : Addr), vs = [.ref st, .int p, .int (n : Int)] ∧ StA H st ad ∧ goodP p = true ∧ 1 ≤ n ∧ n ≤ 100 ∧ ∀ l prs H', StA H' st ad → But st H H' → H l = none → RowAt H' l prs → prs.length = n → (∀ a ∈ prs, NumW p a) → (∃ a r, prs = a :: r ∧ a.1 ≠ 0) → Q (.ref l) H'
section
variable {P : Program} {w : World} {K : PySem.W.Frag} {mg : Str → Option Value} {base : Heap}
theorem sc_planted : FnScope ["_law_state_here", "_law_prime_here", "_law_count", "_law_top", "_law_bottom", "_law_found", "_law_at"] ["_law_state_here", "_law_prime_here", "_law_count"] (defScope s_planted) := ⟨rfl, rfl, rfl, by decide +kernel, rfl, by decide +kernel, by decide +kernel⟩
theorem ok_planted {f fdraw funit fsmall fexp fplus : Addr} {fd fddraw fdunit fdsmall fdexp fdplus : FuncData} (F : Fun K "_law_planted" "_law_planted" s_planted f fd)
    (G_draw : FnOk P w K mg base CX0 1 fdraw fddraw ["_law_state_here", "_law_many"] spDrawA) (m_draw : mg "_law_draw" = some (.ref fdraw)) (k_draw : PySem.W.keepIn K (.ref fdraw) = true) (b_draw : Binds K fddraw ["_law_state_here", "_law_many"] [])
    (G_unit : FnOk P w K mg base CX0 4 funit fdunit ["_law_state_here", "_law_prime_here"] spUnit) (m_unit : mg "_law_unit" = some (.ref funit)) (k_unit : PySem.W.keepIn K (.ref funit) = true) (b_unit : Binds K fdunit ["_law_state_here", "_law_prime_here"] [])
    (G_small : FnOk P w K mg base CX0 4 fsmall fdsmall ["_law_state_here", "_law_prime_here", "_law_size"] spSmall) (m_small : mg "_law_small" = some (.ref fsmall)) (k_small : PySem.W.keepIn K (.ref fsmall) = true) (b_small : Binds K fdsmall ["_law_state_here", "_law_prime_here", "_law_size"] [])
    (G_exp : FnOk P w K mg base CX0 4 fexp fdexp ["_law_prime_here", "_law_top", "_law_bottom", "_law_count"] spExp) (m_exp : mg "_law_expansion" = some (.ref fexp)) (k_exp : PySem.W.keepIn K (.ref fexp) = true) (b_exp : Binds K fdexp ["_law_prime_here", "_law_top", "_law_bottom", "_law_count"] [])
    (G_plus : FnOk P w K mg base CX0 3 fplus fdplus ["_law_prime_here", "_law_one", "_law_other"] spPlus) (m_plus : mg "_law_plus" = some (.ref fplus)) (k_plus : PySem.W.keepIn K (.ref fplus) = true) (b_plus : Binds K fdplus ["_law_prime_here", "_law_one", "_law_other"] []) : FnOk P w K mg base CX0 5 f fd ["_law_state_here", "_law_prime_here", "_law_count"] spPlanted := by
  refine F.ok sc_planted (fun vs H Q E h => ?_) (fun cdv A outer s H vs Q E hr h => ?_)
  · obtain ⟨st, p, n, ad, rfl, _⟩ := h
    rfl
  · obtain ⟨st, p, n, ad, rfl, S, hg, n1, n100, n12, k⟩ := h
    refine ⟨_, (pss_cons (ps_set (i := 3) sc_planted.nd rfl (Or.inl rfl) (pe_op op_cat (pe_lst (pa_cons (pe_call G_unit (hr.mono (by decide)) rfl m_unit k_unit b_unit .nil pass0 (pa_cons (pv 0) (pa_cons (pv 1) pa_nil))) pa_nil)) (pe_call G_small (hr.mono (by decide)) rfl m_small k_small b_small .nil pass0 (pa_cons (pv 0) (pa_cons (pv 1) (pa_cons (pe_call G_draw (hr.mono (by decide)) rfl m_draw k_draw b_draw .nil pass0 (pa_cons (pv 0) (pa_cons pe_int pa_nil))) pa_nil))))))
      (pss_cons (ps_set (i := 4) sc_planted.nd rfl (Or.inl rfl) (pe_op op_cat (pe_lst (pa_cons (pe_tup (pa_cons pe_int (pa_cons pe_int pa_nil))) pa_nil)) (pe_call G_small (hr.mono (by decide)) rfl m_small k_small b_small .nil pass0 (pa_cons (pv 0) (pa_cons (pv 1) (pa_cons (pe_call G_draw (hr.mono (by decide)) rfl m_draw k_draw b_draw .nil pass0 (pa_cons (pv 0) (pa_cons pe_int pa_nil))) pa_nil))))))
      (pss_cons (ps_set (i := 5) sc_planted.nd rfl (Or.inl rfl) (pe_call G_exp (hr.mono (by decide)) rfl m_exp k_exp b_exp .nil pass0 (pa_cons (pv 1) (pa_cons (pv 3) (pa_cons (pv 4) (pa_cons (pv 2) pa_nil))))))
      (pss_cons (ps_set (i := 6) sc_planted.nd rfl (Or.inl rfl) (pe_call G_draw (hr.mono (by decide)) rfl m_draw k_draw b_draw .nil pass0 (pa_cons (pv 0) (pa_cons (pe_op op_mul pe_int (pv 2)) pa_nil))))
      (C8.pss_cut (ps_if (pt_chain op_lt op_lt pe_int (pv 6) (pv 2))
        (pss_one (ps_asg (pe_call G_plus (hr.mono (by decide)) rfl m_plus k_plus b_plus .nil pass0 (pa_cons (pv 1) (pa_cons (pe_ix ix_list (pv 5) (pv 6) (fun _ _ => rfl)) (pa_cons (pe_call G_unit (hr.mono (by decide)) rfl m_unit k_unit b_unit .nil pass0 (pa_cons (pv 0) (pa_cons (pv 1) pa_nil))) pa_nil)))) (pg_sub (pv 5) (pv 6) set_list)))
        pss_nil)
      (pss_one (ps_ret (pv 5)))))))), ?_⟩
    have e24 : (sizeLine : Nat) = 16777216 := sizeLine_eq
    refine ⟨_, rfl, _, rfl, st, p, ad, rfl, S, hg, fun q1 a1 H1 S1 B1 hq1 ok1 nz => ⟨(by show 1 ≤ sizeLine; decide), fun u hu => ?_⟩⟩
    have nu := S1.ne hu
    have sx := same_new (o := .lst [V.ref q1]) (Same.refl H1) hu
    have S2 := S1.same sx
    refine ⟨_, rfl, _, rfl, _, rfl, st, _, ad, rfl, by decide, by decide, S2, fun v H3 v0 v4 S3 B3 => ?_⟩
    obtain ⟨m, rfl⟩ : ∃ m : Nat, v = (m : Int) := ⟨v.toNat, by omega⟩
    refine ⟨st, p, m, ad, rfl, S3, hg, by omega, fun l ts H4 S4 B4 nl r4 ln ok4 => ?_⟩
    have B34 := B3.trans B4
    have hu4 := B34 _ _ upd_same nu.1
    have hq4 := but_pair S2 B34 (hq1.same sx)
    obtain ⟨vs, hvs, rv⟩ := id r4
    have lv := rv.len
    refine ⟨u, l, _, vs, rfl, rfl, hu4, hvs, by show 1 + vs.length ≤ sizeLine; omega, fun t1 ht1 => ?_⟩
    have nt1 := S4.ne ht1
    have rt : RowAt (upd H4 t1 (.lst ([V.ref q1] ++ vs))) t1 (a1 :: ts) := ⟨_, upd_same, ((RowV.nil.snoc hq4).app rv).same (same_new (Same.refl _) ht1)⟩
    have S5 := S4.up (o := .lst ([V.ref q1] ++ vs)) ht1
    have B5 : But st H (upd H4 t1 (.lst ([V.ref q1] ++ vs))) := (((B1.new (o := .lst [V.ref q1]) hu).trans B34).new ht1)
    have okt : ∀ a ∈ a1 :: ts, NumOk p a := fun a ha => by
      rcases List.mem_cons.mp ha with h | h
      · rw [h]
        exact ok1
      · exact ok4 a h
    generalize upd H4 t1 (.lst ([V.ref q1] ++ vs)) = H5 at *
    -- the bottom
    refine ⟨(by show 2 ≤ sizeLine; decide), fun q2 hq2 => ⟨(by show 1 ≤ sizeLine; decide), fun u2 hu2 => ?_⟩⟩
    have sy := (same_new (o := .tup [.int 1, .int 1]) (Same.refl H5) hq2).trans (same_new (o := .lst [V.ref q2]) (Same.refl _) hu2)
    have S7 := S5.same sy
    have nu2 := (S5.up (o := .tup [.int 1, .int 1]) hq2).ne hu2
    have hp2 : PairAt (upd (upd H5 q2 (.tup [.int 1, .int 1])) u2 (.lst [V.ref q2])) q2 (1, 1) := (same_new (o := .lst [V.ref q2]) (Same.refl _) hu2) _ _ upd_same
    have hu7 := upd_same (H := upd H5 q2 (.tup [.int 1, .int 1])) (a := u2) (o := .lst [V.ref q2])
    have B7 := (B5.new (o := .tup [.int 1, .int 1]) hq2).new (o := .lst [V.ref q2]) hu2
    have rt7 := rt.same sy
    generalize upd (upd H5 q2 (.tup [.int 1, .int 1])) u2 (.lst [V.ref q2]) = H7 at *
    refine ⟨_, rfl, _, rfl, _, rfl, st, _, ad, rfl, by decide, by decide, S7, fun v2 H8 v20 v24 S8 B8 => ?_⟩
    obtain ⟨m2, rfl⟩ : ∃ m : Nat, v2 = (m : Int) := ⟨v2.toNat, by omega⟩
    refine ⟨st, p, m2, ad, rfl, S8, hg, by omega, fun l2 bs H9 S9 B9 nl2 r9 ln2 ok9 => ?_⟩
    have B89 := B8.trans B9
    have hu9 := B89 _ _ hu7 nu2.1
    have hq9 := but_pair S7 B89 hp2
    have rt9 := rt7.but S7 B89 nt1.1
    obtain ⟨vs2, hvs2, rv2⟩ := id r9
    have lv2 := rv2.len
    refine ⟨u2, l2, _, vs2, rfl, rfl, hu9, hvs2, by show 1 + vs2.length ≤ sizeLine; omega, fun t2 ht2 => ?_⟩
    have rb : RowAt (upd H9 t2 (.lst ([V.ref q2] ++ vs2))) t2 ((1, 1) :: bs) := ⟨_, upd_same, ((RowV.nil.snoc hq9).app rv2).same (same_new (Same.refl _) ht2)⟩
    have rt10 := rt9.same (same_new (o := .lst ([V.ref q2] ++ vs2)) (Same.refl _) ht2)
    have S10 := S9.up (o := .lst ([V.ref q2] ++ vs2)) ht2
    have B10 : But st H (upd H9 t2 (.lst ([V.ref q2] ++ vs2))) := ((B7.trans B89).new ht2)
    have okb : ∀ a ∈ (1, 1) :: bs, NumOk p a := fun a ha => by
      rcases List.mem_cons.mp ha with h | h
      · rw [h]
        exact ⟨by decide, fun _ => ⟨by decide, by decide, by decide⟩, fun p0 => ⟨rfl, by decide, by have := prime_lt hg p0; show (1 : Int) < p; omega⟩⟩
      · exact ok9 a h
    generalize upd H9 t2 (.lst ([V.ref q2] ++ vs2)) = H10 at *
    refine ⟨_, rfl, _, rfl, _, rfl, _, rfl, p, t1, t2, n, a1 :: ts, (1, 1) :: bs, rfl, hg, rt10, rb, by simp, by simp; omega, by simp; omega, okt, okb, n12, n100, fun lf prs H11 s11 nlf rf lnf okf hdf => ?_⟩
    have S11 := S10.same s11
    have B11 := B10.trans (Same.but s11)
    have nH : H lf = none := But.free S10 B10 nlf
    have nlf2 := S10.ne nlf
    refine ⟨_, rfl, _, rfl, _, _, rfl, rfl, .inl ⟨by decide, by decide⟩, st, _, ad, rfl, by omega, by omega, S11, fun at_ H12 a0 a2 S12 B12 => ?_⟩
    have rf12 := rf.but S11 B12 nlf2.1
    obtain ⟨r, er⟩ : ∃ r, prs = a1 :: r := by
      have := hdf n1
      cases prs with
      | nil => simp at this
      | cons a r => exact ⟨r, by simpa using this⟩
    refine ⟨fun σ H' => σ = [some (.ref st), some (.int p), some (.int (n : Int)), some (.ref t1), some (.ref t2), some (.ref lf), some (.int at_)] ∧ StA H' st ad ∧ But st H H' ∧ ∃ r', RowAt H' lf (a1 :: r') ∧ (a1 :: r').length = n ∧ ∀ a ∈ a1 :: r', NumW p a, ?_, ?_⟩
    · have skip : StA H12 st ad ∧ But st H H12 ∧ ∃ r', RowAt H12 lf (a1 :: r') ∧ (a1 :: r').length = n ∧ ∀ a ∈ a1 :: r', NumW p a := ⟨S12, B11.trans B12, r, by rw [← er]; exact rf12, by rw [← er]; exact lnf, fun a ha => (okf a (by rw [er]; exact ha)).le (by decide)⟩
      refine ⟨_, rfl, _, _, rfl, rfl, _, rfl, ?_⟩
      by_cases c1 : 0 < at_
      · refine itD (by simpa using c1) ⟨_, rfl, _, _, rfl, rfl, _, rfl, ?_⟩
        by_cases c2 : at_ < (n : Int)
        · refine itD (by simpa using c2) ?_
          obtain ⟨vf, hvf, rvf⟩ := id rf12
          have lvf := rvf.len
          have ca : at_.toNat < vf.length := by omega
          have ca' : at_.toNat < prs.length := by omega
          obtain ⟨qf, ef, hqf⟩ := rvf.at_ _ _ _ (List.getElem?_eq_getElem ca) (List.getElem?_eq_getElem ca')
          have of := okf _ (List.getElem_mem ca')
          generalize efk : prs[at_.toNat] = fk at *
          refine ⟨_, rfl, _, rfl, _, rfl, _, _, _, _, rfl, rfl, SqL.of hvf, at_of (j := at_.toNat) (by omega) (List.getElem?_eq_getElem ca), _, rfl, _, rfl, st, p, ad, rfl, S12, hg, fun q3 a3 H13 S13 B13 hq3 ok3 _ => ?_⟩
          rw [ef]
          refine ⟨p, qf, q3, fk, a3, rfl, hg, but_pair S12 B13 hqf, hq3, of.pb hg (by decide), ok3.pb hg (by decide), fun q4 H14 s14 hq4 => ?_⟩
          have hvf14 := s14 _ _ (B13 _ _ hvf nlf2.1)
          have es : (a1 :: r).set at_.toNat (plusP p fk a3) = a1 :: r.set (at_.toNat - 1) (plusP p fk a3) := by
            obtain ⟨j, hj⟩ : ∃ j, at_.toNat = j + 1 := ⟨at_.toNat - 1, by omega⟩
            rw [hj]
            rfl
          refine ⟨_, rfl, _, rfl, lf, vf, _, at_.toNat, rfl, rfl, hvf14, ix_ok (by omega) (by omega), rfl, (S13.same s14).updL nlf2, but_new (((B11.trans B12).trans B13).trans (Same.but s14)) nH, r.set (at_.toNat - 1) (plusP p fk a3), ?_, ?_, ?_⟩
          · rw [← es, ← er]
            exact ⟨_, upd_same, ((((but_row S12 B13 rvf).same s14).set hq4 _).upd hvf14)⟩
          · rw [← es, List.length_set, ← er]
            exact lnf
          · rw [← es]
            intro b hb
            rcases List.mem_or_eq_of_mem_set hb with h | h
            · exact (okf b (by rw [er]; exact h)).le (by decide)
            · rw [h]
              by_cases p0 : p = 0
              · subst p0
                have f1 := of.1
                have g1 := ok3.1
                exact ⟨npair_pos (mul_ne (by omega) (by omega)), fun _ => ⟨npair_cop (mul_ne (by omega) (by omega)), (plus_bd (of.2.1 rfl).2 (ok3.2.1 rfl).2 f1 g1).le (by decide)⟩, fun z => absurd rfl z⟩
              · have t := plus_num (a := fk) (b := a3) hg p0
                exact ⟨by rw [t.1]; decide, fun z => absurd z p0, fun _ => t⟩
        · exact itDn (by simpa using c2) ⟨rfl, skip⟩
      · exact itDn (by simpa using c1) ⟨_, rfl, iteF ⟨rfl, skip⟩⟩
    rintro σ H13 ⟨rfl, S13, B13, r', rf13, ln13, ok13⟩
    exact ⟨_, rfl, k lf (a1 :: r') H13 S13 B13 nH rf13 ln13 ok13 ⟨a1, r', rfl, nz⟩⟩
theorem sc_coefs : FnScope ["_law_state_here", "_law_prime_here", "_law_count", "_law_kind", "_law_k", "_law_gap", "_law_found", "_law_number_here"] ["_law_state_here", "_law_prime_here", "_law_count"] (defScope s_coefs) := ⟨rfl, rfl, rfl, by decide +kernel, rfl, by decide +kernel, by decide +kernel⟩
theorem ok_coefs {f fdraw fplanted funit fnumber : Addr} {fd fddraw fdplanted fdunit fdnumber : FuncData} (F : Fun K "_law_coefficients" "_law_coefficients" s_coefs f fd) (D : DTx mg)
    (G_draw : FnOk P w K mg base CX0 1 fdraw fddraw ["_law_state_here", "_law_many"] spDrawA) (m_draw : mg "_law_draw" = some (.ref fdraw)) (k_draw : PySem.W.keepIn K (.ref fdraw) = true) (b_draw : Binds K fddraw ["_law_state_here", "_law_many"] [])
    (G_planted : FnOk P w K mg base CX0 5 fplanted fdplanted ["_law_state_here", "_law_prime_here", "_law_count"] spPlanted) (m_planted : mg "_law_planted" = some (.ref fplanted)) (k_planted : PySem.W.keepIn K (.ref fplanted) = true) (b_planted : Binds K fdplanted ["_law_state_here", "_law_prime_here", "_law_count"] [])
    (G_unit : FnOk P w K mg base CX0 4 funit fdunit ["_law_state_here", "_law_prime_here"] spUnit) (m_unit : mg "_law_unit" = some (.ref funit)) (k_unit : PySem.W.keepIn K (.ref funit) = true) (b_unit : Binds K fdunit ["_law_state_here", "_law_prime_here"] [])
    (G_number : FnOk P w K mg base CX0 3 fnumber fdnumber ["_law_state_here", "_law_prime_here"] spNumber) (m_number : mg "_law_number" = some (.ref fnumber)) (k_number : PySem.W.keepIn K (.ref fnumber) = true) (b_number : Binds K fdnumber ["_law_state_here", "_law_prime_here"] []) : FnOk P w K mg base CX0 6 f fd ["_law_state_here", "_law_prime_here", "_law_count"] spCoefs := by
  refine F.ok sc_coefs (fun vs H Q E h => ?_) (fun cdv A outer s H vs Q E hr h => ?_)
  · obtain ⟨st, p, n, ad, rfl, _⟩ := h
    rfl
  · obtain ⟨st, p, n, ad, rfl, S, hg, n1, n100, k⟩ := h
    obtain ⟨m, rfl⟩ : ∃ m, n = m + 1 := ⟨n - 1, by omega⟩
    refine ⟨_, (pss_cons (ps_set (i := 3) sc_coefs.nd rfl (Or.inl rfl) (pe_call G_draw (hr.mono (by decide)) rfl m_draw k_draw b_draw .nil pass0 (pa_cons (pv 0) (pa_cons pe_int pa_nil))))
      (C8.pss_cut (ps_if (PW.pt (pw_and (pt_cmpR op_eq (pv 3) pe_int (nomark _)) (pw_and1 (PW.pt (pw_or (pt_cmpR op_gt (pv 1) pe_int (nomark _)) (pw_or1 (pt_cmpR op_le (pv 2) pe_int (nomark _))))))))
        (pss_one (ps_ret (pe_call G_planted (hr.mono (by decide)) rfl m_planted k_planted b_planted .nil pass0 (pa_cons (pv 0) (pa_cons (pv 1) (pa_cons (pv 2) pa_nil))))))
        pss_nil)
      (pss_cons (ps_if (pt_cmpR op_eq (pv 3) pe_int (nomark _))
        (pss_one (ps_ret (pe_op op_cat (pe_lst (pa_cons (pe_tup (pa_cons pe_int (pa_cons pe_int pa_nil))) pa_nil)) (pe_lc (own := [("_law_k", 4)]) (g := gName 4) (tt := tYes) rfl sc_coefs.nd (pi_range1 (by rfl) D.b_range (pa_cons (pe_op op_sub (pv 2) pe_int) pa_nil)) (blkOk_by (N := ["_law_state_here", "_law_prime_here", "_law_count", "_law_kind", "_law_k", "_law_gap", "_law_found", "_law_number_here"]) (sc := defScope s_coefs) (by decide +kernel)) (fun _ _ _ _ _ => pg_name (i := 4) sc_coefs.nd rfl (Or.inl rfl)) (fun _ _ _ _ _ => pts_nil) (fun _ _ _ _ _ => (pe_tup (pa_cons (pe_call G_draw (hr.mono (by decide)) rfl m_draw k_draw b_draw .nil pass0 (pa_cons (pv 0) (pa_cons pe_int pa_nil))) (pa_cons pe_int pa_nil))))))))
        pss_nil)
      (pss_cons (ps_if (pt_cmpR op_eq (pv 3) pe_int (nomark _))
        (pss_cons (ps_set (i := 5) sc_coefs.nd rfl (Or.inl rfl) (pe_op op_add pe_int (pe_call G_draw (hr.mono (by decide)) rfl m_draw k_draw b_draw .nil pass0 (pa_cons (pv 0) (pa_cons pe_int pa_nil)))))
      (pss_cons (ps_set (i := 6) sc_coefs.nd rfl (Or.inl rfl) (pe_lst (pa_cons (pe_call G_unit (hr.mono (by decide)) rfl m_unit k_unit b_unit .nil pass0 (pa_cons (pv 0) (pa_cons (pv 1) pa_nil))) pa_nil)))
      (pss_cons (ps_for PassesOwn.never rfl (pi_range2 (by rfl) D.b_range (pa_cons pe_int (pa_cons (pv 2) pa_nil))) (pg_name (i := 4) sc_coefs.nd rfl (Or.inl rfl)) (pss_cons (ps_set (i := 7) sc_coefs.nd rfl (Or.inl rfl) (pe_tup (pa_cons pe_int (pa_cons pe_int pa_nil))))
      (C8.pss_cut (ps_if (pt_cmpR op_eq (pe_op op_mod (pv 4) (pv 5)) pe_int (nomark _))
        (pss_one (ps_set (i := 7) sc_coefs.nd rfl (Or.inl rfl) (pe_call G_number (hr.mono (by decide)) rfl m_number k_number b_number .nil pass0 (pa_cons (pv 0) (pa_cons (pv 1) pa_nil)))))
        pss_nil)
      (pss_one (ps_expr (pe_bm PySem.F.plainAttrs_list PySem.F.slot_list_append PySem.F.type_list_append mt_append (pv 6) (pa_cons (pv 7) pa_nil)))))))
      (pss_one (ps_ret (pv 6))))))
        pss_nil)
      (pss_one (ps_ret (pe_op op_cat (pe_lst (pa_cons (pe_call G_unit (hr.mono (by decide)) rfl m_unit k_unit b_unit .nil pass0 (pa_cons (pv 0) (pa_cons (pv 1) pa_nil))) pa_nil)) (pe_lc (own := [("_law_k", 4)]) (g := gName 4) (tt := tYes) rfl sc_coefs.nd (pi_range1 (by rfl) D.b_range (pa_cons (pe_op op_sub (pv 2) pe_int) pa_nil)) (blkOk_by (N := ["_law_state_here", "_law_prime_here", "_law_count", "_law_kind", "_law_k", "_law_gap", "_law_found", "_law_number_here"]) (sc := defScope s_coefs) (by decide +kernel)) (fun _ _ _ _ _ => pg_name (i := 4) sc_coefs.nd rfl (Or.inl rfl)) (fun _ _ _ _ _ => pts_nil) (fun _ _ _ _ _ => (pe_call G_number (hr.mono (by decide)) rfl m_number k_number b_number .nil pass0 (pa_cons (pv 0) (pa_cons (pv 1) pa_nil)))))))))))), ?_⟩
    have e24 : (sizeLine : Nat) = 16777216 := sizeLine_eq
    refine ⟨_, rfl, st, _, ad, rfl, by decide, by decide, S, fun kd H1 k0 k5 S1 B1 => ?_⟩
    refine ⟨fun σ H' => σ = [some (.ref st), some (.int p), some (.int ((m + 1 : Nat) : Int)), some (.int kd), none, none, none, none] ∧ H' = H1, ?_, ?_⟩
    · have plant : (p = 0 → m + 1 ≤ 12) → spPlanted [.ref st, .int p, .int ((m + 1 : Nat) : Int)] H1 (fun v H' => Q v H') E0 := fun h12 => ⟨st, p, m + 1, ad, rfl, S1, hg, n1, n100, h12, fun l prs H' S' B' nl r ln ok hd => k l prs H' S' (B1.trans B') (But.free S1 B1 nl) r ln ok hd⟩
      refine ⟨_, rfl, rfl, _, rfl, ?_⟩
      by_cases c0 : kd = 0
      · refine itD (by simp [c0]) ⟨_, rfl, _, _, rfl, rfl, _, rfl, ?_⟩
        by_cases c1 : p > 0
        · exact itD (by simpa using c1) ⟨_, rfl, _, rfl, _, rfl, plant fun z => by omega⟩
        · refine itDn (by simpa using c1) ⟨_, rfl, _, _, rfl, rfl, _, rfl, ?_⟩
          by_cases c2 : ((m + 1 : Nat) : Int) ≤ 12
          · exact itD (decide_eq_true c2) ⟨_, rfl, _, rfl, _, rfl, plant fun z => by omega⟩
          · exact itDn (fun z => c2 (of_decide_eq_true z)) ⟨rfl, rfl⟩
      · exact itDn (by simp [c0]) ⟨rfl, rfl⟩
    rintro σ H1' ⟨rfl, rfl⟩
    refine ⟨_, rfl, rfl, _, rfl, ite2 (fun _ => ?_) (fun _ => ?_)⟩
    · -- zeros and ones
      refine ⟨(by show 2 ≤ sizeLine; decide), fun q1 hq1 => ⟨(by show 1 ≤ sizeLine; decide), fun u hu => ?_⟩⟩
      obtain ⟨a1, ea1⟩ : ∃ a : Int × Int, a = (1, 1) := ⟨_, rfl⟩
      have hp0 : PairAt (upd H1' q1 (.tup [.int 1, .int 1])) q1 a1 := by rw [ea1]; exact upd_same
      have ok1 : NumOk p a1 := by
        rw [ea1]
        exact ⟨by decide, fun _ => ⟨by decide, by decide, by decide⟩, fun p0 => ⟨rfl, by decide, by have := prime_lt hg p0; show (1 : Int) < p; omega⟩⟩
      have nz : a1.1 ≠ 0 := by rw [ea1]; decide
      have S2 := S1.up (o := .tup [.int 1, .int 1]) hq1
      have nu := S2.ne hu
      have S3 := S2.up (o := .lst [V.ref q1]) hu
      have B3 := (B1.new (o := .tup [.int 1, .int 1]) hq1).new (o := .lst [V.ref q1]) hu
      have hq3 := hp0.same (same_new (o := .lst [V.ref q1]) (Same.refl _) hu)
      have hu3 := upd_same (H := upd H1' q1 (.tup [.int 1, .int 1])) (a := u) (o := .lst [V.ref q1])
      generalize upd (upd H1' q1 (.tup [.int 1, .int 1])) u (.lst [V.ref q1]) = H3 at *
      refine ⟨_, rfl, _, _, rfl, rfl, (m : Int), (by show [V.int (((m + 1 : Nat) : Int) - 1)] = [V.int (m : Int)]; rw [show (((m + 1 : Nat) : Int) - 1) = (m : Int) by omega]), by omega, by omega, fun L hL => ?_⟩
      have nL := S3.ne hL
      refine lc_range (lo := 0) (n := m) (fun i H' => ∃ (vs : List V) (prs : List (Int × Int)), StA H' st ad ∧ But st H3 H' ∧ H' L = some (.lst vs) ∧ RowV H' vs prs ∧ prs.length = i ∧ ∀ a ∈ prs, NumOk p a) ?_ ?_ ?_
      · exact ⟨[], [], S3.up hL, (But.refl st H3).new hL, upd_same, RowV.nil, rfl, fun a h => by cases h⟩
      · rintro i H4 hi ⟨vs, prs, S4, B4, h4, r4, l4, ok4⟩
        have e : (sizeLine : Nat) = 16777216 := sizeLine_eq
        have add : ∀ (q : Addr) (a : Int × Int) (H5 : Hp), StA H5 st ad → But st H4 H5 → PairAt H5 q a → NumOk p a → ∃ acc, H5 L = some (.lst acc) ∧ acc.length < sizeLine ∧ ∃ (vs : List V) (prs : List (Int × Int)), StA (upd H5 L (.lst (acc ++ [.ref q]))) st ad ∧ But st H3 (upd H5 L (.lst (acc ++ [.ref q]))) ∧ (upd H5 L (.lst (acc ++ [.ref q]))) L = some (.lst vs) ∧ RowV (upd H5 L (.lst (acc ++ [.ref q]))) vs prs ∧ prs.length = i + 1 ∧ ∀ a ∈ prs, NumOk p a := by
          intro q a H5 S5 B5 hq oa
          have h5 := B5 _ _ h4 nL.1
          refine ⟨vs, h5, by have := r4.len; omega, vs ++ [.ref q], prs ++ [a], S5.updL nL, but_new (B4.trans B5) hL, upd_same, ((but_row S4 B5 r4).snoc hq).upd h5, by simp [l4], fun b hb => ?_⟩
          rcases List.mem_append.mp hb with hb | hb
          · exact ok4 b hb
          · rw [List.mem_singleton.mp hb]
            exact oa
        refine ⟨rfl, _, rfl, st, _, ad, rfl, by decide, by decide, S4, fun v H5 v0 v2 S5 B5 => ⟨(by show 2 ≤ sizeLine; decide), fun q hq => ?_⟩⟩
        refine add q (v, 1) _ (S5.up hq) (B5.new hq) upd_same ⟨(by show (1 : Int) ≤ 1; decide), fun _ => ⟨Int.gcd_one_right _, b5 (by show v.natAbs < 32; omega), (by show (1 : Int).natAbs < 2 ^ 5; decide)⟩, fun p0 => ⟨rfl, v0, by have := prime_lt hg p0; show v < p; omega⟩⟩
      rintro H4 ⟨vs, prs, S4, B4, h4, r4, l4, ok4⟩
      have e : (sizeLine : Nat) = 16777216 := sizeLine_eq
      have hu4 := B4 _ _ hu3 nu.1
      have hq4 := but_pair S3 B4 hq3
      have lv := r4.len
      refine ⟨u, L, _, vs, rfl, rfl, hu4, h4, by show 1 + vs.length ≤ sizeLine; omega, fun t ht => ?_⟩
      have B5 := (B3.trans B4).new (o := .lst ([V.ref q1] ++ vs)) ht
      refine k t (a1 :: prs) _ (S4.up ht) B5 (But.free S4 (B3.trans B4) ht) ⟨_, upd_same, ((RowV.nil.snoc hq4).app r4).same (same_new (Same.refl _) ht)⟩ (by simp [l4]) (fun b hb => ?_) ⟨a1, prs, rfl, nz⟩
      rcases List.mem_cons.mp hb with hb | hb
      · rw [hb]
        exact ok1.le (by decide)
      · exact (ok4 b hb).le (by decide)
    refine ⟨_, rfl, rfl, _, rfl, ite2 (fun _ => ?_) (fun _ => ?_)⟩
    · -- with gaps
      refine ⟨_, rfl, st, _, ad, rfl, by decide, by decide, S1, fun gp H2 g0 g5 S2 B2 => ⟨_, _, rfl, rfl, ?_⟩⟩
      refine ⟨_, rfl, _, rfl, st, p, ad, rfl, S2, hg, fun q1 a1 H3 S3 B3 hq1 ok1 nz => ⟨(by show 1 ≤ sizeLine; decide), fun L hL => ?_⟩⟩
      have nL := S3.ne hL
      have B13 := (B1.trans B2).trans B3
      have nH := But.free S3 B13 hL
      refine ⟨_, rfl, 1, _, rfl, ⟨by decide, by decide, by omega, by omega⟩, ?_⟩
      have en : (((m + 1 : Nat) : Int) - 1).toNat = m := by omega
      rw [en]
      refine for_range (lo := 1) (n := m) (fun i σ H' => ∃ (z1 z2 : Option V) (vs : List V) (prs : List (Int × Int)), σ = [some (.ref st), some (.int p), some (.int ((m + 1 : Nat) : Int)), some (.int kd), z1, some (.int (1 + gp)), some (.ref L), z2] ∧ StA H' st ad ∧ But st H H' ∧ H' L = some (.lst vs) ∧ RowV H' vs (a1 :: prs) ∧ prs.length = i ∧ ∀ a ∈ prs, NumOk p a) ?_ ?_ ?_
      · exact ⟨none, none, _, [], rfl, S3.up hL, B13.new hL, upd_same, (RowV.nil.snoc hq1).same (same_new (Same.refl _) hL), rfl, fun a h => by cases h⟩
      · rintro i σ H4 hi ⟨z1, z2, vs, prs, rfl, S4, B4, h4, r4, l4, ok4⟩
        refine ⟨(by show 2 ≤ sizeLine; decide), fun q0 hq0 => ?_⟩
        have sq := same_new (o := .tup [.int 0, .int 1]) (Same.refl H4) hq0
        refine ⟨fun σ H' => ∃ q a, σ = [some (.ref st), some (.int p), some (.int ((m + 1 : Nat) : Int)), some (.int kd), some (.int (1 + (i : Int))), some (.int (1 + gp)), some (.ref L), some (.ref q)] ∧ StA H' st ad ∧ But st H4 H' ∧ PairAt H' q a ∧ NumOk p a, ?_, ?_⟩
        · refine ⟨_, rfl, _, rfl, _, _, rfl, rfl, (show (0 : Int) < 1 + gp by omega), rfl, _, rfl, ite2 (fun _ => ?_) (fun _ => ?_)⟩
          · exact ⟨_, rfl, _, rfl, st, p, ad, rfl, S4.same sq, hg, fun q a H5 S5 B5 hq ok => ⟨q, a, rfl, S5, (Same.but sq).trans B5, hq, ok⟩⟩
          · exact ⟨q0, (0, 1), rfl, S4.same sq, Same.but sq, upd_same, num_ok0 hg⟩
        rintro σ H5 ⟨q, a, rfl, S5, B5, hq, oa⟩
        have h5 := B5 _ _ h4 nL.1
        have lv := r4.len
        rw [List.length_cons] at lv
        refine ⟨_, rfl, .inl ⟨rfl, _, SqL.of h5⟩, _, rfl, L, vs, _, rfl, rfl, h5, by omega, ?_⟩
        refine ⟨_, _, vs ++ [.ref q], prs ++ [a], rfl, S5.updL nL, but_new (B4.trans B5) nH, upd_same, ((but_row S4 B5 r4).snoc hq).upd h5, by simp [l4], fun b hb => ?_⟩
        rcases List.mem_append.mp hb with hb | hb
        · exact ok4 b hb
        · rw [List.mem_singleton.mp hb]
          exact oa
      · rintro σ H4 ⟨z1, z2, vs, prs, rfl, S4, B4, h4, r4, l4, ok4⟩
        refine ⟨_, rfl, k L (a1 :: prs) H4 S4 B4 nH ⟨vs, h4, r4⟩ (by simp [l4]) (fun b hb => ?_) ⟨a1, prs, rfl, nz⟩⟩
        rcases List.mem_cons.mp hb with hb | hb
        · rw [hb]
          exact ok1.le (by decide)
        · exact (ok4 b hb).le (by decide)
    · -- any numbers
      refine ⟨_, rfl, _, rfl, st, p, ad, rfl, S1, hg, fun q1 a1 H2 S2 B2 hq1 ok1 nz => ⟨(by show 1 ≤ sizeLine; decide), fun u hu => ?_⟩⟩
      have nu := S2.ne hu
      have S3 := S2.up (o := .lst [V.ref q1]) hu
      have B3 := (B1.trans B2).new (o := .lst [V.ref q1]) hu
      have hq3 := hq1.same (same_new (o := .lst [V.ref q1]) (Same.refl _) hu)
      have hu3 := upd_same (H := H2) (a := u) (o := .lst [V.ref q1])
      generalize upd H2 u (.lst [V.ref q1]) = H3 at *
      refine ⟨_, rfl, _, _, rfl, rfl, (m : Int), (by show [V.int (((m + 1 : Nat) : Int) - 1)] = [V.int (m : Int)]; rw [show (((m + 1 : Nat) : Int) - 1) = (m : Int) by omega]), by omega, by omega, fun L hL => ?_⟩
      have nL := S3.ne hL
      refine lc_range (lo := 0) (n := m) (fun i H' => ∃ (vs : List V) (prs : List (Int × Int)), StA H' st ad ∧ But st H3 H' ∧ H' L = some (.lst vs) ∧ RowV H' vs prs ∧ prs.length = i ∧ ∀ a ∈ prs, NumOk p a) ?_ ?_ ?_
      · exact ⟨[], [], S3.up hL, (But.refl st H3).new hL, upd_same, RowV.nil, rfl, fun a h => by cases h⟩
      · rintro i H4 hi ⟨vs, prs, S4, B4, h4, r4, l4, ok4⟩
        have e : (sizeLine : Nat) = 16777216 := sizeLine_eq
        have add : ∀ (q : Addr) (a : Int × Int) (H5 : Hp), StA H5 st ad → But st H4 H5 → PairAt H5 q a → NumOk p a → ∃ acc, H5 L = some (.lst acc) ∧ acc.length < sizeLine ∧ ∃ (vs : List V) (prs : List (Int × Int)), StA (upd H5 L (.lst (acc ++ [.ref q]))) st ad ∧ But st H3 (upd H5 L (.lst (acc ++ [.ref q]))) ∧ (upd H5 L (.lst (acc ++ [.ref q]))) L = some (.lst vs) ∧ RowV (upd H5 L (.lst (acc ++ [.ref q]))) vs prs ∧ prs.length = i + 1 ∧ ∀ a ∈ prs, NumOk p a := by
          intro q a H5 S5 B5 hq oa
          have h5 := B5 _ _ h4 nL.1
          refine ⟨vs, h5, by have := r4.len; omega, vs ++ [.ref q], prs ++ [a], S5.updL nL, but_new (B4.trans B5) hL, upd_same, ((but_row S4 B5 r4).snoc hq).upd h5, by simp [l4], fun b hb => ?_⟩
          rcases List.mem_append.mp hb with hb | hb
          · exact ok4 b hb
          · rw [List.mem_singleton.mp hb]
            exact oa
        exact ⟨rfl, _, rfl, _, rfl, st, p, ad, rfl, S4, hg, fun q a H5 S5 B5 hq oa => add q a H5 S5 B5 hq oa⟩
      rintro H4 ⟨vs, prs, S4, B4, h4, r4, l4, ok4⟩
      have e : (sizeLine : Nat) = 16777216 := sizeLine_eq
      have hu4 := B4 _ _ hu3 nu.1
      have hq4 := but_pair S3 B4 hq3
      have lv := r4.len
      refine ⟨u, L, _, vs, rfl, rfl, hu4, h4, by show 1 + vs.length ≤ sizeLine; omega, fun t ht => ?_⟩
      have B5 := (B3.trans B4).new (o := .lst ([V.ref q1] ++ vs)) ht
      refine k t (a1 :: prs) _ (S4.up ht) B5 (But.free S4 (B3.trans B4) ht) ⟨_, upd_same, ((RowV.nil.snoc hq4).app r4).same (same_new (Same.refl _) ht)⟩ (by simp [l4]) (fun b hb => ?_) ⟨a1, prs, rfl, nz⟩
      rcases List.mem_cons.mp hb with hb | hb
      · rw [hb]
        exact ok1.le (by decide)
      · exact (ok4 b hb).le (by decide)
end
end Sq

namespace Sq
open PySem L2 PyProof.Rows
abbrev s_told : Stmt := top 64
abbrev s_refused : Stmt := top 65
abbrev s_further : Stmt := top 66
abbrev s_counted : Stmt := top 67
def toldG : Int ⊕ List (Int × Int) → List V
  | .inl n => [.str "refused", .int n]
  | .inr _ => [.str "made", .int 0]
def spTold (C CS CF : Addr) : Sp := fun vs H Q _ => ∃ (p : Int) (x : Addr) (prs : List (Int × Int)), vs = [.int p, .ref x] ∧ goodP p = true ∧ Ser C CS CF H x p prs ∧ prs.length ≤ 900 ∧ ∀ l H', Same H H' → RowAt H' l prs → Q (.ref l) H'
def spRefused (K : PySem.W.Frag) (C CF CRd : Addr) : Sp := fun vs H Q _ => ∃ (x : Addr) (p : Int) (v : V) (b : Bool) (g : Int ⊕ List (Int × Int)), vs = [.ref x, v] ∧ FldAt CF H x p ∧ goodP p = true ∧ SRow K C CRd H p 1 32 v b g ∧ ∀ q H', Same H H' → H' q = some (.tup (toldG (headG g))) → Q (.ref q) H'
def spFurther (K : PySem.W.Frag) (C CS CF : Addr) : Sp := fun vs H Q _ => ∃ (x : Addr) (p : Int) (v : V) (prs : List (Int × Int)) (g : Int ⊕ List (Int × Int)), vs = [.ref x, v] ∧ Ser C CS CF H x p prs ∧ goodP p = true ∧ prs.length ≤ 79 ∧ TRow K C H p (79 - prs.length) v g ∧ ∀ q H', Same H H' → H' q = some (.tup (toldG g)) → Q (.ref q) H'
def spCounted (K : PySem.W.Frag) (C CS CF : Addr) : Sp := fun vs H Q _ => ∃ (x : Addr) (p : Int) (prs : List (Int × Int)) (v : V), vs = [.ref x, v] ∧ Ser C CS CF H x p prs ∧ goodP p = true ∧ IsTy K H v ∧ inR v 1 (prs.length : Int) = false ∧ ∀ H', Same H H' → Q (.str "refused") H'
section
variable {P : Program} {w : World} {K : PySem.W.Frag} {mg : Str → Option Value} {base : Heap}
theorem sc_told : FnScope ["_law_prime_here", "_law_told", "_law_row_here"] ["_law_prime_here", "_law_told"] (defScope s_told) := ⟨rfl, rfl, rfl, by decide +kernel, rfl, by decide +kernel, by decide +kernel⟩
theorem ok_told {f C CS CF CNF fF feq frowt flisint fslen : Addr} {fd fdF fdeq fdrowt fdlisint fdslen : FuncData} (F : Fun K "_law_told_series" "_law_told_series" s_told f fd) (B : QTx mg) (TS : STx K CS) (TF : FTx K CF) (YF : IFy K CF) (I : ITx mg) (m_S : mg "Series" = some (.ref CS)) (m_CF : mg "Field" = some (.ref CF)) (MF : Mk K CF fF)
    (G_F : FnOk P w K mg base (L2.CX P w) 2 fF fdF ["self", "prime"] (spFieldInit K CF CNF)) (b_F : Binds K fdF ["self", "prime"] []) (O_feq : OwnOp K CF feq "__eq__") (nfF : PySem.W.notFirst K CF (.ref CF) = true) (G_feq : FnOk P w K mg base CX0 1 feq fdeq ["self", "other"] (spF_eq K CF)) (b_feq : Binds K fdeq ["self", "other"] [])
    (O_len : OwnOp K CS fslen "__len__") (G_slen : FnOk P w K mg base CX0 1 fslen fdslen ["self"] (spSLen C CS CF)) (b_slen : Binds K fdslen ["self"] [])
    (G_rowt : FnOk P w K mg base CX0 3 frowt fdrowt ["_law_prime_here", "_law_told"] (spRowT C)) (m_rowt : mg "_law_row" = some (.ref frowt)) (k_rowt : PySem.W.keepIn K (.ref frowt) = true) (b_rowt : Binds K fdrowt ["_law_prime_here", "_law_told"] [])
    (G_lisint : FnOk P w K mg base CX0 1 flisint fdlisint ["_law_told"] (spIsInt K)) (m_lisint : mg "_law_is_integer" = some (.ref flisint)) (k_lisint : PySem.W.keepIn K (.ref flisint) = true) (b_lisint : Binds K fdlisint ["_law_told"] []) : FnOk P w K mg base CX0 4 f fd ["_law_prime_here", "_law_told"] (spTold C CS CF) := by
  refine F.ok sc_told (fun vs H Q E h => ?_) (fun cdv A outer s H vs Q E hr h => ?_)
  · obtain ⟨p, x, prs, rfl, _⟩ := h
    rfl
  · obtain ⟨p, x, prs, rfl, hg, SR, hl, k⟩ := h
    refine ⟨_, (pss_cons (ps_if (PW.pt (pw_or (pt_not (pt_val (pe_callB call_isi (by rfl) I.b_isinstance (by decide +kernel) (pa_cons (pv 1) (pa_cons (pe_glob (v := .ref CS) rfl m_S rfl) pa_nil))))) (pw_or1 (pt_not (pt_cmpR (op_ownEq O_feq G_feq (hr.mono (by decide)) b_feq pass0) (pe_fld (pv 1) rfl) (pe_make MF G_F (hr.mono (by decide)) rfl m_CF b_F .nil passL (pa_cons (pv 0) pa_nil)) (nomark _)))))) (pss_one (ps_ret pe_non)) pss_nil)
      (pss_cons (ps_set (i := 2) sc_told.nd rfl (Or.inl rfl) (pe_call G_rowt (hr.mono (by decide)) rfl m_rowt k_rowt b_rowt .nil pass0 (pa_cons (pv 0) (pa_cons (pe_fld (pv 1) rfl) pa_nil))))
      (pss_cons (ps_if (PW.pt (pw_or (pt_cmpR op_isN (pv 2) pe_non (nomark _)) (pw_or (pt_cmpR (op_eqNil (Nat.lt_of_le_of_lt (Nat.le_add_right _ 64) hr.units)) (pv 2) (pe_lst pa_nil) (nomark _)) (pw_or (pt_cmpR op_eq (pe_ix ix_tup (pe_ix ix_list (pv 2) pe_int (fun _ _ => rfl)) pe_int (fun _ _ => rfl)) pe_int (nomark _)) (pw_or1 (pt_not (pt_val (pe_call G_lisint (hr.mono (by decide)) rfl m_lisint k_lisint b_lisint .nil pass0 (pa_cons (pe_fld (pv 1) rfl) pa_nil))))))))) (pss_one (ps_ret pe_non)) pss_nil)
      (pss_cons (ps_if (PW.pt (pw_or (pt_cmpR op_ne (pe_fld (pv 1) rfl) (pe_callB call_len_seq (by rfl) B.b_len (by decide +kernel) (pa_cons (pv 2) pa_nil)) (nomark _)) (pw_or1 (pt_cmpR op_ne (pe_callB (call_lenO O_len G_slen (hr.mono (by decide)) b_slen pass0) (by rfl) B.b_len (by decide +kernel) (pa_cons (pv 1) pa_nil)) (pe_callB call_len_seq (by rfl) B.b_len (by decide +kernel) (pa_cons (pv 2) pa_nil)) (nomark _))))) (pss_one (ps_ret pe_non)) pss_nil)
      (pss_one (ps_ret (pv 2))))))), ?_⟩
    obtain ⟨dx, fx, ct, ys, SO⟩ := id SR
    refine ⟨_, rfl, _, _, _, _, true, rfl, .own CS, SO.ty TS, kit_self, true, rfl, iteF ?_⟩
    obtain ⟨df, hf⟩ := id SO.fl
    refine ⟨_, rfl, x, CS, dx, _, _, rfl, SO.ob, TS.cl, TS.nF, slf_field _ _ _, _, rfl, fun z dz nz ndz ne => mkF_go hg nz ndz ne fun H1 hz s1 => ⟨rfl, ?_⟩⟩
    have SO1 := SO.same s1
    refine ⟨fx, df, _, _, rfl, s1 _ _ hf, hz.ty TF YF, nfF, fx, .ref z, p, rfl, SO1.fl, .inl ⟨z, p, rfl, hz, _, rfl, ?_⟩⟩
    rw [decide_eq_true rfl]
    refine iteF ?_
    refine ⟨_, rfl, _, rfl, x, CS, dx, _, _, rfl, SO1.ob, TS.cl, TS.nC, slf_coef _ _ _, p, ct, ys, prs, rfl, hg, SO1.co, SO1.nu, by rw [SO.nu.len]; omega, fun l H2 s2 ra => ?_⟩
    obtain ⟨vs, hv, rv⟩ := id ra
    obtain ⟨a, r, e0, a0⟩ := SO.hd
    have lv := rv.len
    have lv0 : 0 < vs.length := by rw [lv, e0]; simp
    have lp0 : 0 < prs.length := by omega
    obtain ⟨q, eq, hq⟩ := rv.at_ _ _ _ (List.getElem?_eq_getElem lv0) (List.getElem?_eq_getElem lp0)
    have ea : prs[0] = a := by
      have : prs[0]? = some a := by rw [e0]; rfl
      rw [List.getElem?_eq_getElem lp0] at this
      exact Option.some.inj this
    refine ⟨_, rfl, rfl, _, rfl, iteF ⟨_, rfl, (by show 0 ≤ sizeLine; decide), fun e he => ?_⟩⟩
    have s3 := same_new (o := .lst []) (Same.refl H2) he
    have hv3 := s3 _ _ hv
    have sT := (s1.trans s2).trans s3
    have SO3 := SO.same sT
    have ie : vs.isEmpty = false := by
      cases vs with
      | nil => simp at lv0
      | cons _ _ => rfl
    refine ⟨l, e, vs, rfl, rfl, SqL.of hv3, SqL.of upd_same, _, rfl, ?_⟩
    rw [ie]
    refine iteF ⟨_, rfl, _, _, _, _, rfl, rfl, SqL.of hv3, at_of (j := 0) rfl (List.getElem?_eq_getElem lv0), q, _, _, _, eq, rfl, SqT.of (hq.same s3), rfl, rfl, _, rfl, itDn (by rw [ea]; simp [a0]) ?_⟩
    refine ⟨_, rfl, x, CS, dx, _, _, rfl, SO3.ob, TS.cl, TS.nK, slf_known _ _ _, _, rfl, IsTy.int _, _, rfl, iteF ?_⟩
    refine ⟨_, rfl, x, CS, dx, _, _, rfl, SO3.ob, TS.cl, TS.nK, slf_known _ _ _, _, rfl, l, vs, rfl, .inl (SqL.of hv3), rfl, _, rfl, ?_⟩
    rw [lv]
    refine itDn (by simp) ?_
    refine ⟨_, rfl, x, dx, _, rfl, SO3.ob, x, p, prs, rfl, SR.same sT, prs.length, rfl, by omega, _, rfl, l, vs, rfl, .inl (SqL.of hv3), rfl, _, rfl, ?_⟩
    rw [lv]
    refine itDn (by simp) ?_
    exact ⟨_, rfl, k l _ sT (ra.same s3)⟩
theorem sc_refused : FnScope ["_law_field", "_law_row_here", "e"] ["_law_field", "_law_row_here"] (defScope s_refused) := ⟨rfl, rfl, rfl, by decide +kernel, rfl, by decide +kernel, by decide +kernel⟩
theorem ok_refused {f C CF CS CRd CNP fNP fsinit : Addr} {fd fdsinit : FuncData} (F : Fun K "_law_refused" "_law_refused" s_refused f fd) (m_S : mg "Series" = some (.ref CS)) (m_NP : mg "NoSeries" = some (.ref CNP)) (NP : NTxF K "place" CNP fNP) (te : PySem.W.exmOne K (.ref CNP) (.ref CNP) = some true) (xf : XfC K CNP) (MS : Mk K CS fsinit)
    (G_sinit : FnOk P w K mg base (L2.CX P w) 12 fsinit fdsinit ["self", "field", "coefficients"] (spSInit K C CS CF CRd CNP)) (b_sinit : Binds K fdsinit ["self", "field", "coefficients"] []) : FnOk P w K mg base CX0 14 f fd ["_law_field", "_law_row_here"] (spRefused K C CF CRd) := by
  refine F.ok sc_refused (fun vs H Q E h => ?_) (fun cdv A outer s H vs Q E hr h => ?_)
  · obtain ⟨x, p, v, b, g, rfl, _⟩ := h
    rfl
  · obtain ⟨x, p, v, b, g, rfl, hx, hg, sr, k⟩ := h
    refine ⟨_, (pss_cons (ps_try_as (i := 2) (tb := fun W => tDrop (tMkS CS (spSInit K C CS CF CRd CNP) [] (WE W) (tCons (tVar 0) (tCons (tVar 1) tNil)))) (Wout := fun _ _ _ _ => False) rfl rfl sc_refused.nd rfl rfl ⟨rfl, by decide, Or.inl m_NP⟩ takes0
        (fun W pn xe tk _ => pss_one (ps_expr (pe_mkS MS G_sinit (hr.mono (by decide)) rfl m_S b_sinit .nil (fun σ => passAt tk σ) (pa_cons (pv 0) (pa_cons (pv 1) pa_nil)))))
        (fun a oe cls d pn hz hf => pss_one (ps_ret (pe_tup (pa_cons pe_str (pa_cons (pe_xf xf NP.nw hz hf (pv 2)) pa_nil))))))
      (pss_one (ps_ret (pe_tup (pa_cons pe_str (pa_cons pe_int pa_nil)))))), ?_⟩
    refine ⟨_, rfl, _, rfl, fun y dy ny ndy ne => ?_⟩
    have s0 : Same H (upd (upd H dy (.own y)) y (.ins CS dy [])) := same_pair ny ndy ne
    refine ⟨y, dy, x, p, v, b, g, rfl, upd_same, hx.same s0, hg, sr.same s0, fun n e H1 s1 d hd => ?_, fun prs e H1 b1 _ => ⟨rfl, ?_⟩⟩
    · refine ⟨true, te, fun _ a ha => ?_, fun q => Bool.noConfusion q⟩
      refine ⟨_, rfl, rfl, rfl, d, _, _, rfl, upd_same, rfl, (by show 2 ≤ sizeLine; decide), fun q hq => ?_⟩
      refine k q _ (same_new (same_new (s0.trans s1) hd) hq) ?_
      rw [e]
      exact upd_same
    · refine ⟨(by show 2 ≤ sizeLine; decide), fun q hq => ?_⟩
      refine k q _ (same_new (same_made ny ndy b1) hq) ?_
      rw [e]
      exact upd_same
theorem sc_further : FnScope ["_law_series", "_law_numbers", "e"] ["_law_series", "_law_numbers"] (defScope s_further) := ⟨rfl, rfl, rfl, by decide +kernel, rfl, by decide +kernel, by decide +kernel⟩
theorem ok_further {f C CF CS CNP fNP fsthen : Addr} {fd fdsthen : FuncData} (F : Fun K "_law_further" "_law_further" s_further f fd) (TS : STx K CS) (m_NP : mg "NoSeries" = some (.ref CNP)) (NP : NTxF K "place" CNP fNP) (te : PySem.W.exmOne K (.ref CNP) (.ref CNP) = some true) (xf : XfC K CNP) (Me_then : Meth K CS "then" fsthen)
    (G_sthen : FnOk P w K mg base (L2.CX P w) 14 fsthen fdsthen ["self", "numbers"] (spSThen K C CS CF CNP)) (b_sthen : Binds K fdsthen ["self", "numbers"] []) : FnOk P w K mg base CX0 15 f fd ["_law_series", "_law_numbers"] (spFurther K C CS CF) := by
  refine F.ok sc_further (fun vs H Q E h => ?_) (fun cdv A outer s H vs Q E hr h => ?_)
  · obtain ⟨x, p, v, prs, g, rfl, _⟩ := h
    rfl
  · obtain ⟨x, p, v, prs, g, rfl, SR, hg, l79, tr, k⟩ := h
    refine ⟨_, (pss_cons (ps_try_as (i := 2) (tb := fun W => tDrop (tMtS CS "then" (spSThen K C CS CF CNP) (WE W) (tVar 0) (tCons (tVar 1) tNil))) (Wout := fun _ _ _ _ => False) rfl rfl sc_further.nd rfl rfl ⟨rfl, by decide, Or.inl m_NP⟩ takes0
        (fun W pn xe tk _ => pss_one (ps_expr (pe_mtS (pv 0) TS.cl Me_then G_sthen (hr.mono (by decide)) b_sthen (fun σ => passAt tk σ) (pa_cons (pv 1) pa_nil))))
        (fun a oe cls d pn hz hf => pss_one (ps_ret (pe_tup (pa_cons pe_str (pa_cons (pe_xf xf NP.nw hz hf (pv 2)) pa_nil))))))
      (pss_one (ps_ret (pe_tup (pa_cons pe_str (pa_cons pe_int pa_nil)))))), ?_⟩
    obtain ⟨dx, fx, ct, ys, SO⟩ := id SR
    refine ⟨_, rfl, x, dx, _, rfl, SO.ob, slf_no _ _ _ (by decide +kernel) (by decide +kernel) (by decide +kernel), _, rfl, x, v, p, prs, g, rfl, SR, hg, l79, tr, fun n e H1 s1 d hd => ?_, fun more e y H1 s1 _ => ?_⟩
    · refine ⟨true, te, fun _ a ha => ?_, fun q => Bool.noConfusion q⟩
      refine ⟨_, rfl, rfl, rfl, d, _, _, rfl, upd_same, rfl, (by show 2 ≤ sizeLine; decide), fun q hq => ?_⟩
      refine k q _ (same_new (same_new s1 hd) hq) ?_
      rw [e]
      exact upd_same
    · refine ⟨(by show 2 ≤ sizeLine; decide), fun q hq => ?_⟩
      refine k q _ (same_new s1 hq) ?_
      rw [e]
      exact upd_same
theorem sc_counted : FnScope ["_law_series", "_law_count"] ["_law_series", "_law_count"] (defScope s_counted) := ⟨rfl, rfl, rfl, by decide +kernel, rfl, by decide +kernel, by decide +kernel⟩
theorem ok_counted {f C CF CS CNC fsfirst : Addr} {fd fdsfirst : FuncData} (F : Fun K "_law_counted" "_law_counted" s_counted f fd) (TS : STx K CS) (m_NC : mg "NoCount" = some (.ref CNC)) (te : PySem.W.exmOne K (.ref CNC) (.ref CNC) = some true) (Me_first : Meth K CS "first" fsfirst)
    (G_sfirst : FnOk P w K mg base (L2.CX P w) 14 fsfirst fdsfirst ["self", "count"] (spSFirst K C CS CF CNC)) (b_sfirst : Binds K fdsfirst ["self", "count"] []) : FnOk P w K mg base CX0 15 f fd ["_law_series", "_law_count"] (spCounted K C CS CF) := by
  refine F.ok sc_counted (fun vs H Q E h => ?_) (fun cdv A outer s H vs Q E hr h => ?_)
  · obtain ⟨x, p, prs, v, rfl, _⟩ := h
    rfl
  · obtain ⟨x, p, prs, v, rfl, SR, hg, tv, nr, k⟩ := h
    refine ⟨_, (pss_cons (ps_try_only (tb := fun W => tDrop (tMtS CS "first" (spSFirst K C CS CF CNC) (WE W) (tVar 0) (tCons (tVar 1) tNil))) (Wout := fun _ _ _ _ => False) rfl rfl ⟨rfl, by decide, Or.inl m_NC⟩ takes0
        (fun W pn xe tk _ => pss_one (ps_expr (pe_mtS (pv 0) TS.cl Me_first G_sfirst (hr.mono (by decide)) b_sfirst (fun σ => passAt tk σ) (pa_cons (pv 1) pa_nil))))
        (fun a oe cls d pn hz hf => pss_one (ps_ret pe_str)))
      (pss_one (ps_ret pe_str))), ?_⟩
    obtain ⟨dx, fx, ct, ys, SO⟩ := id SR
    refine ⟨_, rfl, x, dx, _, rfl, SO.ob, slf_no _ _ _ (by decide +kernel) (by decide +kernel) (by decide +kernel), _, rfl, x, v, p, prs, rfl, SR, hg, tv, fun _ => ?_, fun kk e k1 k2 => ?_⟩
    · exact ⟨true, te, fun _ a ha => k H (Same.refl H), fun q => Bool.noConfusion q⟩
    · rw [e] at nr
      have : (decide (1 ≤ ((kk : Nat) : Int)) && decide (((kk : Nat) : Int) ≤ (prs.length : Int))) = false := nr
      rw [decide_eq_true (by omega), decide_eq_true (by omega)] at this
      cases this
end
end Sq

namespace Sq
open PySem L2 PyProof.Rows
abbrev s_refusals : Stmt := top 68
abbrev s_more : Stmt := top 69
theorem fit01 : Fit 0 := Nat.lt_of_lt_of_le (show (0 : Int).natAbs < 2 ^ 1 from by decide) (Nat.pow_le_pow_right (by decide) (by decide))
theorem nrm0 {p : Int} : nrm p 0 = 0 := by
  unfold nrm
  split
  · rfl
  · exact Int.zero_emod p
theorem head_made {prs : List (Int × Int)} (h : ∃ a r, prs = a :: r ∧ a.1 ≠ 0) : toldG (headG (.inr prs)) = [.str "made", .int 0] := by
  rw [head_ok h]
  rfl
theorem head_zero {a : Int × Int} {r : List (Int × Int)} (h : a.1 = 0) : toldG (headG (.inr (a :: r))) = [.str "refused", .int 0] := by
  have e : headG (.inr (a :: r)) = .inl 0 := if_pos h
  rw [e]
  rfl
theorem givs_repm {K : PySem.W.Frag} {C : Addr} {H : Hp} {p : Int} {n : Nat} {v : V} {a : Int × Int} (g : Giv K C H p v (some a)) : Givs K C H p (List.replicate n v) ((List.replicate n a).map some) := by
  rw [List.map_replicate]
  exact givs_rep g
theorem Givs.nil {K : PySem.W.Frag} {C : Addr} {H : Hp} {p : Int} : Givs K C H p [] [] := ⟨rfl, fun i x o e => by simp at e⟩
theorem Givs.cons {K : PySem.W.Frag} {C : Addr} {H : Hp} {p : Int} {xs : List V} {os : List (Option (Int × Int))} {v : V} {o : Option (Int × Int)} (h : Givs K C H p xs os) (g : Giv K C H p v o) : Givs K C H p (v :: xs) (o :: os) := by
  refine ⟨by rw [List.length_cons, List.length_cons, h.len], fun i x o' e1 e2 => ?_⟩
  cases i with
  | zero =>
    simp at e1 e2
    rw [← e1, ← e2]
    exact g
  | succ i => exact h.at_ i x o' (by simpa using e1) (by simpa using e2)
theorem Givs.drop1 {K : PySem.W.Frag} {C : Addr} {H : Hp} {p : Int} {xs : List V} {os : List (Option (Int × Int))} (h : Givs K C H p xs os) : Givs K C H p (xs.drop 1) (os.drop 1) := by
  refine ⟨by rw [List.length_drop, List.length_drop, h.len], fun i x o' e1 e2 => ?_⟩
  rw [List.getElem?_drop] at e1 e2
  exact h.at_ _ x o' e1 e2
theorem gdrop {K : PySem.W.Frag} {C : Addr} {H : Hp} {p : Int} {xs : List V} {prs : List (Int × Int)} (h : Givs K C H p xs (prs.map some)) : Givs K C H p (xs.drop 1) ((prs.drop 1).map some) := by
  rw [List.map_drop]
  exact h.drop1
theorem drop_cut (ys : List V) : cutV ys (some 1) none = ys.drop 1 := by
  show cutV ys (some ((1 : Nat) : Int)) none = _
  unfold cutV
  rw [HT.sIx_none, HT.sIx_nat]
  by_cases h : 1 ≤ ys.length
  · rw [Nat.min_eq_left h]
    exact List.take_of_length_le (by rw [List.length_drop]; exact Nat.le_refl _)
  · have : ys = [] := List.eq_nil_of_length_eq_zero (by omega)
    subst this
    rfl
theorem nrmp {p : Int} : nrm p p = 0 := by
  unfold nrm
  split
  · assumption
  · exact Int.emod_self
theorem pre_front {a : Int × Int} (prs : List (Int × Int)) {j : Nat} (h0 : 1 ≤ j) (h : j < prs.length) : (pre (some a :: ((prs.map some).set j none).drop 1)).length = j := by
  refine pre_at (fun k hk => ?_) ?_
  · cases k with
    | zero => exact ⟨a, rfl⟩
    | succ k =>
      rw [List.getElem?_cons_succ, List.getElem?_drop, List.getElem?_set_ne (by omega), List.getElem?_map, List.getElem?_eq_getElem (by omega)]
      exact ⟨_, rfl⟩
  · obtain ⟨i, rfl⟩ : ∃ i, j = i + 1 := ⟨j - 1, by omega⟩
    rw [List.getElem?_cons_succ, List.getElem?_drop, Nat.add_comm 1 i]
    exact List.getElem?_set_self (by simpa using h)
def spMore (K : PySem.W.Frag) (C CS CF : Addr) : Sp := fun vs H Q _ => ∃ (y : Addr) (p : Int) (th : V) (prs : List (Int × Int)), vs = [.ref y, th] ∧ Ser C CS CF H y p prs ∧ goodP p = true ∧ prs.length ≤ 79 ∧ ∀ H', Same H H' → Q (.bl true) H'
def spRefusals (K : PySem.W.Frag) (C CF : Addr) : Sp := fun vs H Q _ => ∃ (x gl : Addr) (p a b od : Int) (xs : List V) (prs : List (Int × Int)), vs = [.ref x, .int p, .ref gl, .int a, .int b, .int od] ∧ FldAt CF H x p ∧ goodP p = true ∧ H gl = some (.lst xs) ∧ 1 ≤ xs.length ∧ xs.length ≤ 32 ∧ Givs K C H p xs (prs.map some) ∧ (∃ a r, prs = a :: r ∧ a.1 ≠ 0) ∧ 0 ≤ od ∧ od < 7 ∧ ∀ H', Same H H' → Q (.bl true) H'
section
variable {P : Program} {w : World} {K : PySem.W.Frag} {mg : Str → Option Value} {base : Heap}
theorem sc_more : FnScope ["_law_series", "_law_thing", "_law_wrong", "_law_room", "_law_count"] ["_law_series", "_law_thing"] (defScope s_more) := ⟨rfl, rfl, rfl, by decide +kernel, rfl, by decide +kernel, by decide +kernel⟩
theorem ok_more {f C CS CF CN fR fslen ffurther fcounted : Addr} {fd fdR fdslen fdfurther fdcounted : FuncData} {dsR : List Value} (F : Fun K "_law_more_refusals" "_law_more_refusals" s_more f fd) (B : QTx mg) (T : CTx K C) (Y : ITy K C) (O_len : OwnOp K CS fslen "__len__") (G_slen : FnOk P w K mg base CX0 1 fslen fdslen ["self"] (spSLen C CS CF)) (b_slen : Binds K fdslen ["self"] []) (m_C : mg "Ratio" = some (.ref C)) (M : Mk K C fR)
    (G_R : FnOk P w K mg base (L2.CX P w) 3 fR fdR ["self", "top", "bottom"] (spRatioInit K C CN)) (b_R1 : Binds K fdR ["self", "top", "bottom"] dsR) (v1 : Vals [.int 1] dsR)
    (G_further : FnOk P w K mg base CX0 15 ffurther fdfurther ["_law_series", "_law_numbers"] (spFurther K C CS CF)) (m_further : mg "_law_further" = some (.ref ffurther)) (k_further : PySem.W.keepIn K (.ref ffurther) = true) (b_further : Binds K fdfurther ["_law_series", "_law_numbers"] [])
    (G_counted : FnOk P w K mg base CX0 15 fcounted fdcounted ["_law_series", "_law_count"] (spCounted K C CS CF)) (m_counted : mg "_law_counted" = some (.ref fcounted)) (k_counted : PySem.W.keepIn K (.ref fcounted) = true) (b_counted : Binds K fdcounted ["_law_series", "_law_count"] []) : FnOk P w K mg base CX0 16 f fd ["_law_series", "_law_thing"] (spMore K C CS CF) := by
  refine F.ok sc_more (fun vs H Q E h => ?_) (fun cdv A outer s H vs Q E hr h => ?_)
  · obtain ⟨y, p, th, prs, rfl, _⟩ := h
    rfl
  · obtain ⟨y, p, th, prs, rfl, SR, hg, l79, k⟩ := h
    refine ⟨_, (pss_cons (ps_for PassesOwn.never rfl (pi_list (pe_lst (pa_cons pe_str (pa_cons pe_non (pa_cons pe_int (pa_cons pe_dnewK pa_nil)))))) (pg_name (i := 2) sc_more.nd rfl (Or.inl rfl)) (pss_one (ps_if (pt_cmpR (op_neD hr.units) (pe_call G_further (hr.mono (by decide)) rfl m_further k_further b_further .nil pass0 (pa_cons (pv 0) (pa_cons (pv 2) pa_nil))) (pe_tup (pa_cons pe_str (pa_cons (pe_un un_neg pe_int) pa_nil))) (nomark _))
        (pss_one (ps_ret pe_bl))
        pss_nil)))
      (C8.pss_cut (ps_set (i := 3) sc_more.nd rfl (Or.inl rfl) (pe_op op_sub pe_int (pe_callB (call_lenO O_len G_slen (hr.mono (by decide)) b_slen pass0) (by rfl) B.b_len (by decide +kernel) (pa_cons (pv 0) pa_nil))))
      (pss_cons (ps_if (PW.pt (pw_or (pt_cmpR (op_neD hr.units) (pe_call G_further (hr.mono (by decide)) rfl m_further k_further b_further .nil pass0 (pa_cons (pv 0) (pa_cons (pe_op op_rep (pe_lst (pa_cons pe_int pa_nil)) (pv 3)) pa_nil))) (pe_tup (pa_cons pe_str (pa_cons pe_int pa_nil))) (nomark _)) (pw_or1 (pt_cmpR (op_neD hr.units) (pe_call G_further (hr.mono (by decide)) rfl m_further k_further b_further .nil pass0 (pa_cons (pv 0) (pa_cons (pe_op op_rep (pe_lst (pa_cons pe_int pa_nil)) (pe_op op_add (pv 3) pe_int)) pa_nil))) (pe_tup (pa_cons pe_str (pa_cons (pe_un un_neg pe_int) pa_nil))) (nomark _)))))
        (pss_one (ps_ret pe_bl))
        pss_nil)
      (pss_cons (ps_if (pt_cmpR (op_neD hr.units) (pe_call G_further (hr.mono (by decide)) rfl m_further k_further b_further .nil pass0 (pa_cons (pv 0) (pa_cons (pe_op op_rep (pe_lst (pa_cons (pv 1) pa_nil)) (pe_op op_add (pv 3) pe_int)) pa_nil))) (pe_tup (pa_cons pe_str (pa_cons (pe_un un_neg pe_int) pa_nil))) (nomark _))
        (pss_one (ps_ret pe_bl))
        pss_nil)
      (pss_cons (ps_for PassesOwn.never rfl (pi_list (pe_lst (pa_cons pe_int (pa_cons (pe_un un_neg pe_int) (pa_cons (pe_op op_add (pe_callB (call_lenO O_len G_slen (hr.mono (by decide)) b_slen pass0) (by rfl) B.b_len (by decide +kernel) (pa_cons (pv 0) pa_nil)) pe_int) (pa_cons pe_bl (pa_cons pe_non (pa_cons pe_str (pa_cons (pe_make M G_R (hr.mono (by decide)) rfl m_C b_R1 v1 passL (pa_cons pe_int pa_nil)) pa_nil))))))))) (pg_name (i := 4) sc_more.nd rfl (Or.inl rfl)) (pss_one (ps_if (pt_cmpR op_ne (pe_call G_counted (hr.mono (by decide)) rfl m_counted k_counted b_counted .nil pass0 (pa_cons (pv 0) (pa_cons (pv 4) pa_nil))) pe_str (nomark _))
        (pss_one (ps_ret pe_bl))
        pss_nil)))
      (pss_one (ps_ret pe_bl))))))), ?_⟩
    have e24 : (sizeLine : Nat) = 16777216 := sizeLine_eq
    -- what is no row
    refine fun d2 hd2 => ⟨(by show 4 ≤ sizeLine; decide), fun lw hlw => ⟨lw, rfl, ⟨_, SqL.of upd_same⟩, ?_⟩⟩
    have w1 := same_new (o := .dK []) (Same.refl H) hd2
    have w4 := same_new (o := .lst [.str "123", .non, .int 5, .ref d2]) (Same.refl _) hlw
    have s3 := w1.trans w4
    have eD := w4 _ _ upd_same
    have eL := upd_same (H := (upd H d2 (.dK []))) (a := lw) (o := .lst [.str "123", .non, .int 5, .ref d2])
    generalize upd (upd H d2 (.dK [])) lw (.lst [.str "123", .non, .int 5, .ref d2]) = H3 at *
    have all : ∀ v ∈ ([.str "123", .non, .int 5, .ref d2] : List V), IsQ K H3 v false := by
      intro v hv
      simp only [List.mem_cons, List.not_mem_nil, or_false] at hv
      rcases hv with rfl | rfl | rfl | rfl
      · exact (IsQ.ty (.base (.str _)) (kit_ty (by decide +kernel)) (kit_ty (by decide +kernel)))
      · exact (IsQ.ty (.base .non) (kit_ty (by decide +kernel)) (kit_ty (by decide +kernel)))
      · exact (IsQ.ty (.base (.int _)) (kit_ty (by decide +kernel)) (kit_ty (by decide +kernel)))
      · exact (IsQ.ty (.base (.dK eD)) (kit_ty (by decide +kernel)) (kit_ty (by decide +kernel)))
    refine for_list (xs := [.str "123", .non, .int 5, .ref d2]) (fun i σ H' => ∃ z, σ = [some (.ref y), some th, z, none, none] ∧ Same H3 H') ⟨none, rfl, Same.refl _⟩ (fun i σ H' _ h => ?_) ?_ ?_
    · obtain ⟨z, _, s4⟩ := h
      exact SqL.of (s4 _ _ eL)
    · rintro i v σ H4 hi ⟨z, rfl, s4⟩
      have sv := all v (List.mem_of_getElem? hi)
      refine ⟨_, rfl, _, rfl, y, p, v, prs, .inl (-1), rfl, SR.same (s3.trans s4), hg, l79, .no (sv.same s4), fun q5 H5 s5 hq5 => ⟨_, rfl, (by show 2 ≤ sizeLine; decide), fun q6 hq6 => ?_⟩⟩
      have t6 := same_new (o := .tup [.str "refused", .int (-1)]) (Same.refl H5) hq6
      exact ne_same (t6 _ _ hq5) upd_same ⟨_, rfl, iteF ⟨_, rfl, (s4.trans s5).trans t6⟩⟩
    rintro σ H4 ⟨z, rfl, s4⟩
    have T0 := s3.trans s4
    obtain ⟨rm, erm⟩ : ∃ rm : Nat, rm = 79 - prs.length := ⟨_, rfl⟩
    refine ⟨fun σ H' => σ = [some (.ref y), some th, z, some (.int (rm : Int)), none] ∧ H' = H4, ?_, ?_⟩
    · have SR4 := SR.same T0
      obtain ⟨dx, fx, ct, ys, SO⟩ := id SR4
      refine ⟨_, rfl, y, dx, _, rfl, SO.ob, y, p, prs, rfl, SR4, prs.length, rfl, by omega, _, _, rfl, rfl, ?_, rfl⟩
      have e : (79 : Int) - (prs.length : Int) = (rm : Int) := by omega
      rw [← e]
      rfl
    rintro σ H4' ⟨rfl, rfl⟩
    refine ⟨_, rfl, (by show 1 ≤ sizeLine; decide), fun ra1 hra1 => ⟨_, rfl, _, (rm : Int), _, rfl, rfl, upd_same, by omega, by omega, (by show 1 * ((rm : Int) : Int).toNat ≤ sizeLine; rw [e24]; omega), fun rb1 hrb1 => ?_⟩⟩
    rw [show (((rm : Int) : Int).toNat) = rm from by omega, rep_one]
    have P1 := ((T0).trans (same_new (o := .lst [.int 0]) (Same.refl _) hra1)).trans (same_new (o := .lst (List.replicate (rm) (.int 0))) (Same.refl _) hrb1)
    refine ⟨y, p, _, prs, _, rfl, SR.same P1, hg, l79, .row (prs := List.replicate rm (nrm p 0, 1)) (.inl upd_same) (by rw [List.length_replicate]; omega) (givs_repm (giv_int hg fit01)), fun qa1 Ha1 sa1 hqa1 => ⟨(by show 2 ≤ sizeLine; decide), fun qb1 hqb1 => ?_⟩⟩
    have ta1 := same_new (o := .tup [.str "made", .int 0]) (Same.refl Ha1) hqb1
    refine ne_same (s := "made") (n := 0) (ta1 _ _ hqa1) upd_same ⟨_, rfl, iteF ?_⟩
    have T1 := (P1.trans sa1).trans ta1
    refine ⟨_, rfl, (by show 1 ≤ sizeLine; decide), fun ra2 hra2 => ⟨_, rfl, _, _, rfl, rfl, _, ((rm + 1 : Nat) : Int), _, rfl, rfl, upd_same, by omega, by omega, (by show 1 * (((rm + 1 : Nat) : Int) : Int).toNat ≤ sizeLine; rw [e24]; omega), fun rb2 hrb2 => ?_⟩⟩
    rw [show ((((rm + 1 : Nat) : Int) : Int).toNat) = rm + 1 from by omega, rep_one]
    have P2 := ((T1).trans (same_new (o := .lst [.int 0]) (Same.refl _) hra2)).trans (same_new (o := .lst (List.replicate (rm + 1) (.int 0))) (Same.refl _) hrb2)
    refine ⟨y, p, _, prs, _, rfl, SR.same P2, hg, l79, .size (.inl upd_same) (by rw [List.length_replicate]; omega), fun qa2 Ha2 sa2 hqa2 => ⟨_, rfl, (by show 2 ≤ sizeLine; decide), fun qb2 hqb2 => ?_⟩⟩
    have ta2 := same_new (o := .tup [.str "refused", .int (-1)]) (Same.refl Ha2) hqb2
    refine ne_same (s := "refused") (n := (-1)) (ta2 _ _ hqa2) upd_same ⟨_, rfl, iteF ?_⟩
    have T2 := (P2.trans sa2).trans ta2
    refine ⟨_, rfl, _, rfl, (by show 1 ≤ sizeLine; decide), fun ra3 hra3 => ⟨_, rfl, _, _, rfl, rfl, _, ((rm + 1 : Nat) : Int), _, rfl, rfl, upd_same, by omega, by omega, (by show 1 * (((rm + 1 : Nat) : Int) : Int).toNat ≤ sizeLine; rw [e24]; omega), fun rb3 hrb3 => ?_⟩⟩
    rw [show ((((rm + 1 : Nat) : Int) : Int).toNat) = rm + 1 from by omega, rep_one]
    have P3 := ((T2).trans (same_new (o := .lst [th]) (Same.refl _) hra3)).trans (same_new (o := .lst (List.replicate (rm + 1) (th))) (Same.refl _) hrb3)
    refine ⟨y, p, _, prs, _, rfl, SR.same P3, hg, l79, .size (.inl upd_same) (by rw [List.length_replicate]; omega), fun qa3 Ha3 sa3 hqa3 => ⟨_, rfl, (by show 2 ≤ sizeLine; decide), fun qb3 hqb3 => ?_⟩⟩
    have ta3 := same_new (o := .tup [.str "refused", .int (-1)]) (Same.refl Ha3) hqb3
    refine ne_same (s := "refused") (n := (-1)) (ta3 _ _ hqa3) upd_same ⟨_, rfl, iteF ?_⟩
    have T3 := (P3.trans sa3).trans ta3
    have SR5 := SR.same T3
    generalize upd Ha3 qb3 (HO.tup [.str "refused", .int (-1)]) = H5 at *
    obtain ⟨dx, fx, ct, ys, SO⟩ := id SR5
    refine ⟨_, rfl, _, rfl, y, dx, _, rfl, SO.ob, y, p, prs, rfl, SR5, prs.length, rfl, by omega, _, _, rfl, rfl, fun r dr nr ndr ne => mk_go (by decide) (fit_up fit_one) nr ndr ne fun t u H6 Lr Rr s6 => ⟨rfl, (by show 7 ≤ sizeLine; decide), fun lc hlc => ⟨lc, rfl, ⟨_, SqL.of upd_same⟩, ?_⟩⟩⟩
    have sw : Same H6 (upd H6 lc (.lst [V.int 0, V.int (-1), V.int ((prs.length : Int) + 1), V.bl true, V.non, V.str "1", V.ref r])) := same_new (Same.refl H6) hlc
    have ew := upd_same (H := H6) (a := lc) (o := .lst [V.int 0, V.int (-1), V.int ((prs.length : Int) + 1), V.bl true, V.non, V.str "1", V.ref r])
    have allw : ∀ v ∈ [V.int 0, V.int (-1), V.int ((prs.length : Int) + 1), V.bl true, V.non, V.str "1", V.ref r], IsTy K H6 v ∧ inR v 1 (prs.length : Int) = false := by
      intro v hv
      simp only [List.mem_cons, List.not_mem_nil, or_false] at hv
      rcases hv with rfl | rfl | rfl | rfl | rfl | rfl | rfl
      · exact ⟨.int _, rfl⟩
      · exact ⟨.int _, rfl⟩
      · refine ⟨.int _, ?_⟩
        show (decide (1 ≤ (prs.length : Int) + 1) && decide ((prs.length : Int) + 1 ≤ (prs.length : Int))) = false
        rw [decide_eq_false (p := (prs.length : Int) + 1 ≤ (prs.length : Int)) (by omega), Bool.and_false]
      · exact ⟨.bl _, rfl⟩
      · exact ⟨.non, rfl⟩
      · exact ⟨.str _, rfl⟩
      · exact ⟨Rr.isTy T Y, rfl⟩
    have u6 := s6.trans sw
    generalize upd H6 lc (.lst [V.int 0, V.int (-1), V.int ((prs.length : Int) + 1), V.bl true, V.non, V.str "1", V.ref r]) = HW at *
    refine for_list (xs := [V.int 0, V.int (-1), V.int ((prs.length : Int) + 1), V.bl true, V.non, V.str "1", V.ref r]) (fun i σ H' => ∃ z2, σ = [some (.ref y), some th, z, some (.int (rm : Int)), z2] ∧ Same HW H') ⟨_, rfl, Same.refl _⟩ (fun i σ H' _ h => ?_) ?_ ?_
    · obtain ⟨z, _, s4⟩ := h
      exact SqL.of (s4 _ _ ew)
    · rintro i v σ H7 hi ⟨z2, rfl, s7⟩
      obtain ⟨tv, nv⟩ := allw v (List.mem_of_getElem? hi)
      refine ⟨_, rfl, _, rfl, y, p, prs, v, rfl, SR5.same (u6.trans s7), hg, tv.same (sw.trans s7), nv, fun H8 s8 => ⟨rfl, _, rfl, itDn (by simp) ⟨_, rfl, s7.trans s8⟩⟩⟩
    rintro σ H7 ⟨z2, rfl, s7⟩
    exact k H7 (T3.trans (u6.trans s7))
theorem sc_refusals : FnScope ["_law_field", "_law_prime_here", "_law_given_here", "_law_first", "_law_second", "_law_odd", "_law_strange", "_law_wrong", "_law_at", "_law_other", "_law_spoilt", "_law_series"] ["_law_field", "_law_prime_here", "_law_given_here", "_law_first", "_law_second", "_law_odd"] (defScope s_refusals) := ⟨rfl, rfl, rfl, by decide +kernel, rfl, by decide +kernel, by decide +kernel⟩
theorem ok_refusals {f C CF CS CRd CN CNP fR fsinit frefused ffurther fmore : Addr} {fd fdR fdsinit fdrefused fdfurther fdmore : FuncData} (F : Fun K "_law_refusals" "_law_refusals" s_refusals f fd) (D : DTx mg) (B : QTx mg) (b_min : mg "min" = none) (T : CTx K C) (Y : ITy K C) (Z : KZx K C) (Z3 : KZ3 K C) (R : KRd K C CRd) (m_C : mg "Ratio" = some (.ref C)) (M : Mk K C fR)
    (G_R : FnOk P w K mg base (L2.CX P w) 3 fR fdR ["self", "top", "bottom"] (spRatioInit K C CN)) (b_R : Binds K fdR ["self", "top", "bottom"] [])
    (m_S : mg "Series" = some (.ref CS)) (MS : Mk K CS fsinit) (G_sinit : FnOk P w K mg base (L2.CX P w) 12 fsinit fdsinit ["self", "field", "coefficients"] (spSInit K C CS CF CRd CNP)) (b_sinit : Binds K fdsinit ["self", "field", "coefficients"] [])
    (G_refused : FnOk P w K mg base CX0 14 frefused fdrefused ["_law_field", "_law_row_here"] (spRefused K C CF CRd)) (m_refused : mg "_law_refused" = some (.ref frefused)) (k_refused : PySem.W.keepIn K (.ref frefused) = true) (b_refused : Binds K fdrefused ["_law_field", "_law_row_here"] [])
    (G_further : FnOk P w K mg base CX0 15 ffurther fdfurther ["_law_series", "_law_numbers"] (spFurther K C CS CF)) (m_further : mg "_law_further" = some (.ref ffurther)) (k_further : PySem.W.keepIn K (.ref ffurther) = true) (b_further : Binds K fdfurther ["_law_series", "_law_numbers"] [])
    (G_more : FnOk P w K mg base CX0 16 fmore fdmore ["_law_series", "_law_thing"] (spMore K C CS CF)) (m_more : mg "_law_more_refusals" = some (.ref fmore)) (k_more : PySem.W.keepIn K (.ref fmore) = true) (b_more : Binds K fdmore ["_law_series", "_law_thing"] []) : FnOk P w K mg base CX0 17 f fd ["_law_field", "_law_prime_here", "_law_given_here", "_law_first", "_law_second", "_law_odd"] (spRefusals K C CF) := by
  refine F.ok sc_refusals (fun vs H Q E h => ?_) (fun cdv A outer s H vs Q E hr h => ?_)
  · obtain ⟨x, gl, p, a, b, od, xs, prs, rfl, _⟩ := h
    rfl
  · obtain ⟨x, gl, p, a, b, od, xs, prs, rfl, hx, hg, hgl, n1, n32, gv, hd0, o0, o7, k⟩ := h
    refine ⟨_, (pss_cons (ps_set (i := 6) sc_refusals.nd rfl (Or.inl rfl) (pe_lst (pa_cons pe_str (pa_cons pe_bl (pa_cons pe_non (pa_cons (pe_lst (pa_cons pe_int pa_nil)) (pa_cons (pe_tup pa_nil) (pa_cons pe_str (pa_cons pe_dnewK pa_nil)))))))))
      (C8.pss_cut (ps_if (pt_cmpR op_gt (pv 1) pe_int (nomark _))
        (pss_one (ps_asg (pe_make M G_R (hr.mono (by decide)) rfl m_C b_R .nil passL (pa_cons pe_int (pa_cons (pv 1) pa_nil))) (pg_sub (pv 6) pe_int set_list)))
        pss_nil)
      (pss_cons (ps_for PassesOwn.never rfl (pi_list (pe_lst (pa_cons pe_str (pa_cons pe_non (pa_cons pe_int (pa_cons pe_dnewK (pa_cons (pe_lst pa_nil) (pa_cons (pe_tup pa_nil) pa_nil)))))))) (pg_name (i := 7) sc_refusals.nd rfl (Or.inl rfl)) (pss_one (ps_if (pt_cmpR (op_neD hr.units) (pe_call G_refused (hr.mono (by decide)) rfl m_refused k_refused b_refused .nil pass0 (pa_cons (pv 0) (pa_cons (pv 7) pa_nil))) (pe_tup (pa_cons pe_str (pa_cons (pe_un un_neg pe_int) pa_nil))) (nomark _))
        (pss_one (ps_ret pe_bl))
        pss_nil)))
      (pss_cons (ps_if (PW.pt (pw_or (pt_cmpR (op_neD hr.units) (pe_call G_refused (hr.mono (by decide)) rfl m_refused k_refused b_refused .nil pass0 (pa_cons (pv 0) (pa_cons (pe_op op_rep (pe_lst (pa_cons pe_int pa_nil)) pe_int) pa_nil))) (pe_tup (pa_cons pe_str (pa_cons pe_int pa_nil))) (nomark _)) (pw_or1 (pt_cmpR (op_neD hr.units) (pe_call G_refused (hr.mono (by decide)) rfl m_refused k_refused b_refused .nil pass0 (pa_cons (pv 0) (pa_cons (pe_op op_rep (pe_lst (pa_cons pe_int pa_nil)) pe_int) pa_nil))) (pe_tup (pa_cons pe_str (pa_cons (pe_un un_neg pe_int) pa_nil))) (nomark _)))))
        (pss_one (ps_ret pe_bl))
        pss_nil)
      (pss_cons (ps_if (PW.pt (pw_or (pt_cmpR (op_neD hr.units) (pe_call G_refused (hr.mono (by decide)) rfl m_refused k_refused b_refused .nil pass0 (pa_cons (pv 0) (pa_cons (pe_op op_rep (pe_lst (pa_cons pe_str pa_nil)) pe_int) pa_nil))) (pe_tup (pa_cons pe_str (pa_cons (pe_un un_neg pe_int) pa_nil))) (nomark _)) (pw_or1 (pt_cmpR (op_neD hr.units) (pe_call G_refused (hr.mono (by decide)) rfl m_refused k_refused b_refused .nil pass0 (pa_cons (pv 0) (pa_cons (pe_lst (pa_cons pe_int (pa_cons pe_int pa_nil))) pa_nil))) (pe_tup (pa_cons pe_str (pa_cons pe_int pa_nil))) (nomark _)))))
        (pss_one (ps_ret pe_bl))
        pss_nil)
      (pss_cons (ps_if (PW.pt (pw_or (pt_cmpR (op_neD hr.units) (pe_call G_refused (hr.mono (by decide)) rfl m_refused k_refused b_refused .nil pass0 (pa_cons (pv 0) (pa_cons (pe_op op_cat (pe_lst (pa_cons (pv 1) pa_nil)) (pe_slice sl_list (pv 2) (po_some pe_int) po_none)) pa_nil))) (pe_tup (pa_cons pe_str (pa_cons pe_int pa_nil))) (nomark _)) (pw_or1 (pt_cmpR (op_neD hr.units) (pe_call G_refused (hr.mono (by decide)) rfl m_refused k_refused b_refused .nil pass0 (pa_cons (pv 0) (pa_cons (pv 2) pa_nil))) (pe_tup (pa_cons pe_str (pa_cons pe_int pa_nil))) (nomark _)))))
        (pss_one (ps_ret pe_bl))
        pss_nil)
      (pss_cons (ps_par (i := 8) (j := 9) (by rfl) sc_refusals.nd rfl rfl (by decide) rfl rfl (pa_cons (pe_op op_mod (pe_callTy call_int1 (by rfl) D.b_int (by decide +kernel) (pa_cons (pv 3) pa_nil)) (pe_callB call_len_seq (by rfl) B.b_len (by decide +kernel) (pa_cons (pv 2) pa_nil))) (pa_cons (pe_op op_mod (pe_callTy call_int1 (by rfl) D.b_int (by decide +kernel) (pa_cons (pv 4) pa_nil)) (pe_callB call_len_seq (by rfl) B.b_len (by decide +kernel) (pa_cons (pv 2) pa_nil))) pa_nil)) (by rfl))
      (pss_cons (ps_set (i := 10) sc_refusals.nd rfl (Or.inl rfl) (pe_callTy call_list_of (by rfl) B.b_list (by decide +kernel) (pa_cons (pv 2) pa_nil)))
      (pss_cons (ps_asg (pe_ix ix_list (pv 6) (pv 5) (fun _ _ => rfl)) (pg_sub (pv 10) (pv 8) set_list))
      (pss_cons (ps_if (PW.pt (pw_or (pt_cmpR (op_neD hr.units) (pe_call G_refused (hr.mono (by decide)) rfl m_refused k_refused b_refused .nil pass0 (pa_cons (pv 0) (pa_cons (pv 10) pa_nil))) (pe_tup (pa_cons pe_str (pa_cons (pv 8) pa_nil))) (nomark _)) (pw_or1 (pt_cmpR (op_neD hr.units) (pe_call G_refused (hr.mono (by decide)) rfl m_refused k_refused b_refused .nil pass0 (pa_cons (pv 0) (pa_cons (pe_callTy call_tuple_of (by rfl) B.b_tuple (by decide +kernel) (pa_cons (pv 10) pa_nil)) pa_nil))) (pe_tup (pa_cons pe_str (pa_cons (pv 8) pa_nil))) (nomark _)))))
        (pss_one (ps_ret pe_bl))
        pss_nil)
      (pss_cons (ps_if (pt_cmpR (op_neD hr.units) (pe_call G_refused (hr.mono (by decide)) rfl m_refused k_refused b_refused .nil pass0 (pa_cons (pv 0) (pa_cons (pe_op op_cat (pe_lst (pa_cons pe_int pa_nil)) (pe_slice sl_list (pv 10) (po_some pe_int) po_none)) pa_nil))) (pe_tup (pa_cons pe_str (pa_cons (pv 8) pa_nil))) (nomark _))
        (pss_one (ps_ret pe_bl))
        pss_nil)
      (pss_cons (ps_asg (pe_ix ix_list (pv 6) (pe_op op_mod (pe_op op_add (pv 5) pe_int) pe_int) (fun _ _ => rfl)) (pg_sub (pv 10) (pv 9) set_list))
      (pss_cons (ps_if (pt_cmpR (op_neD hr.units) (pe_call G_refused (hr.mono (by decide)) rfl m_refused k_refused b_refused .nil pass0 (pa_cons (pv 0) (pa_cons (pv 10) pa_nil))) (pe_tup (pa_cons pe_str (pa_cons (pe_callB (call_min2 rfl) (by rfl) b_min (by decide +kernel) (pa_cons (pv 8) (pa_cons (pv 9) pa_nil))) pa_nil))) (nomark _))
        (pss_one (ps_ret pe_bl))
        pss_nil)
      (pss_cons (ps_set (i := 11) sc_refusals.nd rfl (Or.inl rfl) (pe_make MS G_sinit (hr.mono (by decide)) rfl m_S b_sinit .nil passL (pa_cons (pv 0) (pa_cons (pv 2) pa_nil))))
      (pss_one (ps_ret (pe_and (pe_cmpR (op_eqD hr.units) (pe_call G_further (hr.mono (by decide)) rfl m_further k_further b_further .nil pass0 (pa_cons (pv 11) (pa_cons (pv 10) pa_nil))) (pe_tup (pa_cons pe_str (pa_cons (pe_callB (call_min2 rfl) (by rfl) b_min (by decide +kernel) (pa_cons (pv 8) (pa_cons (pv 9) pa_nil))) pa_nil))) (nomark _)) (pe_one (pe_call G_more (hr.mono (by decide)) rfl m_more k_more b_more .nil pass0 (pa_cons (pv 11) (pa_cons (pe_ix ix_list (pv 6) (pv 5) (fun _ _ => rfl)) pa_nil))))))))))))))))))))), ?_⟩
    have e24 : (sizeLine : Nat) = 16777216 := sizeLine_eq
    have el := gv.len
    rw [List.length_map] at el
    have fp : Fit p := by
      by_cases p0 : p = 0
      · rw [p0]
        exact fit01
      · have := prime_lt hg p0
        exact lt20f (by omega) (by omega)
    have n1p : (nrm p 1, (1 : Int)).1 ≠ 0 := by
      show nrm p 1 ≠ 0
      unfold nrm
      split
      · decide
      · rename_i p0
        have := prime_lt hg p0
        rw [Int.emod_eq_of_lt (by decide) (by omega)]
        decide
    refine ⟨(by show 1 ≤ sizeLine; decide), fun l1 hl1 => ⟨(by show 0 ≤ sizeLine; decide), fun tp htp => fun dd hdd => ⟨(by show 7 ≤ sizeLine; decide), fun ls hls => ?_⟩⟩⟩
    have sA := same_new (o := .lst [.int 1]) (Same.refl H) hl1
    have sB := same_new (o := .tup []) (Same.refl _) htp
    have sC := same_new (o := .dK []) (Same.refl _) hdd
    have SX := (sA.trans sB).trans sC
    have e1 := (sB.trans sC) _ _ upd_same
    have e2 := sC _ _ upd_same
    have e3 := upd_same (H := (upd (upd H l1 (.lst [.int 1])) tp (.tup []))) (a := dd) (o := .dK [])
    generalize upd (upd (upd H l1 (.lst [.int 1])) tp (.tup [])) dd (.dK []) = HX at *
    have gtab : ∀ {H' : Hp}, Same HX H' → ∀ {w : V}, Giv K C H' p w none → ∀ v ∈ ([.str "1", .bl true, .non, .ref l1, .ref tp, .str "", w] : List V), Giv K C H' p v none := by
      intro H' s w gw v hv
      simp only [List.mem_cons, List.not_mem_nil, or_false] at hv
      rcases hv with rfl | rfl | rfl | rfl | rfl | rfl | rfl
      · exact .inl ⟨.type "str", false, .base (.str _), Z.kstr, .str _, rfl⟩
      · exact .inl ⟨.type "bool", false, .base (.bl _), Z3.kbool, .bl _, rfl⟩
      · exact .inl ⟨.type "NoneType", false, .base .non, Z.knon, .non, rfl⟩
      · exact .inl ⟨.type "list", false, .base (.lst (s _ _ e1)), Z3.klist, .lst (s _ _ e1), rfl⟩
      · exact .inl ⟨.type "tuple", false, .base (.tup (s _ _ e2)), Z3.ktup, .tup (s _ _ e2), rfl⟩
      · exact .inl ⟨.type "str", false, .base (.str _), Z.kstr, .str _, rfl⟩
      · exact gw
    -- the table
    refine ⟨fun σ H' => ∃ w, σ = [some (.ref x), some (.int p), some (.ref gl), some (.int a), some (.int b), some (.int od), some (.ref ls), none, none, none, none, none] ∧ Same HX H' ∧ H' ls = some (.lst [.str "1", .bl true, .non, .ref l1, .ref tp, .str "", w]) ∧ Giv K C H' p w none, ?_, ?_⟩
    · refine ⟨_, rfl, _, _, rfl, rfl, _, rfl, ?_⟩
      by_cases p0 : p = 0
      · refine itDn (by simp [p0]) ?_
        have s1 := same_new (o := .lst [.str "1", .bl true, .non, .ref l1, .ref tp, .str "", .ref dd]) (Same.refl HX) hls
        have e4 := s1 _ _ e3
        exact ⟨.ref dd, rfl, s1, upd_same, .inl ⟨.type "dict", false, .base (.dK e4), Z3.kdict, .dK e4, rfl⟩⟩
      · have pl := prime_lt hg p0
        refine itD (by simp; omega) ⟨_, rfl, fun r dr nr ndr ne => mk_go p0 (fit_up (lt20f (by omega) (by omega))) nr ndr ne fun t u H1 L Rr s1 => ⟨rfl, ?_⟩⟩
        obtain ⟨rfl, rfl⟩ := low_self (t := 1) (u := p) (by omega) (Int.gcd_one_left _) L
        have s2 := (same_new (o := .lst [.str "1", .bl true, .non, .ref l1, .ref tp, .str "", .ref dd]) (Same.refl HX) hls).trans s1
        have h1 := s1 _ _ upd_same
        refine ⟨_, rfl, _, _, _, _, rfl, rfl, h1, rfl, .ref r, rfl, same_at s2 hls, upd_same, ?_⟩
        have R2 := Rr.updl h1 (o := .lst [.str "1", .bl true, .non, .ref l1, .ref tp, .str "", .ref r])
        exact .inr ⟨1, _, .inl ⟨r, rfl, R2⟩, by omega, fit1, lt20f (by omega) (by omega), p0, Int.emod_self⟩
    rintro σ H1 ⟨w7, rfl, s1, hls1, gw⟩
    have sH1 := SX.trans s1
    have eo : od = (od.toNat : Int) := (Int.toNat_of_nonneg o0).symm
    have g7 := gtab s1 gw
    generalize htab : ([.str "1", .bl true, .non, .ref l1, .ref tp, .str "", w7] : List V) = tab at *
    have ltab : tab.length = 7 := by rw [← htab]; rfl
    -- what is no row
    refine fun d2 hd2 => ⟨(by show 0 ≤ sizeLine; decide), fun e0l he0 => ⟨(by show 0 ≤ sizeLine; decide), fun e0t het => ⟨(by show 6 ≤ sizeLine; decide), fun lw hlw => ⟨lw, rfl, ⟨_, SqL.of upd_same⟩, ?_⟩⟩⟩⟩
    have w1 := same_new (o := .dK []) (Same.refl H1) hd2
    have w2 := same_new (o := .lst []) (Same.refl _) he0
    have w3 := same_new (o := .tup []) (Same.refl _) het
    have w4 := same_new (o := .lst [.str "123", .non, .int 5, .ref d2, .ref e0l, .ref e0t]) (Same.refl _) hlw
    have s3 := ((w1.trans w2).trans w3).trans w4
    have eD := ((w2.trans w3).trans w4) _ _ upd_same
    have eE := (w3.trans w4) _ _ upd_same
    have eT := w4 _ _ upd_same
    have eL := upd_same (H := (upd (upd (upd H1 d2 (.dK [])) e0l (.lst [])) e0t (.tup []))) (a := lw) (o := .lst [.str "123", .non, .int 5, .ref d2, .ref e0l, .ref e0t])
    generalize upd (upd (upd (upd H1 d2 (.dK [])) e0l (.lst [])) e0t (.tup [])) lw (.lst [.str "123", .non, .int 5, .ref d2, .ref e0l, .ref e0t]) = H3 at *
    have all : ∀ v ∈ ([.str "123", .non, .int 5, .ref d2, .ref e0l, .ref e0t] : List V), SRow K C CRd H3 p 1 32 v false (.inl (-1)) := by
      intro v hv
      simp only [List.mem_cons, List.not_mem_nil, or_false] at hv
      rcases hv with rfl | rfl | rfl | rfl | rfl | rfl
      · exact .no ⟨_, .base (.str _), R.kstr⟩ (IsQ.ty (.base (.str _)) (kit_ty (by decide +kernel)) (kit_ty (by decide +kernel)))
      · exact .no ⟨_, .base .non, R.knon⟩ (IsQ.ty (.base .non) (kit_ty (by decide +kernel)) (kit_ty (by decide +kernel)))
      · exact .no ⟨_, .base (.int _), R.kint⟩ (IsQ.ty (.base (.int _)) (kit_ty (by decide +kernel)) (kit_ty (by decide +kernel)))
      · exact .no ⟨_, .base (.dK eD), R.kdict⟩ (IsQ.ty (.base (.dK eD)) (kit_ty (by decide +kernel)) (kit_ty (by decide +kernel)))
      · exact .size ⟨_, .base (.lst eE), R.klist⟩ (.inl eE) (.inl (by decide))
      · exact .size ⟨_, .base (.tup eT), R.ktup⟩ (.inr eT) (.inl (by decide))
    refine for_list (xs := [.str "123", .non, .int 5, .ref d2, .ref e0l, .ref e0t]) (fun i σ H' => ∃ z, σ = [some (.ref x), some (.int p), some (.ref gl), some (.int a), some (.int b), some (.int od), some (.ref ls), z, none, none, none, none] ∧ Same H3 H') ⟨none, rfl, Same.refl _⟩ (fun i σ H' _ h => ?_) ?_ ?_
    · obtain ⟨z, _, s4⟩ := h
      exact SqL.of (s4 _ _ eL)
    · rintro i v σ H4 hi ⟨z, rfl, s4⟩
      have sv := all v (List.mem_of_getElem? hi)
      refine ⟨_, rfl, _, rfl, x, p, v, _, _, rfl, hx.same ((sH1.trans s3).trans s4), hg, sv.same s4, fun q5 H5 s5 hq5 => ⟨_, rfl, (by show 2 ≤ sizeLine; decide), fun q6 hq6 => ?_⟩⟩
      have t6 := same_new (o := .tup [.str "refused", .int (-1)]) (Same.refl H5) hq6
      exact ne_same (t6 _ _ hq5) upd_same ⟨_, rfl, iteF ⟨_, rfl, (s4.trans s5).trans t6⟩⟩
    rintro σ H4 ⟨z, rfl, s4⟩
    have T0 := s3.trans s4
    refine ⟨_, rfl, (by show 1 ≤ sizeLine; decide), fun ra1 hra1 => ⟨_, _, _, rfl, rfl, upd_same, by decide, by decide, (by show 1 * 32 ≤ sizeLine; decide), fun rb1 hrb1 => ?_⟩⟩
    rw [show ((32 : Int).toNat) = 32 from rfl, rep_one]
    have P1 := ((T0).trans (same_new (o := .lst [.int 1]) (Same.refl _) hra1)).trans (same_new (o := .lst (List.replicate 32 (.int 1))) (Same.refl _) hrb1)
    refine ⟨x, p, _, _, _, rfl, hx.same (sH1.trans P1), hg, .row ⟨_, .base (.lst upd_same), R.klist⟩ (.inl upd_same) (by simp) (by simp) (givs_repm (giv_int hg fit1)), fun qa1 Ha1 sa1 hqa1 => ⟨(by show 2 ≤ sizeLine; decide), fun qb1 hqb1 => ?_⟩⟩
    rw [show toldG (headG (.inr (List.replicate 32 (nrm p 1, 1)))) = [.str "made", .int 0] from head_made ⟨_, _, rfl, n1p⟩] at hqa1
    have ta1 := same_new (o := .tup [.str "made", .int 0]) (Same.refl Ha1) hqb1
    refine ne_same (ta1 _ _ hqa1) upd_same ⟨_, rfl, iteF ?_⟩
    have T1 := (P1.trans sa1).trans ta1
    refine ⟨_, rfl, (by show 1 ≤ sizeLine; decide), fun ra2 hra2 => ⟨_, _, _, rfl, rfl, upd_same, by decide, by decide, (by show 1 * 33 ≤ sizeLine; decide), fun rb2 hrb2 => ?_⟩⟩
    rw [show ((33 : Int).toNat) = 33 from rfl, rep_one]
    have P2 := ((T1).trans (same_new (o := .lst [.int 1]) (Same.refl _) hra2)).trans (same_new (o := .lst (List.replicate 33 (.int 1))) (Same.refl _) hrb2)
    refine ⟨x, p, _, _, _, rfl, hx.same (sH1.trans P2), hg, .size ⟨_, .base (.lst upd_same), R.klist⟩ (.inl upd_same) (.inr (by simp)), fun qa2 Ha2 sa2 hqa2 => ⟨_, rfl, (by show 2 ≤ sizeLine; decide), fun qb2 hqb2 => ?_⟩⟩
    rw [show toldG (headG (.inl (-1))) = [.str "refused", .int (-1)] from rfl] at hqa2
    have ta2 := same_new (o := .tup [.str "refused", .int (-1)]) (Same.refl Ha2) hqb2
    refine ne_same (ta2 _ _ hqa2) upd_same ⟨_, rfl, iteF ?_⟩
    have T2 := (P2.trans sa2).trans ta2
    refine ⟨_, rfl, (by show 1 ≤ sizeLine; decide), fun ra3 hra3 => ⟨_, _, _, rfl, rfl, upd_same, by decide, by decide, (by show 1 * 33 ≤ sizeLine; decide), fun rb3 hrb3 => ?_⟩⟩
    rw [show ((33 : Int).toNat) = 33 from rfl, rep_one]
    have P3 := ((T2).trans (same_new (o := .lst [.str "x"]) (Same.refl _) hra3)).trans (same_new (o := .lst (List.replicate 33 (.str "x"))) (Same.refl _) hrb3)
    refine ⟨x, p, _, _, _, rfl, hx.same (sH1.trans P3), hg, .size ⟨_, .base (.lst upd_same), R.klist⟩ (.inl upd_same) (.inr (by simp)), fun qa3 Ha3 sa3 hqa3 => ⟨_, rfl, (by show 2 ≤ sizeLine; decide), fun qb3 hqb3 => ?_⟩⟩
    rw [show toldG (headG (.inl (-1))) = [.str "refused", .int (-1)] from rfl] at hqa3
    have ta3 := same_new (o := .tup [.str "refused", .int (-1)]) (Same.refl Ha3) hqb3
    refine ne_same (ta3 _ _ hqa3) upd_same ⟨_, rfl, iteF ?_⟩
    have T3 := (P3.trans sa3).trans ta3
    refine ⟨_, rfl, (by show 2 ≤ sizeLine; decide), fun ra4 hra4 => ?_⟩
    have P4 := T3.trans (same_new (o := .lst [.int 0, .int 1]) (Same.refl _) hra4)
    refine ⟨x, p, _, _, _, rfl, hx.same (sH1.trans P4), hg, .row (prs := [(nrm p 0, 1), (nrm p 1, 1)]) ⟨_, .base (.lst upd_same), R.klist⟩ (.inl upd_same) (by decide) (by decide) ((Givs.nil.cons (giv_int hg fit1)).cons (giv_int hg fit01)), fun qa4 Ha4 sa4 hqa4 => ⟨(by show 2 ≤ sizeLine; decide), fun qb4 hqb4 => ?_⟩⟩
    rw [head_zero (show (nrm p 0, 1).1 = 0 from nrm0)] at hqa4
    have ta4 := same_new (o := .tup [.str "refused", .int 0]) (Same.refl Ha4) hqb4
    refine ne_same (ta4 _ _ hqa4) upd_same ⟨_, rfl, iteF ?_⟩
    have T4 := (P4.trans sa4).trans ta4
    refine ⟨_, rfl, _, rfl, (by show 1 ≤ sizeLine; decide), fun ra5 hra5 => ⟨_, rfl, _, rfl, gl, xs, rfl, SqL.of ((same_new (o := .lst [.int p]) (Same.refl _) hra5) _ _ ((sH1.trans T4) _ _ hgl)), fun rb5 hrb5 => ?_⟩⟩
    rw [drop_cut]
    have n5 : ra5 ≠ rb5 := ne_of_none upd_same hrb5
    refine ⟨ra5, rb5, _, _, rfl, rfl, (upd_ne n5).trans upd_same, upd_same, (by show 1 + (xs.drop 1).length ≤ sizeLine; rw [List.length_drop, e24]; omega), fun rc5 hrc5 => ?_⟩
    have P5 := ((T4.trans (same_new (o := .lst [.int p]) (Same.refl _) hra5)).trans (same_new (o := .lst (xs.drop 1)) (Same.refl _) hrb5)).trans (same_new (o := .lst ([V.int p] ++ xs.drop 1)) (Same.refl _) hrc5)
    have gd5 := gdrop (gv.same (sH1.trans P5))
    refine ⟨x, p, _, _, _, rfl, hx.same (sH1.trans P5), hg, .row (prs := (nrm p p, 1) :: prs.drop 1) ⟨_, .base (.lst upd_same), R.klist⟩ (.inl upd_same) (by show 1 ≤ (V.int p :: xs.drop 1).length; simp) (by show (V.int p :: xs.drop 1).length ≤ 32; simp; omega) (gd5.cons (giv_int hg fp)), fun qa5 Ha5 sa5 hqa5 => ⟨(by show 2 ≤ sizeLine; decide), fun qb5 hqb5 => ?_⟩⟩
    rw [head_zero (show (nrm p p, 1).1 = 0 from nrmp)] at hqa5
    have ta5 := same_new (o := .tup [.str "refused", .int 0]) (Same.refl Ha5) hqb5
    refine ne_same (ta5 _ _ hqa5) upd_same ⟨_, rfl, iteF ?_⟩
    have T5 := (P5.trans sa5).trans ta5
    refine ⟨_, rfl, _, rfl, ?_⟩
    refine ⟨x, p, _, _, _, rfl, hx.same (sH1.trans T5), hg, .row ⟨_, .base (.lst ((sH1.trans T5) _ _ hgl)), R.klist⟩ (.inl ((sH1.trans T5) _ _ hgl)) (by omega) (by omega) (gv.same (sH1.trans T5)), fun qa6 Ha6 sa6 hqa6 => ⟨(by show 2 ≤ sizeLine; decide), fun qb6 hqb6 => ?_⟩⟩
    rw [show toldG (headG (.inr prs)) = [.str "made", .int 0] from head_made hd0] at hqa6
    have ta6 := same_new (o := .tup [.str "made", .int 0]) (Same.refl Ha6) hqb6
    refine ne_same (ta6 _ _ hqa6) upd_same ⟨_, rfl, iteF ?_⟩
    have T6 := (T5.trans sa6).trans ta6
    have hgl9 := (sH1.trans T6) _ _ hgl
    generalize upd Ha6 qb6 (HO.tup [.str "made", .int 0]) = H9' at *
    obtain ⟨j1, ej1, lj1⟩ : ∃ j : Nat, a % (xs.length : Int) = (j : Int) ∧ j < xs.length := ⟨(a % (xs.length : Int)).toNat, by have := Int.emod_nonneg a (show (xs.length : Int) ≠ 0 by omega); omega, by have := Int.emod_nonneg a (show (xs.length : Int) ≠ 0 by omega); have := Int.emod_lt_of_pos a (show (0 : Int) < xs.length by omega); omega⟩
    obtain ⟨j2, ej2, lj2⟩ : ∃ j : Nat, b % (xs.length : Int) = (j : Int) ∧ j < xs.length := ⟨(b % (xs.length : Int)).toNat, by have := Int.emod_nonneg b (show (xs.length : Int) ≠ 0 by omega); omega, by have := Int.emod_nonneg b (show (xs.length : Int) ≠ 0 by omega); have := Int.emod_lt_of_pos b (show (0 : Int) < xs.length by omega); omega⟩
    refine ⟨_, rfl, .inl ⟨_, rfl, _, rfl, gl, xs, rfl, .inl (SqL.of hgl9), _, _, rfl, rfl, by omega, _, rfl, .inl ⟨_, rfl, _, rfl, gl, xs, rfl, .inl (SqL.of hgl9), _, _, rfl, rfl, by omega, .int (j1 : Int), .int (j2 : Int), (by show [V.int (a % (xs.length : Int)), V.int (b % (xs.length : Int))] = _; rw [ej1, ej2]), ?_⟩⟩⟩
    refine ⟨_, rfl, gl, xs, rfl, .inl (SqL.of hgl9), fun sp hsp => ?_⟩
    have ls9 := T6 _ _ hls1
    have S10 := same_new (o := .lst xs) (Same.refl _) hsp
    have li : od.toNat < tab.length := by omega
    have hv1 := g7 _ (List.getElem_mem li)
    refine ⟨_, rfl, _, rfl, _, _, _, _, rfl, rfl, SqL.of (S10 _ _ ls9), at_of (j := od.toNat) eo (List.getElem?_eq_getElem li), ?_⟩
    generalize ev1 : tab[od.toNat] = v1 at *
    have ixj : ∀ {ys : List V} {j : Nat}, ys.length = xs.length → j < xs.length → ixN ys.length ((j : Nat) : Int) = some j := fun h h2 => by
      rw [ix_ok (by omega) (by omega)]
      rfl
    refine ⟨_, rfl, _, rfl, sp, xs, _, j1, rfl, rfl, upd_same, ixj rfl lj1, ?_⟩
    have S11 := same_at (o := .lst (xs.set j1 v1)) S10 hsp
    have h11 := upd_same (H := upd H9' sp (.lst xs)) (a := sp) (o := .lst (xs.set j1 v1))
    generalize upd (upd H9' sp (.lst xs)) sp (.lst (xs.set j1 v1)) = H11' at *
    have gq : ∀ {H'}, Same H9' H' → Givs K C H' p (xs.set j1 v1) ((prs.map some).set j1 none) := fun s => (gv.same ((sH1.trans T6).trans s)).set (hv1.same (T6.trans s)) j1
    have ln1 : (xs.set j1 v1).length = xs.length := by rw [List.length_set]
    have q1 := pre_set1 prs (j := j1) (by omega)
    have lo1 : ((prs.map some).set j1 none).length = xs.length := by rw [List.length_set, List.length_map]; omega
    have tl1 : toldG (headG (.inl ((pre ((prs.map some).set j1 none)).length : Nat))) = [.str "refused", .int ((j1 : Nat) : Int)] := by
      rw [q1]
      rfl
    refine ⟨_, rfl, _, rfl, x, p, _, _, _, rfl, hx.same ((sH1.trans T6).trans S11), hg, .bad ⟨_, .base (.lst h11), R.klist⟩ (.inl h11) (by omega) (by omega) (gq S11) (by omega), fun q15 H15 s15 hq15 => ⟨_, rfl, (by show 2 ≤ sizeLine; decide), fun q16 hq16 => ?_⟩⟩
    rw [tl1] at hq15
    have t16 := same_new (o := .tup [.str "refused", .int ((j1 : Nat) : Int)]) (Same.refl H15) hq16
    refine ne_same (t16 _ _ hq15) upd_same ⟨_, rfl, iteF ?_⟩
    have s16 := s15.trans t16
    refine ⟨_, rfl, _, rfl, sp, _, rfl, .inl ⟨SqL.of (s16 _ _ h11), fun tq htq => ?_⟩⟩
    have s17 := s16.trans (same_new (o := .tup (xs.set j1 v1)) (Same.refl _) htq)
    refine ⟨x, p, _, _, _, rfl, hx.same ((sH1.trans T6).trans (S11.trans s17)), hg, .bad ⟨_, .base (.tup upd_same), R.ktup⟩ (.inr upd_same) (by omega) (by omega) (gq (S11.trans s17)) (by omega), fun q18 H18 s18 hq18 => ⟨_, rfl, (by show 2 ≤ sizeLine; decide), fun q19 hq19 => ?_⟩⟩
    rw [tl1] at hq18
    have t19 := same_new (o := .tup [.str "refused", .int ((j1 : Nat) : Int)]) (Same.refl H18) hq19
    refine ne_same (t19 _ _ hq18) upd_same ⟨_, rfl, iteF ?_⟩
    have s19 := (s17.trans s18).trans t19
    generalize upd H18 q19 (HO.tup [.str "refused", .int ((j1 : Nat) : Int)]) = H19 at *
    have h19 := s19 _ _ h11
    -- 0 in front
    refine ⟨_, rfl, (by show 1 ≤ sizeLine; decide), fun r7 hr7 => ⟨_, rfl, _, rfl, sp, _, rfl, SqL.of ((same_new (o := .lst [.int 0]) (Same.refl _) hr7) _ _ h19), fun r8 hr8 => ?_⟩⟩
    rw [drop_cut]
    have n7 : r7 ≠ r8 := ne_of_none upd_same hr8
    refine ⟨r7, r8, _, _, rfl, rfl, (upd_ne n7).trans upd_same, upd_same, (by show 1 + ((xs.set j1 v1).drop 1).length ≤ sizeLine; rw [List.length_drop, ln1, e24]; omega), fun r9 hr9 => ?_⟩
    have P9 := ((s19.trans (same_new (o := .lst [.int 0]) (Same.refl _) hr7)).trans (same_new (o := .lst ((xs.set j1 v1).drop 1)) (Same.refl _) hr8)).trans (same_new (o := .lst ([V.int 0] ++ (xs.set j1 v1).drop 1)) (Same.refl _) hr9)
    have h9e := upd_same (H := upd (upd H19 r7 (.lst [.int 0])) r8 (.lst ((xs.set j1 v1).drop 1))) (a := r9) (o := .lst ([V.int 0] ++ (xs.set j1 v1).drop 1))
    generalize upd (upd (upd H19 r7 (.lst [.int 0])) r8 (.lst ((xs.set j1 v1).drop 1))) r9 (.lst ([V.int 0] ++ (xs.set j1 v1).drop 1)) = H9e at *
    have sr9 : ∃ g, SRow K C CRd H9e p 1 32 (.ref r9) false g ∧ toldG (headG g) = [.str "refused", .int ((j1 : Nat) : Int)] := by
      have l9 : ([V.int 0] ++ (xs.set j1 v1).drop 1).length = xs.length := by
        show (V.int 0 :: (xs.set j1 v1).drop 1).length = _
        rw [List.length_cons, List.length_drop, ln1]
        omega
      by_cases c : j1 = 0
      · subst c
        have g9 := (gdrop (gv.same ((sH1.trans T6).trans (S11.trans P9)))).cons (giv_int (K := K) (C := C) (H := H9e) hg fit01)
        have ed : (xs.set 0 v1).drop 1 = xs.drop 1 := by
          cases xs with
          | nil => rfl
          | cons y ys => rfl
        refine ⟨_, .row (prs := (nrm p 0, 1) :: prs.drop 1) ⟨_, .base (.lst h9e), R.klist⟩ (.inl h9e) (by omega) (by omega) ?_, head_zero (show (nrm p 0, 1).1 = 0 from nrm0)⟩
        rw [ed]
        exact g9
      · have g9 := ((gq (S11.trans P9)).drop1).cons (giv_int (K := K) (C := C) (H := H9e) hg fit01)
        have q9 := pre_front (a := (nrm p 0, 1)) prs (j := j1) (by omega) (by omega)
        refine ⟨_, .bad ⟨_, .base (.lst h9e), R.klist⟩ (.inl h9e) (by omega) (by omega) g9 ?_, ?_⟩
        · rw [q9, List.length_cons, List.length_drop, lo1]
          omega
        · rw [q9]
          rfl
    obtain ⟨g9, sr9, tl9⟩ := sr9
    refine ⟨x, p, _, _, g9, rfl, hx.same ((sH1.trans T6).trans (S11.trans P9)), hg, sr9, fun q20 H20 s20 hq20 => ⟨_, rfl, (by show 2 ≤ sizeLine; decide), fun q21 hq21 => ?_⟩⟩
    rw [tl9] at hq20
    have t21 := same_new (o := .tup [.str "refused", .int ((j1 : Nat) : Int)]) (Same.refl H20) hq21
    refine ne_same (t21 _ _ hq20) upd_same ⟨_, rfl, iteF ?_⟩
    have s21 := (P9.trans s20).trans t21
    generalize upd H20 q21 (HO.tup [.str "refused", .int ((j1 : Nat) : Int)]) = H21 at *
    -- the second one
    have i1 := Int.emod_nonneg (od + 1) (show (7 : Int) ≠ 0 by decide)
    have i2 := Int.emod_lt_of_pos (od + 1) (show (0 : Int) < 7 by decide)
    have li2 : ((od + 1) % 7).toNat < tab.length := by omega
    have hv2 := g7 _ (List.getElem_mem li2)
    have S20 := S11.trans s21
    refine ⟨_, rfl, _, rfl, _, _, rfl, rfl, _, _, rfl, rfl, (by show (0 : Int) < 7; decide), _, _, _, _, rfl, rfl, SqL.of (S20 _ _ ls9), at_of (j := ((od + 1) % 7).toNat) (by omega) (List.getElem?_eq_getElem li2), ?_⟩
    generalize tab[((od + 1) % 7).toNat] = v2 at *
    have h21 := s21 _ _ h11
    refine ⟨_, rfl, _, rfl, sp, _, _, j2, rfl, rfl, h21, ixj (by rw [List.length_set]) lj2, ?_⟩
    have S22 : Same H9' (upd H21 sp (.lst ((xs.set j1 v1).set j2 v2))) := same_at S20 hsp
    have h22 := upd_same (H := H21) (a := sp) (o := .lst ((xs.set j1 v1).set j2 v2))
    generalize upd H21 sp (.lst ((xs.set j1 v1).set j2 v2)) = H22 at *
    have g2 : ∀ {H'}, Same H22 H' → Givs K C H' p ((xs.set j1 v1).set j2 v2) (((prs.map some).set j1 none).set j2 none) := fun s => ((gv.same ((sH1.trans T6).trans (S22.trans s))).set (hv1.same (T6.trans (S22.trans s))) j1).set (hv2.same (T6.trans (S22.trans s))) j2
    have q2 := pre_set2 prs (j1 := j1) (j2 := j2) (by omega) (by omega)
    have ln2 : ((xs.set j1 v1).set j2 v2).length = xs.length := by rw [List.length_set, List.length_set]
    have lo2 : (((prs.map some).set j1 none).set j2 none).length = xs.length := by rw [List.length_set, lo1]
    have tl2 : toldG (headG (.inl ((pre (((prs.map some).set j1 none).set j2 none)).length : Nat))) = [.str "refused", .int ((min j1 j2 : Nat) : Int)] := by
      rw [q2]
      rfl
    have em : (if ((j2 : Nat) : Int) < ((j1 : Nat) : Int) then ((j2 : Nat) : Int) else ((j1 : Nat) : Int)) = ((min j1 j2 : Nat) : Int) := by
      split <;> omega
    refine ⟨_, rfl, _, rfl, x, p, _, _, _, rfl, hx.same ((sH1.trans T6).trans S22), hg, .bad ⟨_, .base (.lst h22), R.klist⟩ (.inl h22) (by omega) (by omega) (g2 (Same.refl _)) (by omega), fun q23 H23 s23 hq23 => ⟨_, rfl, _, rfl, _, _, rfl, (by show 2 ≤ sizeLine; decide), fun q24 hq24 => ?_⟩⟩
    rw [tl2] at hq23
    rw [em]
    have t24 := same_new (o := .tup [.str "refused", .int ((min j1 j2 : Nat) : Int)]) (Same.refl H23) hq24
    refine ne_same (t24 _ _ hq23) upd_same ⟨_, rfl, iteF ?_⟩
    have s24 := s23.trans t24
    have S24 := (sH1.trans T6).trans (S22.trans s24)
    -- a series to go on with
    refine ⟨_, rfl, _, rfl, fun y dy ny ndy ney => mkS_go (hx.same S24) hg (.row ⟨_, .base (.lst (S24 _ _ hgl)), R.klist⟩ (.inl (S24 _ _ hgl)) (by omega) (by omega) (gv.same S24)) (head_ok hd0) ny ndy ney fun H25 s25 ser => ⟨rfl, ?_⟩⟩
    have s25' := s24.trans s25
    have tlf : toldG (.inl ((pre (((prs.map some).set j1 none).set j2 none)).length : Nat)) = [.str "refused", .int ((min j1 j2 : Nat) : Int)] := by
      rw [q2]
      rfl
    refine ⟨_, rfl, _, rfl, y, p, _, prs, _, rfl, ser, hg, by omega, .bad (.inl (s25' _ _ h22)) (by omega) (g2 s25') (by omega), fun q26 H26 s26 hq26 => ⟨_, rfl, _, rfl, _, _, rfl, (by show 2 ≤ sizeLine; decide), fun q27 hq27 => ?_⟩⟩
    rw [tlf] at hq26
    rw [em]
    have t27 := same_new (o := .tup [.str "refused", .int ((min j1 j2 : Nat) : Int)]) (Same.refl H26) hq27
    refine eq_same (t27 _ _ hq26) upd_same ⟨_, rfl, iteT ?_⟩
    have s27 := (s25'.trans s26).trans t27
    exact ⟨_, rfl, _, rfl, _, rfl, _, _, _, _, rfl, rfl, SqL.of (((T6.trans S22).trans s27) _ _ hls1), at_of (j := od.toNat) eo (List.getElem?_eq_getElem li), y, p, _, prs, rfl, ser.same (s26.trans t27), hg, by omega, fun H28 s28 => k H28 (((sH1.trans T6).trans (S22.trans s27)).trans s28)⟩
end
end Sq

-- needs HandS.Style
namespace Sq
open PySem L2 PyProof.Rows
abbrev s_law : Stmt := top 70
theorem Ser.updl {C CS CF : Addr} {H : Hp} {x q : Addr} {p : Int} {prs : List (Int × Int)} {xs : List V} {o : HO} (hq : H q = some (.lst xs)) (h : Ser C CS CF H x p prs) : Ser C CS CF (L2.upd H q o) x p prs := by
  obtain ⟨dx, fx, ct, ys, SO⟩ := h
  refine ⟨dx, fx, ct, ys, (upd_ne fun z => ?_).trans SO.ob, SO.fl.updl hq, (upd_ne fun z => ?_).trans SO.co, SO.nu.upd hq, SO.hd⟩
  · have := SO.ob
    rw [z, hq] at this
    cases this
  · have := SO.co
    rw [z, hq] at this
    cases this
theorem alike_refl (a : List (Int × Int)) : Alike a a := fun i u v h1 h2 => by
  rw [h1] at h2
  exact Option.some.inj h2
theorem alike_app (a b : List (Int × Int)) : Alike a (a ++ b) := fun i u v h1 h2 => by
  rw [List.getElem?_append_left (get_len h1), h1] at h2
  exact Option.some.inj h2
theorem alike_take (a : List (Int × Int)) (k : Nat) : Alike a (a.take k) := fun i u v h1 h2 => by
  rw [List.getElem?_take] at h2
  split at h2
  · rw [h1] at h2
    exact Option.some.inj h2
  · cases h2
theorem eq_row {K : PySem.W.Frag} {H : Hp} {p q : Addr} {prs : List (Int × Int)} {Q : VK} (hp : RowAt H p prs) (hq : RowAt H q prs) (k : Q (.bl true) H) : rEqD K (.ref p) (.ref q) H Q :=
  ⟨_, _, hp.dp, hq.dp, row_shaped prs, row_shaped prs, by
    rw [SeqAt.eqv_refl _ (SeqAt.canLay_of_shaped (row_shaped prs))]
    exact k⟩
theorem inR_ok {n k : Nat} (h1 : 1 ≤ k) (h2 : k ≤ n) : inR (.int (k : Int)) 1 (n : Int) = true := by
  show (decide (1 ≤ ((k : Nat) : Int)) && decide (((k : Nat) : Int) ≤ (n : Int))) = true
  rw [decide_eq_true (by omega), decide_eq_true (by omega)]
  rfl
/-- s.first(k), let -/
theorem first_go {K : PySem.W.Frag} {C CS CF CNC x : Addr} {H : Hp} {p : Int} {prs : List (Int × Int)} {k : Nat} {Q : VK} {E : XK} (SR : Ser C CS CF H x p prs) (hg : goodP p = true) (h1 : 1 ≤ k) (h2 : k ≤ prs.length) (q : ∀ y H', Same H H' → Ser C CS CF H' y p (prs.take k) → Q (.ref y) H') : spSFirst K C CS CF CNC [.ref x, .int (k : Int)] H Q E :=
  ⟨x, _, p, prs, rfl, SR, hg, .int _, fun h => (by rw [inR_ok h1 h2] at h; cases h), fun j e _ _ y H' s r => (by
    have e2 : (k : Int) = (j : Int) := V.int.inj e
    have e3 : j = k := by omega
    subst e3
    exact q y H' s r)⟩
theorem then_go {K : PySem.W.Frag} {C CS CF CNP x : Addr} {H : Hp} {p : Int} {v : V} {prs more : List (Int × Int)} {Q : VK} {E : XK} (SR : Ser C CS CF H x p prs) (hg : goodP p = true) (l79 : prs.length ≤ 79) (tr : TRow K C H p (79 - prs.length) v (.inr more)) (q : ∀ y H', Same H H' → Ser C CS CF H' y p (prs ++ more) → Q (.ref y) H') : spSThen K C CS CF CNP [.ref x, v] H Q E :=
  ⟨x, v, p, prs, _, rfl, SR, hg, l79, tr, fun n e => (by cases e), fun m e y H' s r => (by cases e; exact q y H' s r)⟩
theorem first_goT {K : PySem.W.Frag} {C CS CF CNC x : Addr} {H : Hp} {p : Int} {prs : List (Int × Int)} {k : Nat} {Q : VK} {E : XK} {σ : L2.St} (SR : Ser C CS CF H x p prs) (hg : goodP p = true) (h1 : 1 ≤ k) (h2 : k ≤ prs.length) (q : ∀ y H', Same H H' → Ser C CS CF H' y p (prs.take k) → Q (.ref y) H') :
    tNil σ H fun xs H2 => (fun vs H3 => spSFirst K C CS CF CNC (.ref x :: (vs ++ [])) H3 Q E) (V.int (k : Int) :: xs) H2 := first_go SR hg h1 h2 q
theorem then_goT {K : PySem.W.Frag} {C CS CF CNP x : Addr} {H : Hp} {p : Int} {v : V} {prs more : List (Int × Int)} {Q : VK} {E : XK} {σ : L2.St} (SR : Ser C CS CF H x p prs) (hg : goodP p = true) (l79 : prs.length ≤ 79) (tr : TRow K C H p (79 - prs.length) v (.inr more)) (q : ∀ y H', Same H H' → Ser C CS CF H' y p (prs ++ more) → Q (.ref y) H') :
    tNil σ H fun xs H2 => (fun vs H3 => spSThen K C CS CF CNP (.ref x :: (vs ++ [])) H3 Q E) (v :: xs) H2 := then_go SR hg l79 tr q
theorem seq_go {K : PySem.W.Frag} {C CS CF x y : Addr} {H : Hp} {p : Int} {prs prs' : List (Int × Int)} {Q : VK} {E : XK} (nf : PySem.W.notFirst K CS (.ref CS) = true) (T : STx K CS) (SR : Ser C CS CF H x p prs) (SR' : Ser C CS CF H y p prs') (al : Alike prs prs') (k : ∀ H', Same H H' → Q (.bl (decide (prs.length = prs'.length))) H') : rOwnEq K CS (spSEq K C CS CF) E (.ref x) (.ref y) H Q := by
  obtain ⟨dx, fx, ct, ys, SO⟩ := id SR
  obtain ⟨dx', fx', ct', ys', SO'⟩ := id SR'
  exact ⟨x, dx, _, .ref CS, rfl, SO.ob, SO'.ty T, nf, x, _, p, prs, rfl, SR, .inl ⟨y, prs', rfl, SR', al, k⟩⟩
section
variable {P : Program} {w : World} {K : PySem.W.Frag} {mg : Str → Option Value} {base : Heap}
theorem sc_law : FnScope ["_law_script", "_law_state_here", "_law_prime_here", "_law_first", "_law_second", "_law_odd", "_law_size", "_law_row_here", "_law_more", "_law_field", "_law_given_here", "_law_made", "_law_kept", "_law_spot", "_law_longer", "_law_last", "_law_k"] ["_law_script"] (defScope s_law) := ⟨rfl, rfl, rfl, by decide +kernel, rfl, by decide +kernel, by decide +kernel⟩
theorem ok_law {f C CF CS CRd CNF CNP CNC fF fsinit fsfirst fsthen fslen fseqq fstate fdraw flpr fcoefs fsmall fpassed ftold frefusals : Addr} {fd fdF fdsinit fdsfirst fdsthen fdslen fdseqq fdstate fddraw fdlpr fdcoefs fdsmall fdpassed fdtold fdrefusals : FuncData} (F : Fun K "law" "law" s_law f fd) (D : DTx mg) (B : QTx mg) (TS : STx K CS) (R : KRd K C CRd) (nfSS : PySem.W.notFirst K CS (.ref CS) = true) (nfSl : PySem.W.notFirst K CS (.type "list") = true) (kls : PySem.W.kitOne K (.type "list") (.ref CS) = some false)
    (m_CF : mg "Field" = some (.ref CF)) (m_S : mg "Series" = some (.ref CS)) (MF : Mk K CF fF) (MS : Mk K CS fsinit)
    (G_F : FnOk P w K mg base (L2.CX P w) 2 fF fdF ["self", "prime"] (spFieldInit K CF CNF)) (b_F : Binds K fdF ["self", "prime"] [])
    (G_sinit : FnOk P w K mg base (L2.CX P w) 12 fsinit fdsinit ["self", "field", "coefficients"] (spSInit K C CS CF CRd CNP)) (b_sinit : Binds K fdsinit ["self", "field", "coefficients"] [])
    (Me_first : Meth K CS "first" fsfirst) (G_sfirst : FnOk P w K mg base (L2.CX P w) 14 fsfirst fdsfirst ["self", "count"] (spSFirst K C CS CF CNC)) (b_sfirst : Binds K fdsfirst ["self", "count"] [])
    (Me_then : Meth K CS "then" fsthen) (G_sthen : FnOk P w K mg base (L2.CX P w) 14 fsthen fdsthen ["self", "numbers"] (spSThen K C CS CF CNP)) (b_sthen : Binds K fdsthen ["self", "numbers"] [])
    (O_len : OwnOp K CS fslen "__len__") (G_slen : FnOk P w K mg base CX0 1 fslen fdslen ["self"] (spSLen C CS CF)) (b_slen : Binds K fdslen ["self"] [])
    (O_seq : OwnOp K CS fseqq "__eq__") (G_seqq : FnOk P w K mg base CX0 4 fseqq fdseqq ["self", "other"] (spSEq K C CS CF)) (b_seq : Binds K fdseqq ["self", "other"] [])
    (G_state : FnOk P w K mg base CX0 1 fstate fdstate ["_law_script"] (spState K)) (m_state : mg "_law_state" = some (.ref fstate)) (k_state : PySem.W.keepIn K (.ref fstate) = true) (b_state : Binds K fdstate ["_law_script"] [])
    (G_draw : FnOk P w K mg base CX0 1 fdraw fddraw ["_law_state_here", "_law_many"] spDrawA) (m_draw : mg "_law_draw" = some (.ref fdraw)) (k_draw : PySem.W.keepIn K (.ref fdraw) = true) (b_draw : Binds K fddraw ["_law_state_here", "_law_many"] [])
    (G_lpr : FnOk P w K mg base CX0 2 flpr fdlpr ["_law_state_here"] spLpr) (m_lpr : mg "_law_prime" = some (.ref flpr)) (k_lpr : PySem.W.keepIn K (.ref flpr) = true) (b_lpr : Binds K fdlpr ["_law_state_here"] [])
    (G_coefs : FnOk P w K mg base CX0 6 fcoefs fdcoefs ["_law_state_here", "_law_prime_here", "_law_count"] spCoefs) (m_coefs : mg "_law_coefficients" = some (.ref fcoefs)) (k_coefs : PySem.W.keepIn K (.ref fcoefs) = true) (b_coefs : Binds K fdcoefs ["_law_state_here", "_law_prime_here", "_law_count"] [])
    (G_small : FnOk P w K mg base CX0 4 fsmall fdsmall ["_law_state_here", "_law_prime_here", "_law_size"] spSmall) (m_small : mg "_law_small" = some (.ref fsmall)) (k_small : PySem.W.keepIn K (.ref fsmall) = true) (b_small : Binds K fdsmall ["_law_state_here", "_law_prime_here", "_law_size"] [])
    (G_passed : FnOk P w K mg base CX0 6 fpassed fdpassed ["_law_prime_here", "_law_pair_here", "_law_k"] (spPassed K C)) (m_passed : mg "_law_passed" = some (.ref fpassed)) (k_passed : PySem.W.keepIn K (.ref fpassed) = true) (b_passed : Binds K fdpassed ["_law_prime_here", "_law_pair_here", "_law_k"] [])
    (G_told : FnOk P w K mg base CX0 4 ftold fdtold ["_law_prime_here", "_law_told"] (spTold C CS CF)) (m_told : mg "_law_told_series" = some (.ref ftold)) (k_told : PySem.W.keepIn K (.ref ftold) = true) (b_told : Binds K fdtold ["_law_prime_here", "_law_told"] [])
    (G_refusals : FnOk P w K mg base CX0 17 frefusals fdrefusals ["_law_field", "_law_prime_here", "_law_given_here", "_law_first", "_law_second", "_law_odd"] (spRefusals K C CF)) (m_refusals : mg "_law_refusals" = some (.ref frefusals)) (k_refusals : PySem.W.keepIn K (.ref frefusals) = true) (b_refusals : Binds K fdrefusals ["_law_field", "_law_prime_here", "_law_given_here", "_law_first", "_law_second", "_law_odd"] []) : FnOk P w K mg base CX0 18 f fd ["_law_script"] (spLaw K) := by
  refine F.ok sc_law (fun vs H Q E h => ?_) (fun cdv A outer s H vs Q E hr h => ?_)
  · obtain ⟨a, ns, rfl, _⟩ := h
    rfl
  · obtain ⟨a0, ns, rfl, hS, hl, k⟩ := h
    refine ⟨_, (pss_cons (ps_set (i := 1) sc_law.nd rfl (Or.inl rfl) (pe_call G_state (hr.mono (by decide)) rfl m_state k_state b_state .nil pass0 (pa_cons (pv 0) pa_nil)))
      (pss_cons (ps_set (i := 2) sc_law.nd rfl (Or.inr rfl) (pe_call G_lpr (hr.mono (by decide)) rfl m_lpr k_lpr b_lpr .nil pass0 (pa_cons (pv 1) pa_nil)))
      (pss_cons (ps_par3 (i := 3) (j := 4) (l := 5) (by rfl) sc_law.nd rfl rfl rfl (by decide) (by decide) (by decide) rfl rfl rfl (pa_cons (pe_call G_draw (hr.mono (by decide)) rfl m_draw k_draw b_draw .nil pass0 (pa_cons (pv 1) (pa_cons pe_int pa_nil))) (pa_cons (pe_call G_draw (hr.mono (by decide)) rfl m_draw k_draw b_draw .nil pass0 (pa_cons (pv 1) (pa_cons pe_int pa_nil))) (pa_cons (pe_call G_draw (hr.mono (by decide)) rfl m_draw k_draw b_draw .nil pass0 (pa_cons (pv 1) (pa_cons pe_int pa_nil))) pa_nil))) (by rfl))
      (pss_cons (ps_set (i := 6) sc_law.nd rfl (Or.inl rfl) (pe_op op_add pe_int (pe_call G_draw (hr.mono (by decide)) rfl m_draw k_draw b_draw .nil pass0 (pa_cons (pv 1) (pa_cons pe_int pa_nil)))))
      (C8.pss_cut (ps_if (pt_cmpR op_eq (pe_call G_draw (hr.mono (by decide)) rfl m_draw k_draw b_draw .nil pass0 (pa_cons (pv 1) (pa_cons pe_int pa_nil))) pe_int (nomark _))
        (pss_one (ps_set (i := 6) sc_law.nd rfl (Or.inl rfl) (pe_op op_add pe_int (pe_call G_draw (hr.mono (by decide)) rfl m_draw k_draw b_draw .nil pass0 (pa_cons (pv 1) (pa_cons pe_int pa_nil))))))
        pss_nil)
      (pss_cons (ps_set (i := 7) sc_law.nd rfl (Or.inr rfl) (pe_call G_coefs (hr.mono (by decide)) rfl m_coefs k_coefs b_coefs .nil pass0 (pa_cons (pv 1) (pa_cons (pv 2) (pa_cons (pv 6) pa_nil)))))
      (pss_cons (ps_set (i := 8) sc_law.nd rfl (Or.inr rfl) (pe_call G_small (hr.mono (by decide)) rfl m_small k_small b_small .nil pass0 (pa_cons (pv 1) (pa_cons (pv 2) (pa_cons (pe_call G_draw (hr.mono (by decide)) rfl m_draw k_draw b_draw .nil pass0 (pa_cons (pv 1) (pa_cons pe_int pa_nil))) pa_nil)))))
      (pss_cons (ps_set (i := 9) sc_law.nd rfl (Or.inl rfl) (pe_make MF G_F (hr.mono (by decide)) rfl m_CF b_F .nil passL (pa_cons (pv 2) pa_nil)))
      (pss_cons (ps_setLc (i := 10) (own := [("_law_k", 16)]) (g := gName 16) (tt := tYes) rfl sc_law.nd rfl rfl (sw_true rfl rfl rfl (by decide +kernel))
        (pi_range1 (by rfl) D.b_range (pa_cons (pv 6) pa_nil)) (blkOk_by (N := ["_law_script", "_law_state_here", "_law_prime_here", "_law_first", "_law_second", "_law_odd", "_law_size", "_law_row_here", "_law_more", "_law_field", "_law_given_here", "_law_made", "_law_kept", "_law_spot", "_law_longer", "_law_last", "_law_k"]) (sc := defScope s_law) (by decide +kernel)) (fun _ _ _ _ _ => pg_name (i := 16) sc_law.nd rfl (Or.inl rfl)) (fun _ _ _ _ _ => pts_nil)
        (fun _ _ _ _ _ => (pe_call G_passed (hr.mono (by decide)) rfl m_passed k_passed b_passed .nil pass0 (pa_cons (pv 2) (pa_cons (pe_ix (show IxR _ (rIxL K) from ix_list) (pv 7) (pv 16) (fun _ _ => rfl)) (pa_cons (pv 16) pa_nil))))))
      (pss_cons (ps_set (i := 11) sc_law.nd rfl (Or.inl rfl) (pe_make MS G_sinit (hr.mono (by decide)) rfl m_S b_sinit .nil passL (pa_cons (pv 9) (pa_cons (pv 10) pa_nil))))
      (pss_cons (ps_set (i := 12) sc_law.nd rfl (Or.inl rfl) (pe_callTy call_list_of (by rfl) B.b_list (by decide +kernel) (pa_cons (pv 10) pa_nil)))
      (pss_cons (ps_asg pe_int (pg_sub (pv 10) pe_int set_list))
      (pss_cons (ps_expr (pe_bm PySem.F.plainAttrs_list PySem.F.slot_list_append PySem.F.type_list_append mt_append (pv 10) (pa_cons pe_int pa_nil)))
      (pss_cons (ps_if (PW.pt (pw_or (pt_cmpR (op_neD hr.units) (pe_call G_told (hr.mono (by decide)) rfl m_told k_told b_told .nil pass0 (pa_cons (pv 2) (pa_cons (pv 11) pa_nil))) (pv 7) (nomark _)) (pw_or1 (pt_cmpR (op_neD hr.units) (pe_call G_told (hr.mono (by decide)) rfl m_told k_told b_told .nil pass0 (pa_cons (pv 2) (pa_cons (pe_make MS G_sinit (hr.mono (by decide)) rfl m_S b_sinit .nil passL (pa_cons (pv 9) (pa_cons (pe_callTy call_tuple_of (by rfl) B.b_tuple (by decide +kernel) (pa_cons (pv 12) pa_nil)) pa_nil))) pa_nil))) (pv 7) (nomark _)))))
        (pss_one (ps_ret pe_bl))
        pss_nil)
      (C8.pss_cut (ps_set (i := 13) sc_law.nd rfl (Or.inl rfl) (pe_op op_add pe_int (pe_op op_mod (pe_callTy call_int1 (by rfl) D.b_int (by decide +kernel) (pa_cons (pv 3) pa_nil)) (pv 6))))
      (pss_cons (ps_if (PW.pt (pw_or (pt_cmpR (op_neD hr.units) (pe_call G_told (hr.mono (by decide)) rfl m_told k_told b_told .nil pass0 (pa_cons (pv 2) (pa_cons (pe_meth (pv 11) TS.cl Me_first G_sfirst (hr.mono (by decide)) b_sfirst .nil passL (pa_cons (pv 13) pa_nil)) pa_nil))) (pe_slice sl_list (pv 7) po_none (po_some (pv 13))) (nomark _)) (pw_or1 (pt_cmpR (op_neD hr.units) (pe_call G_told (hr.mono (by decide)) rfl m_told k_told b_told .nil pass0 (pa_cons (pv 2) (pa_cons (pe_meth (pv 11) TS.cl Me_first G_sfirst (hr.mono (by decide)) b_sfirst .nil passL (pa_cons (pv 6) pa_nil)) pa_nil))) (pv 7) (nomark _)))))
        (pss_one (ps_ret pe_bl))
        pss_nil)
      (pss_cons (ps_set (i := 14) sc_law.nd rfl (Or.inl rfl) (pe_meth (pv 11) TS.cl Me_then G_sthen (hr.mono (by decide)) b_sthen .nil passL (pa_cons (pe_lc (own := [("_law_k", 16)]) (g := gName 16) (tt := tYes) rfl sc_law.nd (pi_range1 (by rfl) D.b_range (pa_cons (pe_callB call_len_seq (by rfl) B.b_len (by decide +kernel) (pa_cons (pv 8) pa_nil)) pa_nil)) (blkOk_by (N := ["_law_script", "_law_state_here", "_law_prime_here", "_law_first", "_law_second", "_law_odd", "_law_size", "_law_row_here", "_law_more", "_law_field", "_law_given_here", "_law_made", "_law_kept", "_law_spot", "_law_longer", "_law_last", "_law_k"]) (sc := defScope s_law) (by decide +kernel)) (fun _ _ _ _ _ => pg_name (i := 16) sc_law.nd rfl (Or.inl rfl)) (fun _ _ _ _ _ => pts_nil) (fun _ _ _ _ _ => (pe_call G_passed (hr.mono (by decide)) rfl m_passed k_passed b_passed .nil pass0 (pa_cons (pv 2) (pa_cons (pe_ix (show IxR _ (rIxL K) from ix_list) (pv 8) (pv 16) (fun _ _ => rfl)) (pa_cons (pv 16) pa_nil)))))) pa_nil)))
      (pss_cons (ps_if (pt_cmpR (op_neD hr.units) (pe_call G_told (hr.mono (by decide)) rfl m_told k_told b_told .nil pass0 (pa_cons (pv 2) (pa_cons (pv 14) pa_nil))) (pe_op op_cat (pv 7) (pv 8)) (nomark _))
        (pss_one (ps_ret pe_bl))
        pss_nil)
      (pss_cons (ps_if (PW.pt (pw_or (pt_not (pt_cmpR (op_ownEq O_seq G_seqq (hr.mono (by decide)) b_seq pass0) (pv 11) (pe_meth (pv 14) TS.cl Me_first G_sfirst (hr.mono (by decide)) b_sfirst .nil passL (pa_cons (pv 6) pa_nil)) (nomark _))) (pw_or (pt_not (pt_cmpR (op_ownEq O_seq G_seqq (hr.mono (by decide)) b_seq pass0) (pe_meth (pv 11) TS.cl Me_then G_sthen (hr.mono (by decide)) b_sthen .nil passL (pa_cons (pe_tup pa_nil) pa_nil)) (pv 11) (nomark _))) (pw_or1 (pt_cmpR (op_ownEq O_seq G_seqq (hr.mono (by decide)) b_seq pass0) (pv 11) (pv 12) (nomark _))))))
        (pss_one (ps_ret pe_bl))
        pss_nil)
      (pss_cons (ps_if (PW.pt (pw_or (pt_cmpR op_ne (pe_cmpR (op_ownEq O_seq G_seqq (hr.mono (by decide)) b_seq pass0) (pv 11) (pv 14) (nomark _)) (pe_cmpR (op_eqNil (Nat.lt_of_le_of_lt (Nat.le_add_right _ 64) hr.units)) (pv 8) (pe_lst pa_nil) (nomark _)) (nomark _)) (pw_or1 (pt_cmpR op_ne (pe_cmpR (op_ownEq O_seq G_seqq (hr.mono (by decide)) b_seq pass0) (pv 11) (pe_meth (pv 11) TS.cl Me_first G_sfirst (hr.mono (by decide)) b_sfirst .nil passL (pa_cons (pv 13) pa_nil)) (nomark _)) (pe_cmpR op_eq (pv 13) (pv 6) (nomark _)) (nomark _)))))
        (pss_one (ps_ret pe_bl))
        pss_nil)
      (pss_cons (ps_set (i := 15) sc_law.nd rfl (Or.inl rfl) (pe_meth (pv 14) TS.cl Me_then G_sthen (hr.mono (by decide)) b_sthen .nil passL (pa_cons (pe_op op_rep (pe_lst (pa_cons pe_int pa_nil)) (pe_op op_sub (pe_op op_sub pe_int (pe_callB call_len_seq (by rfl) B.b_len (by decide +kernel) (pa_cons (pv 7) pa_nil))) (pe_callB call_len_seq (by rfl) B.b_len (by decide +kernel) (pa_cons (pv 8) pa_nil)))) pa_nil)))
      (pss_cons (ps_if (PW.pt (pw_or (pt_cmpR op_ne (pe_callB (call_lenO O_len G_slen (hr.mono (by decide)) b_slen pass0) (by rfl) B.b_len (by decide +kernel) (pa_cons (pv 15) pa_nil)) pe_int (nomark _)) (pw_or1 (pt_not (pt_cmpR (op_ownEq O_seq G_seqq (hr.mono (by decide)) b_seq pass0) (pe_meth (pv 15) TS.cl Me_first G_sfirst (hr.mono (by decide)) b_sfirst .nil passL (pa_cons (pv 6) pa_nil)) (pv 11) (nomark _))))))
        (pss_one (ps_ret pe_bl))
        pss_nil)
      (pss_one (ps_ret (pe_and (pe_cmpR (op_eqD hr.units) (pe_call G_told (hr.mono (by decide)) rfl m_told k_told b_told .nil pass0 (pa_cons (pv 2) (pa_cons (pv 11) pa_nil))) (pv 7) (nomark _)) (pe_one (pe_call G_refusals (hr.mono (by decide)) rfl m_refusals k_refusals b_refusals .nil pass0 (pa_cons (pv 9) (pa_cons (pv 2) (pa_cons (pv 12) (pa_cons (pv 3) (pa_cons (pv 4) (pa_cons (pv 5) pa_nil))))))))))))))))))))))))))))))))), ?_⟩
    have e24 : (sizeLine : Nat) = 16777216 := sizeLine_eq
    refine ⟨_, rfl, a0, ns, rfl, hS, hl, fun st H1 _ S1 _ => ?_⟩
    refine ⟨_, rfl, st, rfl, S1, fun p H2 hg S2 _ => ?_⟩
    obtain ⟨ad, S2⟩ := S2
    refine ⟨_, rfl, st, _, ad, rfl, by decide, by decide, S2, fun v1' H3 a30 a31 S3 _ => ⟨_, rfl, st, _, ad, rfl, by decide, by decide, S3, fun v2 H4 a40 a41 S4 _ => ⟨_, rfl, st, _, ad, rfl, by decide, by decide, S4, fun v3 H5 a50 a51 S5 _ => ⟨_, _, _, rfl, ?_⟩⟩⟩⟩
    refine ⟨_, rfl, st, _, ad, rfl, by decide, by decide, S5, fun v4 H6 a60 a61 S6 _ => ⟨_, _, rfl, rfl, ?_⟩⟩
    refine ⟨fun σ H' => ∃ n : Nat, 1 ≤ n ∧ n ≤ 32 ∧ σ = [some (.ref a0), some (.ref st), some (.int p), some (.int v1'), some (.int v2), some (.int v3), some (.int (n : Int)), none, none, none, none, none, none, none, none, none, none] ∧ StA H' st ad, ?_, ?_⟩
    · refine ⟨_, rfl, st, _, ad, rfl, by decide, by decide, S6, fun v5 H7 _ _ S7 _ => ⟨rfl, _, rfl, ?_⟩⟩
      refine ite2 (fun _ => ?_) (fun _ => ?_)
      · refine ⟨_, rfl, st, _, ad, rfl, by decide, by decide, S7, fun v6 H8 a80 a81 S8 _ => ⟨_, _, rfl, rfl, (1 + v6).toNat, by omega, by omega, ?_, S8⟩⟩
        rw [Int.toNat_of_nonneg (by omega)]
        rfl
      · refine ⟨(1 + v4).toNat, by omega, by omega, ?_, S7⟩
        rw [Int.toNat_of_nonneg (by omega)]
        rfl
    rintro σ H8 ⟨n, n1, n32, rfl, S8⟩
    refine ⟨_, rfl, _, rfl, _, rfl, st, p, n, ad, rfl, S8, hg, n1, by omega, fun l prs H9 S9 _ nl r9 ln ok hd0 => ?_⟩
    have nst : l ≠ st := fun z => by
      obtain ⟨vs, e, _⟩ := r9
      obtain ⟨_, _, _, _, _, h1, _⟩ := S8
      rw [← z, nl] at h1
      cases h1
    refine ⟨_, rfl, _, rfl, _, rfl, st, _, ad, rfl, by decide, by decide, S9, fun v7 H10 a100 a101 S10 B10 => ?_⟩
    obtain ⟨m, rfl⟩ : ∃ m : Nat, v7 = (m : Int) := ⟨v7.toNat, by omega⟩
    refine ⟨st, p, m, ad, rfl, S10, hg, by omega, fun lm mo H11 S11 B11 nlm rm11 lm0 okm => ?_⟩
    have r11 := (r9.but S9 B10 nst).but S10 B11 nst
    -- the field, what is given, the series
    refine ⟨_, rfl, fun fz dfz nz ndz ne => mkF_go hg nz ndz ne fun H13 hf13 s13 => ⟨rfl, ?_⟩⟩
    have r13 := r11.same s13
    have rm13 := rm11.same s13
    obtain ⟨vs13, hv13, rv13⟩ := id r13
    have lv13 := rv13.len
    refine ⟨_, rfl, (n : Int), rfl, by omega, by omega, fun L hL => ?_⟩
    refine lc_range (lo := 0) (n := n) (fun i H' => ∃ ys, Same H13 H' ∧ H' L = some (.lst ys) ∧ Givs K C H' p ys ((prs.take i).map some)) ?_ ?_ ?_
    · exact ⟨[], same_new (Same.refl _) hL, upd_same, ⟨rfl, fun i x o e => by simp at e⟩⟩
    · rintro i HB hi ⟨ys, sB, hys, gvB⟩
      have lp : i < prs.length := by omega
      have lvv : i < vs13.length := by omega
      obtain ⟨qc, eq, hqc⟩ := rv13.at_ _ _ _ (List.getElem?_eq_getElem lvv) (List.getElem?_eq_getElem lp)
      refine ⟨rfl, _, rfl, _, rfl, _, rfl, _, _, _, _, rfl, rfl, SqL.of (sB _ _ hv13), at_of (j := i) (by omega) (List.getElem?_eq_getElem lvv), _, rfl, ?_⟩
      rw [eq]
      refine ⟨p, qc, _, _, rfl, hg, hqc.same sB, (ok _ (List.getElem_mem lp)), by omega, by omega, fun y HC sC gy => ?_⟩
      have hyC := sC _ _ hys
      have ll := gvB.len
      rw [List.length_map, List.length_take] at ll
      refine ⟨ys, hyC, by omega, ys ++ [y], same_at (sB.trans sC) hL, upd_same, ?_⟩
      rw [take_more (List.getElem?_eq_getElem lp), List.map_append]
      have g1 := ((gvB.same sC).snoc gy)
      have e2 : (prs.take i).map some ++ [some prs[i]] = ((prs.take i) ++ [prs[i]]).map some := by rw [List.map_append]; rfl
      rw [e2] at g1
      have g2 := g1.updl (q := L) (o := .lst (ys ++ [y])) hyC
      rw [List.map_append] at g2
      exact g2
    rintro H14 ⟨ys, s14, hys14, gv14⟩
    rw [← ln, List.take_length] at gv14
    have ly : ys.length = n := by
      have := gv14.len
      rw [List.length_map] at this
      omega
    have nl14 : l ≠ L := ne_of_none hv13 hL
    have nlm14 : lm ≠ L := by
      obtain ⟨_, e, _⟩ := rm13
      exact ne_of_none e hL
    have hf14 := hf13.same s14
    refine ⟨_, rfl, _, rfl, fun y dy ny ndy ne => mkS_go hf14 hg (.row ⟨_, .base (.lst hys14), R.klist⟩ (.inl hys14) (by omega) (by omega) gv14) (head_ok hd0) ny ndy ne fun H15 s15 ser15 => ⟨rfl, ?_⟩⟩
    have hys15 := s15 _ _ hys14
    refine ⟨_, rfl, L, ys, rfl, .inl (SqL.of hys15), fun kl hkl => ?_⟩
    have s16 := s15.trans (same_new (o := .lst ys) (Same.refl _) hkl)
    have ser16 := ser15.same (same_new (o := .lst ys) (Same.refl _) hkl)
    have hk16 := upd_same (H := H15) (a := kl) (o := .lst ys)
    have nkl : kl ≠ L := fun z => by
      rw [z, hys15] at hkl
      cases hkl
    generalize upd H15 kl (.lst ys) = H16 at *
    have hys16 := s16 _ _ hys14
    refine ⟨_, rfl, L, _, _, 0, rfl, rfl, hys16, (by rw [ix_ok (by decide) (by omega)]; rfl), ?_⟩
    have hL17 := upd_same (H := H16) (a := L) (o := .lst (ys.set 0 (V.int 0)))
    have ly17 : (ys.set 0 (V.int 0)).length = ys.length := List.length_set ..
    refine ⟨_, rfl, .inl ⟨rfl, _, SqL.of hL17⟩, L, _, _, rfl, rfl, hL17, by omega, ?_⟩
    have hf17 := ((hf14.same s16).updl (q := L) (o := .lst (ys.set 0 (V.int 0))) hys16).updl (q := L) (o := .lst (ys.set 0 (V.int 0) ++ [V.int 7])) hL17
    have ser17 := (ser16.updl (q := L) (o := .lst (ys.set 0 (V.int 0))) hys16).updl (q := L) (o := .lst (ys.set 0 (V.int 0) ++ [V.int 7])) hL17
    have hk17 := (upd_ne (o := .lst (ys.set 0 (V.int 0) ++ [V.int 7])) nkl).trans ((upd_ne (o := .lst (ys.set 0 (V.int 0))) nkl).trans hk16)
    have gv17 := ((gv14.same s16).updl (q := L) (o := .lst (ys.set 0 (V.int 0))) hys16).updl (q := L) (o := .lst (ys.set 0 (V.int 0) ++ [V.int 7])) hL17
    have r17 := (((r13.same s14).same s16).updl (q := L) (o := .lst (ys.set 0 (V.int 0))) nl14 hys16).updl (q := L) (o := .lst (ys.set 0 (V.int 0) ++ [V.int 7])) nl14 hL17
    have rm17 := (((rm13.same s14).same s16).updl (q := L) (o := .lst (ys.set 0 (V.int 0))) nlm14 hys16).updl (q := L) (o := .lst (ys.set 0 (V.int 0) ++ [V.int 7])) nlm14 hL17
    generalize upd (upd H16 L (.lst (ys.set 0 (V.int 0)))) L (.lst (ys.set 0 (V.int 0) ++ [V.int 7])) = HB at *
    -- told
    refine ⟨_, rfl, _, rfl, p, y, prs, rfl, hg, ser17, by omega, fun l1 H18 s18 r18 => ⟨_, rfl, ne_row r18 (r17.same s18) ⟨_, rfl, iteF ?_⟩⟩⟩
    refine ⟨_, rfl, _, rfl, _, rfl, kl, ys, rfl, .inl ⟨SqL.of (s18 _ _ hk17), fun tk htk => ?_⟩⟩
    have t19 := s18.trans (same_new (o := .tup ys) (Same.refl _) htk)
    refine fun y2 dy2 ny ndy ne => mkS_go (hf17.same t19) hg (.row ⟨_, .base (.tup upd_same), R.ktup⟩ (.inr upd_same) (by omega) (by omega) (gv17.same t19)) (head_ok hd0) ny ndy ne fun H20 s20 ser20 => ⟨rfl, ?_⟩
    refine ⟨p, y2, prs, rfl, hg, ser20, by omega, fun l2 H21 s21 r21 => ⟨_, rfl, ne_row r21 (r17.same ((t19.trans s20).trans s21)) ⟨_, rfl, iteF ?_⟩⟩⟩
    have t21 := (t19.trans s20).trans s21
    -- beginnings
    obtain ⟨sp, esp, sp1, sp2⟩ : ∃ sp : Nat, 1 + v1' % (n : Int) = (sp : Int) ∧ 1 ≤ sp ∧ sp ≤ n := ⟨(1 + v1' % (n : Int)).toNat, by have := Int.emod_nonneg v1' (show (n : Int) ≠ 0 by omega); omega, by have := Int.emod_nonneg v1' (show (n : Int) ≠ 0 by omega); omega, by have := Int.emod_nonneg v1' (show (n : Int) ≠ 0 by omega); have := Int.emod_lt_of_pos v1' (show (0 : Int) < (n : Int) by omega); omega⟩
    refine ⟨fun σ H' => σ = [some (.ref a0), some (.ref st), some (.int p), some (.int v1'), some (.int v2), some (.int v3), some (.int (n : Int)), some (.ref l), some (.ref lm), some (.ref fz), some (.ref L), some (.ref y), some (.ref kl), some (.int (sp : Int)), none, none, none] ∧ H' = H21, ?_, ?_⟩
    · refine ⟨_, rfl, .inl ⟨_, rfl, _, rfl, _, _, rfl, rfl, by omega, _, _, rfl, rfl, ?_, rfl⟩⟩
      rw [← esp]
      rfl
    rintro σ H21' ⟨rfl, rfl⟩
    have ser21 := ser17.same t21
    have r21b := r17.same t21
    obtain ⟨dx, fx, ct, yc, SO⟩ := id ser21
    refine ⟨_, rfl, _, rfl, y, dx, _, rfl, SO.ob, slf_no _ _ _ (by decide +kernel) (by decide +kernel) (by decide +kernel), _, rfl, first_goT ser21 hg sp1 (by omega) fun y3 H22 s22 ser22 => ?_⟩
    obtain ⟨vr, hvr, rvr⟩ := id r21b
    refine ⟨p, y3, _, rfl, hg, ser22, by rw [List.length_take]; omega, fun l3 H23 s23 r23 => ⟨_, rfl, _, rfl, _, rfl, l, vr, rfl, SqL.of ((s22.trans s23) _ _ hvr), fun lc hlc => ?_⟩⟩
    rw [take_cut]
    have s24 := same_new (o := .lst (vr.take sp)) (Same.refl H23) hlc
    have rcut : RowAt (upd H23 lc (.lst (vr.take sp))) lc (prs.take sp) := by
      refine ⟨_, upd_same, ?_⟩
      refine ⟨by rw [List.length_take, List.length_take, rvr.len], fun i v a e1 e2 => ?_⟩
      rw [List.getElem?_take] at e1 e2
      split at e1
      · rename_i c
        rw [if_pos c] at e2
        obtain ⟨q, e, hq⟩ := rvr.at_ i v a e1 e2
        exact ⟨q, e, hq.same ((s22.trans s23).trans s24)⟩
      · cases e1
    refine ne_row (r23.same s24) rcut ⟨_, rfl, iteF ?_⟩
    have u24 := (s22.trans s23).trans s24
    generalize upd H23 lc (.lst (vr.take sp)) = H24 at *
    have ser24 := ser21.same u24
    obtain ⟨dx, fx, ct, yc, SO⟩ := id ser24
    refine ⟨_, rfl, _, rfl, y, dx, _, rfl, SO.ob, slf_no _ _ _ (by decide +kernel) (by decide +kernel) (by decide +kernel), _, rfl, first_goT ser24 hg n1 (by omega) fun y4 H25 s25 ser25 => ?_⟩
    rw [show prs.take n = prs from List.take_of_length_le (by omega)] at ser25
    refine ⟨p, y4, _, rfl, hg, ser25, by omega, fun l4 H26 s26 r26 => ⟨_, rfl, ne_row r26 (r21b.same ((u24.trans s25).trans s26)) ⟨_, rfl, iteF ?_⟩⟩⟩
    have u26 := (u24.trans s25).trans s26
    -- the longer one
    have ser26 := ser21.same u26
    have rm26 := rm17.same (t21.trans u26)
    obtain ⟨vm, hvm, rvm⟩ := id rm26
    have lvm := rvm.len
    obtain ⟨dx, fx, ct, yc, SO⟩ := id ser26
    refine ⟨_, rfl, y, dx, _, rfl, SO.ob, slf_no _ _ _ (by decide +kernel) (by decide +kernel) (by decide +kernel), _, rfl, lm, vm, rfl, .inl (SqL.of hvm), (vm.length : Int), rfl, by omega, by omega, fun L hL => ?_⟩
    refine lc_range (lo := 0) (n := vm.length) (fun i H' => ∃ ys, Same H26 H' ∧ H' L = some (.lst ys) ∧ Givs K C H' p ys ((mo.take i).map some)) ?_ ?_ ?_
    · exact ⟨[], same_new (Same.refl _) hL, upd_same, ⟨rfl, fun i x o e => by simp at e⟩⟩
    · rintro i HB hi ⟨ys, sB, hys, gvB⟩
      have lp : i < mo.length := by omega
      have lvv : i < vm.length := by omega
      obtain ⟨qc, eq, hqc⟩ := rvm.at_ _ _ _ (List.getElem?_eq_getElem lvv) (List.getElem?_eq_getElem lp)
      refine ⟨rfl, _, rfl, _, rfl, _, rfl, _, _, _, _, rfl, rfl, SqL.of (sB _ _ hvm), at_of (j := i) (by omega) (List.getElem?_eq_getElem lvv), _, rfl, ?_⟩
      rw [eq]
      refine ⟨p, qc, _, _, rfl, hg, hqc.same sB, ((okm _ (List.getElem_mem lp)).le (by decide)), by omega, by omega, fun y HC sC gy => ?_⟩
      have hyC := sC _ _ hys
      have ll := gvB.len
      rw [List.length_map, List.length_take] at ll
      refine ⟨ys, hyC, by omega, ys ++ [y], same_at (sB.trans sC) hL, upd_same, ?_⟩
      rw [take_more (List.getElem?_eq_getElem lp), List.map_append]
      have g1 := ((gvB.same sC).snoc gy)
      have e2 : (mo.take i).map some ++ [some mo[i]] = ((mo.take i) ++ [mo[i]]).map some := by rw [List.map_append]; rfl
      rw [e2] at g1
      have g2 := g1.updl (q := L) (o := .lst (ys ++ [y])) hyC
      rw [List.map_append] at g2
      exact g2
    rintro H27 ⟨zs, s27, hzs, gz⟩
    rw [lvm, List.take_length] at gz
    have lz := gz.len
    rw [List.length_map] at lz
    refine then_goT (ser26.same s27) hg (by omega) (.row (.inl hzs) (by omega) gz) fun yl H28 s28 ser28 => ?_
    have u28 := (u26.trans s27).trans s28
    have r28 := r21b.same u28
    have rm28 := rm26.same (s27.trans s28)
    refine ⟨_, rfl, _, rfl, p, yl, _, rfl, hg, ser28, by rw [List.length_append]; omega, fun l5 H29 s29 r29 => ?_⟩
    obtain ⟨va, hva, rva⟩ := id (r28.same s29)
    obtain ⟨vb, hvb, rvb⟩ := id (rm28.same s29)
    have lva := rva.len
    have lvb := rvb.len
    refine ⟨_, rfl, _, rfl, l, lm, va, vb, rfl, rfl, hva, hvb, by omega, fun lj hlj => ?_⟩
    have s30 := same_new (o := .lst (va ++ vb)) (Same.refl H29) hlj
    have rj : RowAt (upd H29 lj (.lst (va ++ vb))) lj (prs ++ mo) := ⟨_, upd_same, (rva.app rvb).same s30⟩
    refine ne_row (r29.same s30) rj ⟨_, rfl, iteF ?_⟩
    have u30 := (u28.trans s29).trans s30
    have ser30 := ser21.same u30
    have serL30 := ser28.same (s29.trans s30)
    generalize upd H29 lj (.lst (va ++ vb)) = H30 at *
    -- equal and unequal ones
    obtain ⟨dl, fl, cl, zl, SOL⟩ := id serL30
    refine ⟨_, rfl, _, rfl, yl, dl, _, rfl, SOL.ob, slf_no _ _ _ (by decide +kernel) (by decide +kernel) (by decide +kernel), _, rfl, first_goT serL30 hg n1 (by rw [List.length_append]; omega) fun y5 H31 s31 ser31 => ?_⟩
    rw [show (prs ++ mo).take n = prs by rw [← ln, List.take_left]] at ser31
    refine seq_go nfSS TS (ser30.same s31) ser31 (alike_refl _) fun H32 s32 => ⟨_, rfl, ?_⟩
    rw [decide_eq_true rfl]
    refine iteF ?_
    have u32 := (u30.trans s31).trans s32
    have ser32 := ser21.same u32
    obtain ⟨dx, fx, ct, yc, SO⟩ := id ser32
    refine ⟨_, rfl, y, dx, _, rfl, SO.ob, slf_no _ _ _ (by decide +kernel) (by decide +kernel) (by decide +kernel), (by show 0 ≤ sizeLine; decide), fun te hte => ?_⟩
    have s33 := same_new (o := .tup []) (Same.refl H32) hte
    refine then_goT (ser32.same s33) hg (by omega) (.row (prs := []) (.inr upd_same) (by simp) Givs.nil) fun y6 H34 s34 ser34 => ?_
    rw [List.append_nil] at ser34
    have u34 := (u32.trans s33).trans s34
    refine ⟨_, rfl, seq_go nfSS TS ser34 (ser21.same u34) (alike_refl _) fun H35 s35 => ⟨_, rfl, ?_⟩⟩
    rw [decide_eq_true rfl]
    refine iteF ?_
    have u35 := u34.trans s35
    have ser35 := ser21.same u35
    have hk35 := (t21.trans u35) _ _ hk17
    obtain ⟨dx, fx, ct, yc, SO⟩ := id ser35
    refine ⟨_, rfl, _, rfl, y, dx, _, .type "list", rfl, SO.ob, .base (.lst hk35), nfSl, y, _, p, prs, rfl, ser35, .inr ⟨⟨_, .base (.lst hk35), kls⟩, _, rfl, iteF ?_⟩⟩
    have serL35 := serL30.same ((((s31.trans s32).trans s33).trans s34).trans s35)
    refine ⟨_, rfl, _, rfl, seq_go nfSS TS ser35 serL35 (alike_app _ _) fun H36 s36 => ?_⟩
    have u36 := u35.trans s36
    obtain ⟨vm6, hvm6, rvm6⟩ := id (rm17.same (t21.trans u36))
    have lvm6 := rvm6.len
    refine ⟨_, rfl, (by show 0 ≤ sizeLine; decide), fun en hen => ?_⟩
    have s37 := same_new (o := .lst []) (Same.refl H36) hen
    refine ⟨lm, en, vm6, rfl, rfl, SqL.of (s37 _ _ hvm6), SqL.of upd_same, rfl, _, rfl, itDn ?_ ?_⟩
    · have e : decide (prs.length = (prs ++ mo).length) = vm6.isEmpty := by
        cases vm6 with
        | nil =>
          have : mo = [] := List.eq_nil_of_length_eq_zero (by simpa using lvm6.symm)
          rw [this, List.append_nil]
          simp
        | cons z zs =>
          have : mo.length ≠ 0 := by rw [← lvm6]; simp
          rw [List.length_append, decide_eq_false (by omega)]
          rfl
      rw [e]
      simp
    have u37 := u36.trans s37
    generalize upd H36 en (HO.lst []) = H37 at *
    have ser37 := ser21.same u37
    obtain ⟨dx, fx, ct, yc, SO⟩ := id ser37
    refine ⟨_, rfl, _, rfl, y, dx, _, rfl, SO.ob, slf_no _ _ _ (by decide +kernel) (by decide +kernel) (by decide +kernel), _, rfl, first_goT ser37 hg sp1 (by omega) fun y7 H38 s38 ser38 => ?_⟩
    refine seq_go nfSS TS (ser37.same s38) ser38 (alike_take _ _) fun H39 s39 => ⟨_, rfl, _, rfl, rfl, rfl, _, rfl, itDn ?_ ?_⟩
    · have e : decide (prs.length = (prs.take sp).length) = decide (V.int (sp : Int) = V.int (n : Int)) := by
        rw [dec_int2, List.length_take]
        by_cases c : sp = n
        · rw [decide_eq_true (by omega), decide_eq_true (by omega)]
        · rw [decide_eq_false (by omega), decide_eq_false (by omega)]
      rw [e]
      simp
    have u39 := (u37.trans s38).trans s39
    -- to the most
    have serL39 := serL35.same (((s36.trans s37).trans s38).trans s39)
    obtain ⟨dl, fl, cl, zl, SOL⟩ := id serL39
    obtain ⟨va, hva, rva⟩ := id (r21b.same u39)
    obtain ⟨vb, hvb, rvb⟩ := id (rm17.same (t21.trans u39))
    have lva := rva.len
    have lvb := rvb.len
    refine ⟨_, rfl, yl, dl, _, rfl, SOL.ob, slf_no _ _ _ (by decide +kernel) (by decide +kernel) (by decide +kernel), (by show 1 ≤ sizeLine; decide), fun c1 hc1 => ?_⟩
    have s40 := same_new (o := .lst [.int 0]) (Same.refl H39) hc1
    refine ⟨_, rfl, l, va, rfl, .inl (SqL.of (s40 _ _ hva)), _, _, rfl, rfl, _, rfl, lm, vb, rfl, .inl (SqL.of (s40 _ _ hvb)), _, _, rfl, rfl, _, ((79 - n - m : Nat) : Int), _, rfl, ?_, upd_same, by omega, by omega, (by show 1 * (((79 - n - m : Nat) : Int)).toNat ≤ sizeLine; rw [e24]; omega), fun c2 hc2 => ?_⟩
    · show V.int (79 - (va.length : Int) - (vb.length : Int)) = _
      congr 1
      omega
    rw [show (((79 - n - m : Nat) : Int)).toNat = 79 - n - m from by omega, rep_one]
    have s41 := s40.trans (same_new (o := .lst (List.replicate (79 - n - m) (.int 0))) (Same.refl _) hc2)
    refine then_goT (more := List.replicate (79 - n - m) (nrm p 0, 1)) (serL39.same s41) hg (by rw [List.length_append]; omega) (.row (.inl upd_same) (by rw [List.length_replicate, List.length_append]; omega) (givs_repm (giv_int hg fit01))) fun yz H42 s42 ser42 => ?_
    have u42 := (u39.trans s41).trans s42
    have l42 : (prs ++ mo ++ List.replicate (79 - n - m) (nrm p 0, (1 : Int))).length = 79 := by
      rw [List.length_append, List.length_append, List.length_replicate]
      omega
    obtain ⟨dz, fz', cz, zz, SOZ⟩ := id ser42
    refine ⟨_, rfl, yz, dz, _, rfl, SOZ.ob, yz, p, _, rfl, ser42, 79, by rw [l42], by decide, rfl, _, rfl, itDn (by simp) ?_⟩
    refine ⟨_, rfl, yz, dz, _, rfl, SOZ.ob, slf_no _ _ _ (by decide +kernel) (by decide +kernel) (by decide +kernel), _, rfl, first_goT ser42 hg n1 (by omega) fun y8 H43 s43 ser43 => ?_⟩
    rw [show (prs ++ mo ++ List.replicate (79 - n - m) (nrm p 0, (1 : Int))).take n = prs by rw [List.append_assoc, ← ln, List.take_left]] at ser43
    have u43 := u42.trans s43
    refine ⟨_, rfl, seq_go nfSS TS ser43 (ser21.same u43) (alike_refl _) fun H44 s44 => ⟨_, rfl, ?_⟩⟩
    rw [decide_eq_true rfl]
    refine iteF ?_
    have u44 := u43.trans s44
    refine ⟨_, rfl, _, rfl, p, y, prs, rfl, hg, ser21.same u44, by omega, fun l6 H45 s45 r45 => ⟨_, rfl, eq_row r45 (r21b.same (u44.trans s45)) ⟨_, rfl, iteT ?_⟩⟩⟩
    have u45 := t21.trans (u44.trans s45)
    exact ⟨_, rfl, _, rfl, _, rfl, _, rfl, _, rfl, _, rfl, fz, kl, p, _, _, _, ys, prs, rfl, hf17.same u45, hg, u45 _ _ hk17, by omega, by omega, gv17.same u45, hd0, a50, a51, fun H46 _ => k H46⟩
end
end Sq

namespace Sq
open PySem PySem.Spec PyProof.Rows L2
theorem cls_some {K : PySem.W.Frag} {C : Addr} (h : PySem.W.hasDictIn K C = true) : (PySem.W.clsIn K C).isSome = true := by
  obtain ⟨cd, hc, _⟩ := PySem.W.any_some h
  rw [hc]
  rfl
theorem kit_own {K : PySem.W.Frag} {C : Addr} {t : Value} (h : PySem.W.hasDictIn K C = true) (ht : PySem.W.typeIn K (.ref C) = some (.type "type")) (hs : PySem.W.subIn K t (.ref C) = some true) : PySem.W.kitOne K t (.ref C) = some true := by
  unfold PySem.W.kitOne
  split
  · rfl
  · show (if ((PySem.W.clsIn K C).isSome && PySem.W.typeIn K (.ref C) == some (.type "type")) = true then PySem.W.subIn K t (.ref C) else none) = some true
    rw [cls_some h, ht]
    simpa using hs
theorem kit_tyo {K : PySem.W.Frag} {C : Addr} {T : String} {b : Bool} (h : PySem.W.hasDictIn K C = true) (ht : PySem.W.typeIn K (.ref C) = some (.type "type")) (hs : PySem.W.subIn K (.type T) (.ref C) = some b) : PySem.W.kitOne K (.type T) (.ref C) = some b := by
  unfold PySem.W.kitOne
  rw [if_neg (by simp)]
  show (if ((PySem.W.clsIn K C).isSome && PySem.W.typeIn K (.ref C) == some (.type "type")) = true then PySem.W.subIn K (.type T) (.ref C) else none) = some b
  rw [cls_some h, ht]
  simpa using hs
theorem kit_ty2 {K : PySem.W.Frag} {C : Addr} {T : String} {b : Bool} (hm : PySem.W.kitMeta T = true) (hs : PySem.W.subIn K (.ref C) (.type T) = some b) : PySem.W.kitOne K (.ref C) (.type T) = some b := by
  unfold PySem.W.kitOne
  rw [if_neg (by simp)]
  show (if PySem.W.kitMeta T = true then PySem.W.subIn K (.ref C) (.type T) else none) = some b
  rw [if_pos hm]
  exact hs
theorem ns_ok {K : PySem.W.Frag} {N : Addr} {oc : Value} {od : Option Addr} {es : Array DictEntry} {n : Nat} {sl : Array (Option Value)} (h : K.lookup N = some ⟨oc, od, .dict es n, sl⟩) (e : (es.toList.all fun e => match e.key with | .str _ _ => true | _ => false) = true) : PySem.W.nsOkIn K N = true := by
  unfold PySem.W.nsOkIn
  rw [h]
  rw [Array.all_toList] at e
  exact e
theorem tail0 {K : PySem.W.Frag} : PySem.W.tailIn K [.type "ValueError", .type "Exception", .type "BaseException", .type "object"] [.type "ValueError", .type "Exception", .type "BaseException", .type "object"] = true := by
  unfold PySem.W.tailIn
  simp
theorem tail1 {K : PySem.W.Frag} {C : Addr} {nm q : Str} {N : Addr} {bs bm : List Value} {sn : List Str} {sub : List Value} {ab : Bool} {col : Option Bool} {dd : Option Addr} {k0 k1 k2 k3 k5 : Option Value} {nw : String} (h : K.lookup C = some (excClassObj nm q C N bs bm true sn sub ab col dd k0 k1 k2 k3 k5 nw)) (ok : PySem.W.nsOkIn K N = true) (ni : PySem.W.nsIn K N "__init__" = some none) :
    PySem.W.tailIn K [.type "ValueError", .type "Exception", .type "BaseException", .type "object"] [.ref C, .type "ValueError", .type "Exception", .type "BaseException", .type "object"] = true := by
  unfold PySem.W.tailIn
  dsimp only
  rw [h]
  show (_ || (PySem.W.nsOkIn K N && PySem.W.nsIn K N "__init__" == some none && PySem.W.tailIn K _ _)) = true
  rw [ok, ni, tail0]
  simp
theorem exc_in {K : PySem.W.Frag} {C : Addr} {nm q : Str} {N : Addr} {bs bm bmB : List Value} {sn : List Str} {sub : List Value} {ab : Bool} {col : Option Bool} {dd : Option Addr} {k0 k1 k2 k3 k5 : Option Value} {nw : String} (h : K.lookup C = some (excClassObj nm q C N bs bm true sn sub ab col dd k0 k1 k2 k3 k5 nw)) (ok : PySem.W.nsOkIn K N = true) (ni : PySem.W.nsIn K N "__init__" = some none) (tl : PySem.W.tailIn K bmB bm = true) :
    PySem.W.excIn K C bmB nw = true := by
  unfold PySem.W.excIn
  rw [h]
  show (C == C && nw == nw && !false && PySem.W.tailIn K bmB bm && PySem.W.nsOkIn K N && PySem.W.nsIn K N "__init__" == some none) = true
  rw [tl, ok, ni]
  simp
theorem kit_ownF {K : PySem.W.Frag} {C D : Addr} (h : PySem.W.hasDictIn K C = true) (ht : PySem.W.typeIn K (.ref C) = some (.type "type")) (hs : PySem.W.subIn K (.ref D) (.ref C) = some false) (self : PySem.W.subIn K (.ref C) (.ref C) = some true) : PySem.W.kitOne K (.ref D) (.ref C) = some false := by
  unfold PySem.W.kitOne
  split
  · rename_i c
    have e : (Value.ref D) = .ref C := by simpa using c
    rw [e, self] at hs
    cases hs
  · show (if ((PySem.W.clsIn K C).isSome && PySem.W.typeIn K (.ref C) == some (.type "type")) = true then PySem.W.subIn K (.ref D) (.ref C) else none) = some false
    rw [cls_some h, ht]
    simpa using hs
theorem all_mk {P : Program} {w : World} {K : PySem.W.Frag} {h : Heap} {mg : Str → Option Value} {fa : Addr} (X : K.In h) (G : h.Ns mainGlobals mg) (hfa : mg "law" = some (.ref fa))
    {CS CN fNI NaN fII CR fRI dRI fstate fdraw fgcd flisint fisnum fasr feq fover fisp finv CF fFI dFI ffeq ffnum ffover fseq ffromto ftaken fsnum fsrow CRd frd CSe fsinit fslen fseqq fsfirst fsthen flip flpr fpair fplus fminus ftimes fgiven fpassed fnumber funit fsmall fexp fplanted fcoefs flread frowt ftold frefused ffurther fcounted fmore frefusals fla CNF NaNF CNN NaNN CNC NaNC NaS CPL fPLI NaPL : Addr} {odNI anNI ddN odII anII odRI anRI oe1RI odstate anstate oddraw andraw odgcd angcd odlisint anlisint odisnum anisnum odasr anasr odeq aneq odover anover odisp anisp odinv aninv odFI anFI oe1FI odfeq anfeq odfnum anfnum odfover anfover odseq anseq odfromto anfromto odtaken antaken odsnum ansnum odsrow ansrow odrd anrd odsinit ansinit odslen anslen odseqq anseqq odsfirst ansfirst odsthen ansthen odlip anlip odlpr anlpr odpair anpair odplus anplus odminus anminus odtimes antimes odgiven angiven odpassed anpassed odnumber annumber odunit anunit odsmall ansmall odexp anexp odplanted anplanted odcoefs ancoefs odlread anlread odrowt anrowt odtold antold odrefused anrefused odfurther anfurther odcounted ancounted odmore anmore odrefusals anrefusals odla anla ddNF ddNN ddNC ddS ndS ndNF ndNN ndNC odPLI anPLI ddPL : Option Addr} {slNI slII slRI skRI slstate sldraw slgcd sllisint slisnum slasr sleq slover slisp slinv slFI skFI slfeq slfnum slfover slseq slfromto sltaken slsnum slsrow slrd slsinit slslen slseqq slsfirst slsthen sllip sllpr slpair slplus slminus sltimes slgiven slpassed slnumber slunit slsmall slexp slplanted slcoefs sllread slrowt sltold slrefused slfurther slcounted slmore slrefusals slla nsS nsNF nsNN nsNC slPLI : Array (Option Value)} {ocNI kVNI dcNI pmNI cdNI ctNI ocII kVII dcII pmII cdII ctII ocRI kVRI dcRI pmRI cdRI ctRI oeRI ocstate kVstate dcstate pmstate cdstate ctstate ocdraw kVdraw dcdraw pmdraw cddraw ctdraw ocgcd kVgcd dcgcd pmgcd cdgcd ctgcd oclisint kVlisint dclisint pmlisint cdlisint ctlisint ocisnum kVisnum dcisnum pmisnum cdisnum ctisnum ocasr kVasr dcasr pmasr cdasr ctasr oceq kVeq dceq pmeq cdeq cteq ocover kVover dcover pmover cdover ctover ocisp kVisp dcisp pmisp cdisp ctisp ocinv kVinv dcinv pminv cdinv ctinv ocFI kVFI dcFI pmFI cdFI ctFI oeFI ocfeq kVfeq dcfeq pmfeq cdfeq ctfeq ocfnum kVfnum dcfnum pmfnum cdfnum ctfnum ocfover kVfover dcfover pmfover cdfover ctfover ocseq kVseq dcseq pmseq cdseq ctseq ocfromto kVfromto dcfromto pmfromto cdfromto ctfromto octaken kVtaken dctaken pmtaken cdtaken cttaken ocsnum kVsnum dcsnum pmsnum cdsnum ctsnum ocsrow kVsrow dcsrow pmsrow cdsrow ctsrow ocrd kVrd dcrd pmrd cdrd ctrd ocsinit kVsinit dcsinit pmsinit cdsinit ctsinit ocslen kVslen dcslen pmslen cdslen ctslen ocseqq kVseqq dcseqq pmseqq cdseqq ctseqq ocsfirst kVsfirst dcsfirst pmsfirst cdsfirst ctsfirst ocsthen kVsthen dcsthen pmsthen cdsthen ctsthen oclip kVlip dclip pmlip cdlip ctlip oclpr kVlpr dclpr pmlpr cdlpr ctlpr ocpair kVpair dcpair pmpair cdpair ctpair ocplus kVplus dcplus pmplus cdplus ctplus ocminus kVminus dcminus pmminus cdminus ctminus octimes kVtimes dctimes pmtimes cdtimes cttimes ocgiven kVgiven dcgiven pmgiven cdgiven ctgiven ocpassed kVpassed dcpassed pmpassed cdpassed ctpassed ocnumber kVnumber dcnumber pmnumber cdnumber ctnumber ocunit kVunit dcunit pmunit cdunit ctunit ocsmall kVsmall dcsmall pmsmall cdsmall ctsmall ocexp kVexp dcexp pmexp cdexp ctexp ocplanted kVplanted dcplanted pmplanted cdplanted ctplanted occoefs kVcoefs dccoefs pmcoefs cdcoefs ctcoefs oclread kVlread dclread pmlread cdlread ctlread ocrowt kVrowt dcrowt pmrowt cdrowt ctrowt octold kVtold dctold pmtold cdtold cttold ocrefused kVrefused dcrefused pmrefused cdrefused ctrefused ocfurther kVfurther dcfurther pmfurther cdfurther ctfurther occounted kVcounted dccounted pmcounted cdcounted ctcounted ocmore kVmore dcmore pmmore cdmore ctmore ocrefusals kVrefusals dcrefusals pmrefusals cdrefusals ctrefusals ocla kVla dcla pmla cdla ctla ncS ncNF ncNN ncNC ocPLI kVPLI dcPLI pmPLI cdPLI ctPLI : Value} {nRI nFI npS npNF npNN npNC : Nat} {tkRI tkFI tkGP tkMP tkMK : Tok} {nmN qN nmNF qNF nmNN qNN nmNC qNC nmS qS nmPL qPL : Str} {bsN subN bsNF subNF bsNN subNN bsNC subNC bsS subS bsPL subPL : List Value} {snN snNF snNN snNC snS snPL : List Str} {abN abNF abNN abNC abS abPL : Bool} {colN colNF colNN colNC colS colPL : Option Bool} {m0N m1N m2N m3N m5N m0NF m1NF m2NF m3NF m5NF m0NN m1NN m2NN m3NN m5NN m0NC m1NC m2NC m3NC m5NC m0S m1S m2S m3S m5S m0PL m1PL m2PL m3PL m5PL : Option Value} {neS neNF neNN neNC : Array DictEntry}
    (aS : PySem.W.nsIn K mainGlobals "SeriesError" = some (some (.ref CS)))
    (x3S : PySem.W.typeIn K (.ref CS) = some (.type "type"))
    (y8S : PySem.W.hasDictIn K CS = true)
    (aN : PySem.W.nsIn K mainGlobals "NoRatio" = some (some (.ref CN)))
    (x3N : PySem.W.typeIn K (.ref CN) = some (.type "type"))
    (y8N : PySem.W.hasDictIn K CN = true)
    (aNI : PySem.W.findIn K (.ref CN) "__init__" = some (some (.ref fNI)))
    (lNI : K.lookup fNI = some ⟨ocNI, odNI, .func (PySem.W.fnOf "__init__" "NoRatio.__init__" (defArgs s_noRatioInit) (defBody s_noRatioInit) (defScope s_noRatioInit) .none kVNI dcNI pmNI anNI cdNI ctNI), slNI⟩)
    (cNI : PySem.W.codeIn K cdNI "NoRatio.__init__" = true)
    (kNI : PySem.W.keepIn K (.ref fNI) = true)
    (iNI : PySem.W.isFn K (.ref fNI) = true)
    (y5 : PySem.W.specialIn K (.builtin "object.__class__") "__get__" = some (some (.builtin "getset_descriptor.__get__")))
    (y6 : PySem.W.takesIn K (.builtin "object.__class__") = some true)
    (xLN : K.lookup CN = some (excClassObj nmN qN CN NaN bsN [.ref CS, .type "ValueError", .type "Exception", .type "BaseException", .type "object"] true snN subN abN colN ddN m0N m1N m2N m3N m5N "ValueError.__new__"))
    (x1N : PySem.W.findIn K (.ref CN) "__setattr__" = some (some (.builtin "object.__setattr__")))
    (x2N : PySem.W.subIn K (.ref CN) (.type "BaseException") = some true)
    (x4N : PySem.W.keepIn K (.ref CN) = true)
    (x5N : PySem.W.findIn K (.ref CN) "word" = some none)
    (x6N : PySem.W.typeIn K (.ref fNI) = some (.type "function"))
    (x7N : PySem.W.subIn K (.ref CN) (.ref CN) = some true)
    (x8N : PySem.W.subIn K (.ref CN) (.ref CS) = some true)
    (x9N : PySem.W.subIn K (.ref CN) (.type "ValueError") = some true)
    (y2N : PySem.W.findIn K (.ref CN) "__getattribute__" = some (some (.builtin "BaseException.__getattribute__")))
    (y3N : PySem.W.findIn K (.ref CN) "__getattr__" = some none)
    (y4N : PySem.W.findIn K (.ref CN) "__class__" = some (some (.builtin "object.__class__")))
    (y7N : PySem.W.mroIn K CN (.type "object") = some true)
    (aII : PySem.W.nsIn K mainGlobals "is_an_integer" = some (some (.ref fII)))
    (lII : K.lookup fII = some ⟨ocII, odII, .func (PySem.W.fnOf "is_an_integer" "is_an_integer" (defArgs s_isint) (defBody s_isint) (defScope s_isint) .none kVII dcII pmII anII cdII ctII), slII⟩)
    (cII : PySem.W.codeIn K cdII "is_an_integer" = true)
    (kII : PySem.W.keepIn K (.ref fII) = true)
    (aR : PySem.W.nsIn K mainGlobals "Ratio" = some (some (.ref CR)))
    (pgR : PySem.W.plainGet K CR Str.empty = true)
    (hdR : PySem.W.hasDictIn K CR = true)
    (poR : PySem.W.plainOver K CR = true)
    (saR : PySem.W.findIn K (.ref CR) "__setattr__" = some (some (.builtin "object.__setattr__")))
    (mkR : PySem.W.makesIn K CR = true)
    (kcR : PySem.W.keepIn K (.ref CR) = true)
    (nR_top : PySem.W.findIn K (.ref CR) "top" = some none)
    (nR_bottom : PySem.W.findIn K (.ref CR) "bottom" = some none)
    (q1R : PySem.W.findIn K (.ref CR) "__class__" = some (some (.builtin "object.__class__")))
    (q2R : PySem.W.mroIn K CR (.type "object") = some true)
    (q3R : PySem.W.typeIn K (.ref CR) = some (.type "type"))
    (aRI : PySem.W.findIn K (.ref CR) "__init__" = some (some (.ref fRI)))
    (lRI : K.lookup fRI = some ⟨ocRI, odRI, .func (PySem.W.fnOf "__init__" "Ratio.__init__" (defArgs s_ratioInit) (defBody s_ratioInit) (defScope s_ratioInit) (.ref dRI) kVRI dcRI pmRI anRI cdRI ctRI), slRI⟩)
    (cRI : PySem.W.codeIn K cdRI "Ratio.__init__" = true)
    (kRI : PySem.W.keepIn K (.ref fRI) = true)
    (iRI : PySem.W.isFn K (.ref fRI) = true)
    (eRI : K.lookup dRI = some ⟨oeRI, oe1RI, .seq #[Value.int 1 tkRI] nRI, skRI⟩)
    (w3 : PySem.W.subIn K (.ref CR) (.type "int") = some false)
    (w4 : PySem.W.subIn K (.ref CR) (.type "bool") = some false)
    (g_gcd : PySem.W.nsIn K mainGlobals "gcd" = some (some (.builtin "math.gcd")))
    (z_len : PySem.W.nsIn K mainGlobals "len" = some none)
    (z_abs : PySem.W.nsIn K mainGlobals "abs" = some none)
    (z_int : PySem.W.nsIn K mainGlobals "int" = some none)
    (z_range : PySem.W.nsIn K mainGlobals "range" = some none)
    (z_isinstance : PySem.W.nsIn K mainGlobals "isinstance" = some none)
    (z_bool : PySem.W.nsIn K mainGlobals "bool" = some none)
    (z_list : PySem.W.nsIn K mainGlobals "list" = some none)
    (z_tuple : PySem.W.nsIn K mainGlobals "tuple" = some none)
    (z_min : PySem.W.nsIn K mainGlobals "min" = some none)
    (astate : PySem.W.nsIn K mainGlobals "_law_state" = some (some (.ref fstate)))
    (lstate : K.lookup fstate = some ⟨ocstate, odstate, .func (PySem.W.fnOf "_law_state" "_law_state" (defArgs s_state) (defBody s_state) (defScope s_state) .none kVstate dcstate pmstate anstate cdstate ctstate), slstate⟩)
    (cstate : PySem.W.codeIn K cdstate "_law_state" = true)
    (kstate : PySem.W.keepIn K (.ref fstate) = true)
    (adraw : PySem.W.nsIn K mainGlobals "_law_draw" = some (some (.ref fdraw)))
    (ldraw : K.lookup fdraw = some ⟨ocdraw, oddraw, .func (PySem.W.fnOf "_law_draw" "_law_draw" (defArgs s_draw) (defBody s_draw) (defScope s_draw) .none kVdraw dcdraw pmdraw andraw cddraw ctdraw), sldraw⟩)
    (cdraw : PySem.W.codeIn K cddraw "_law_draw" = true)
    (kdraw : PySem.W.keepIn K (.ref fdraw) = true)
    (agcd : PySem.W.nsIn K mainGlobals "_law_gcd" = some (some (.ref fgcd)))
    (lgcd : K.lookup fgcd = some ⟨ocgcd, odgcd, .func (PySem.W.fnOf "_law_gcd" "_law_gcd" (defArgs s_gcd) (defBody s_gcd) (defScope s_gcd) .none kVgcd dcgcd pmgcd angcd cdgcd ctgcd), slgcd⟩)
    (cgcd : PySem.W.codeIn K cdgcd "_law_gcd" = true)
    (kgcd : PySem.W.keepIn K (.ref fgcd) = true)
    (alisint : PySem.W.nsIn K mainGlobals "_law_is_integer" = some (some (.ref flisint)))
    (llisint : K.lookup flisint = some ⟨oclisint, odlisint, .func (PySem.W.fnOf "_law_is_integer" "_law_is_integer" (defArgs s_lisint) (defBody s_lisint) (defScope s_lisint) .none kVlisint dclisint pmlisint anlisint cdlisint ctlisint), sllisint⟩)
    (clisint : PySem.W.codeIn K cdlisint "_law_is_integer" = true)
    (klisint : PySem.W.keepIn K (.ref flisint) = true)
    (aisnum : PySem.W.nsIn K mainGlobals "is_number" = some (some (.ref fisnum)))
    (lisnum : K.lookup fisnum = some ⟨ocisnum, odisnum, .func (PySem.W.fnOf "is_number" "is_number" (defArgs s_isnum) (defBody s_isnum) (defScope s_isnum) .none kVisnum dcisnum pmisnum anisnum cdisnum ctisnum), slisnum⟩)
    (cisnum : PySem.W.codeIn K cdisnum "is_number" = true)
    (kisnum : PySem.W.keepIn K (.ref fisnum) = true)
    (aasr : PySem.W.nsIn K mainGlobals "as_ratio" = some (some (.ref fasr)))
    (lasr : K.lookup fasr = some ⟨ocasr, odasr, .func (PySem.W.fnOf "as_ratio" "as_ratio" (defArgs s_asratio) (defBody s_asratio) (defScope s_asratio) .none kVasr dcasr pmasr anasr cdasr ctasr), slasr⟩)
    (casr : PySem.W.codeIn K cdasr "as_ratio" = true)
    (kasr : PySem.W.keepIn K (.ref fasr) = true)
    (aeq : PySem.W.findIn K (.ref CR) "__eq__" = some (some (.ref feq)))
    (leq : K.lookup feq = some ⟨oceq, odeq, .func (PySem.W.fnOf "__eq__" "Ratio.__eq__" (defArgs s_req) (defBody s_req) (defScope s_req) .none kVeq dceq pmeq aneq cdeq cteq), sleq⟩)
    (ceq : PySem.W.codeIn K cdeq "Ratio.__eq__" = true)
    (keq : PySem.W.keepIn K (.ref feq) = true)
    (ieq : PySem.W.isFn K (.ref feq) = true)
    (aover : PySem.W.findIn K (.ref CR) "over" = some (some (.ref fover)))
    (lover : K.lookup fover = some ⟨ocover, odover, .func (PySem.W.fnOf "over" "Ratio.over" (defArgs s_rover) (defBody s_rover) (defScope s_rover) .none kVover dcover pmover anover cdover ctover), slover⟩)
    (cover : PySem.W.codeIn K cdover "Ratio.over" = true)
    (kover : PySem.W.keepIn K (.ref fover) = true)
    (iover : PySem.W.isFn K (.ref fover) = true)
    (aisp : PySem.W.nsIn K mainGlobals "_is_prime" = some (some (.ref fisp)))
    (lisp : K.lookup fisp = some ⟨ocisp, odisp, .func (PySem.W.fnOf "_is_prime" "_is_prime" (defArgs s_isprime) (defBody s_isprime) (defScope s_isprime) .none kVisp dcisp pmisp anisp cdisp ctisp), slisp⟩)
    (cisp : PySem.W.codeIn K cdisp "_is_prime" = true)
    (kisp : PySem.W.keepIn K (.ref fisp) = true)
    (ainv : PySem.W.nsIn K mainGlobals "_inverse" = some (some (.ref finv)))
    (linv : K.lookup finv = some ⟨ocinv, odinv, .func (PySem.W.fnOf "_inverse" "_inverse" (defArgs s_inverse) (defBody s_inverse) (defScope s_inverse) .none kVinv dcinv pminv aninv cdinv ctinv), slinv⟩)
    (cinv : PySem.W.codeIn K cdinv "_inverse" = true)
    (kinv : PySem.W.keepIn K (.ref finv) = true)
    (aF : PySem.W.nsIn K mainGlobals "Field" = some (some (.ref CF)))
    (pgF : PySem.W.plainGet K CF Str.empty = true)
    (hdF : PySem.W.hasDictIn K CF = true)
    (poF : PySem.W.plainOver K CF = true)
    (saF : PySem.W.findIn K (.ref CF) "__setattr__" = some (some (.builtin "object.__setattr__")))
    (mkF : PySem.W.makesIn K CF = true)
    (kcF : PySem.W.keepIn K (.ref CF) = true)
    (nF_prime : PySem.W.findIn K (.ref CF) "prime" = some none)
    (q1F : PySem.W.findIn K (.ref CF) "__class__" = some (some (.builtin "object.__class__")))
    (q2F : PySem.W.mroIn K CF (.type "object") = some true)
    (q3F : PySem.W.typeIn K (.ref CF) = some (.type "type"))
    (aFI : PySem.W.findIn K (.ref CF) "__init__" = some (some (.ref fFI)))
    (lFI : K.lookup fFI = some ⟨ocFI, odFI, .func (PySem.W.fnOf "__init__" "Field.__init__" (defArgs s_finit) (defBody s_finit) (defScope s_finit) (.ref dFI) kVFI dcFI pmFI anFI cdFI ctFI), slFI⟩)
    (cFI : PySem.W.codeIn K cdFI "Field.__init__" = true)
    (kFI : PySem.W.keepIn K (.ref fFI) = true)
    (iFI : PySem.W.isFn K (.ref fFI) = true)
    (eFI : K.lookup dFI = some ⟨oeFI, oe1FI, .seq #[Value.int 0 tkFI] nFI, skFI⟩)
    (afeq : PySem.W.findIn K (.ref CF) "__eq__" = some (some (.ref ffeq)))
    (lfeq : K.lookup ffeq = some ⟨ocfeq, odfeq, .func (PySem.W.fnOf "__eq__" "Field.__eq__" (defArgs s_feq) (defBody s_feq) (defScope s_feq) .none kVfeq dcfeq pmfeq anfeq cdfeq ctfeq), slfeq⟩)
    (cfeq : PySem.W.codeIn K cdfeq "Field.__eq__" = true)
    (kfeq : PySem.W.keepIn K (.ref ffeq) = true)
    (ifeq : PySem.W.isFn K (.ref ffeq) = true)
    (afnum : PySem.W.findIn K (.ref CF) "number" = some (some (.ref ffnum)))
    (lfnum : K.lookup ffnum = some ⟨ocfnum, odfnum, .func (PySem.W.fnOf "number" "Field.number" (defArgs s_fnum) (defBody s_fnum) (defScope s_fnum) .none kVfnum dcfnum pmfnum anfnum cdfnum ctfnum), slfnum⟩)
    (cfnum : PySem.W.codeIn K cdfnum "Field.number" = true)
    (kfnum : PySem.W.keepIn K (.ref ffnum) = true)
    (ifnum : PySem.W.isFn K (.ref ffnum) = true)
    (afover : PySem.W.findIn K (.ref CF) "over" = some (some (.ref ffover)))
    (lfover : K.lookup ffover = some ⟨ocfover, odfover, .func (PySem.W.fnOf "over" "Field.over" (defArgs s_fover) (defBody s_fover) (defScope s_fover) .none kVfover dcfover pmfover anfover cdfover ctfover), slfover⟩)
    (cfover : PySem.W.codeIn K cdfover "Field.over" = true)
    (kfover : PySem.W.keepIn K (.ref ffover) = true)
    (ifover : PySem.W.isFn K (.ref ffover) = true)
    (aseq : PySem.W.nsIn K mainGlobals "is_a_sequence" = some (some (.ref fseq)))
    (lseq : K.lookup fseq = some ⟨ocseq, odseq, .func (PySem.W.fnOf "is_a_sequence" "is_a_sequence" (defArgs s_isseq) (defBody s_isseq) (defScope s_isseq) .none kVseq dcseq pmseq anseq cdseq ctseq), slseq⟩)
    (cseq : PySem.W.codeIn K cdseq "is_a_sequence" = true)
    (kseq : PySem.W.keepIn K (.ref fseq) = true)
    (afromto : PySem.W.nsIn K mainGlobals "is_from_to" = some (some (.ref ffromto)))
    (lfromto : K.lookup ffromto = some ⟨ocfromto, odfromto, .func (PySem.W.fnOf "is_from_to" "is_from_to" (defArgs s_fromto) (defBody s_fromto) (defScope s_fromto) .none kVfromto dcfromto pmfromto anfromto cdfromto ctfromto), slfromto⟩)
    (cfromto : PySem.W.codeIn K cdfromto "is_from_to" = true)
    (kfromto : PySem.W.keepIn K (.ref ffromto) = true)
    (ataken : PySem.W.nsIn K mainGlobals "taken" = some (some (.ref ftaken)))
    (ltaken : K.lookup ftaken = some ⟨octaken, odtaken, .func (PySem.W.fnOf "taken" "taken" (defArgs s_taken) (defBody s_taken) (defScope s_taken) .none kVtaken dctaken pmtaken antaken cdtaken cttaken), sltaken⟩)
    (ctaken : PySem.W.codeIn K cdtaken "taken" = true)
    (ktaken : PySem.W.keepIn K (.ref ftaken) = true)
    (asnum : PySem.W.nsIn K mainGlobals "_numbers" = some (some (.ref fsnum)))
    (lsnum : K.lookup fsnum = some ⟨ocsnum, odsnum, .func (PySem.W.fnOf "_numbers" "_numbers" (defArgs s_snum) (defBody s_snum) (defScope s_snum) .none kVsnum dcsnum pmsnum ansnum cdsnum ctsnum), slsnum⟩)
    (csnum : PySem.W.codeIn K cdsnum "_numbers" = true)
    (ksnum : PySem.W.keepIn K (.ref fsnum) = true)
    (asrow : PySem.W.nsIn K mainGlobals "_row" = some (some (.ref fsrow)))
    (lsrow : K.lookup fsrow = some ⟨ocsrow, odsrow, .func (PySem.W.fnOf "_row" "_row" (defArgs s_srow) (defBody s_srow) (defScope s_srow) .none kVsrow dcsrow pmsrow ansrow cdsrow ctsrow), slsrow⟩)
    (csrow : PySem.W.codeIn K cdsrow "_row" = true)
    (ksrow : PySem.W.keepIn K (.ref fsrow) = true)
    (aRd : PySem.W.nsIn K mainGlobals "Ready" = some (some (.ref CRd)))
    (pgRd : PySem.W.plainGet K CRd Str.empty = true)
    (hdRd : PySem.W.hasDictIn K CRd = true)
    (poRd : PySem.W.plainOver K CRd = true)
    (saRd : PySem.W.findIn K (.ref CRd) "__setattr__" = some (some (.builtin "object.__setattr__")))
    (mkRd : PySem.W.makesIn K CRd = true)
    (kcRd : PySem.W.keepIn K (.ref CRd) = true)
    (nRd_row : PySem.W.findIn K (.ref CRd) "row" = some none)
    (q1Rd : PySem.W.findIn K (.ref CRd) "__class__" = some (some (.builtin "object.__class__")))
    (q2Rd : PySem.W.mroIn K CRd (.type "object") = some true)
    (q3Rd : PySem.W.typeIn K (.ref CRd) = some (.type "type"))
    (ard : PySem.W.findIn K (.ref CRd) "__init__" = some (some (.ref frd)))
    (lrd : K.lookup frd = some ⟨ocrd, odrd, .func (PySem.W.fnOf "__init__" "Ready.__init__" (defArgs s_rd) (defBody s_rd) (defScope s_rd) .none kVrd dcrd pmrd anrd cdrd ctrd), slrd⟩)
    (crd : PySem.W.codeIn K cdrd "Ready.__init__" = true)
    (krd : PySem.W.keepIn K (.ref frd) = true)
    (ird : PySem.W.isFn K (.ref frd) = true)
    (aSe : PySem.W.nsIn K mainGlobals "Series" = some (some (.ref CSe)))
    (pgSe : PySem.W.plainGet K CSe Str.empty = true)
    (hdSe : PySem.W.hasDictIn K CSe = true)
    (poSe : PySem.W.plainOver K CSe = true)
    (saSe : PySem.W.findIn K (.ref CSe) "__setattr__" = some (some (.builtin "object.__setattr__")))
    (mkSe : PySem.W.makesIn K CSe = true)
    (kcSe : PySem.W.keepIn K (.ref CSe) = true)
    (nSe_field : PySem.W.findIn K (.ref CSe) "field" = some none)
    (nSe_coefficients : PySem.W.findIn K (.ref CSe) "coefficients" = some none)
    (nSe_known : PySem.W.findIn K (.ref CSe) "known" = some none)
    (q1Se : PySem.W.findIn K (.ref CSe) "__class__" = some (some (.builtin "object.__class__")))
    (q2Se : PySem.W.mroIn K CSe (.type "object") = some true)
    (q3Se : PySem.W.typeIn K (.ref CSe) = some (.type "type"))
    (asinit : PySem.W.findIn K (.ref CSe) "__init__" = some (some (.ref fsinit)))
    (lsinit : K.lookup fsinit = some ⟨ocsinit, odsinit, .func (PySem.W.fnOf "__init__" "Series.__init__" (defArgs s_sinit) (defBody s_sinit) (defScope s_sinit) .none kVsinit dcsinit pmsinit ansinit cdsinit ctsinit), slsinit⟩)
    (csinit : PySem.W.codeIn K cdsinit "Series.__init__" = true)
    (ksinit : PySem.W.keepIn K (.ref fsinit) = true)
    (isinit : PySem.W.isFn K (.ref fsinit) = true)
    (aslen : PySem.W.findIn K (.ref CSe) "__len__" = some (some (.ref fslen)))
    (lslen : K.lookup fslen = some ⟨ocslen, odslen, .func (PySem.W.fnOf "__len__" "Series.__len__" (defArgs s_slen) (defBody s_slen) (defScope s_slen) .none kVslen dcslen pmslen anslen cdslen ctslen), slslen⟩)
    (cslen : PySem.W.codeIn K cdslen "Series.__len__" = true)
    (kslen : PySem.W.keepIn K (.ref fslen) = true)
    (islen : PySem.W.isFn K (.ref fslen) = true)
    (aseqq : PySem.W.findIn K (.ref CSe) "__eq__" = some (some (.ref fseqq)))
    (lseqq : K.lookup fseqq = some ⟨ocseqq, odseqq, .func (PySem.W.fnOf "__eq__" "Series.__eq__" (defArgs s_seq) (defBody s_seq) (defScope s_seq) .none kVseqq dcseqq pmseqq anseqq cdseqq ctseqq), slseqq⟩)
    (cseqq : PySem.W.codeIn K cdseqq "Series.__eq__" = true)
    (kseqq : PySem.W.keepIn K (.ref fseqq) = true)
    (iseqq : PySem.W.isFn K (.ref fseqq) = true)
    (asfirst : PySem.W.findIn K (.ref CSe) "first" = some (some (.ref fsfirst)))
    (lsfirst : K.lookup fsfirst = some ⟨ocsfirst, odsfirst, .func (PySem.W.fnOf "first" "Series.first" (defArgs s_sfirst) (defBody s_sfirst) (defScope s_sfirst) .none kVsfirst dcsfirst pmsfirst ansfirst cdsfirst ctsfirst), slsfirst⟩)
    (csfirst : PySem.W.codeIn K cdsfirst "Series.first" = true)
    (ksfirst : PySem.W.keepIn K (.ref fsfirst) = true)
    (isfirst : PySem.W.isFn K (.ref fsfirst) = true)
    (asthen : PySem.W.findIn K (.ref CSe) "then" = some (some (.ref fsthen)))
    (lsthen : K.lookup fsthen = some ⟨ocsthen, odsthen, .func (PySem.W.fnOf "then" "Series.then" (defArgs s_sthen) (defBody s_sthen) (defScope s_sthen) .none kVsthen dcsthen pmsthen ansthen cdsthen ctsthen), slsthen⟩)
    (csthen : PySem.W.codeIn K cdsthen "Series.then" = true)
    (ksthen : PySem.W.keepIn K (.ref fsthen) = true)
    (isthen : PySem.W.isFn K (.ref fsthen) = true)
    (alip : PySem.W.nsIn K mainGlobals "_law_is_prime" = some (some (.ref flip)))
    (llip : K.lookup flip = some ⟨oclip, odlip, .func (PySem.W.fnOf "_law_is_prime" "_law_is_prime" (defArgs s_lip) (defBody s_lip) (defScope s_lip) .none kVlip dclip pmlip anlip cdlip ctlip), sllip⟩)
    (clip : PySem.W.codeIn K cdlip "_law_is_prime" = true)
    (klip : PySem.W.keepIn K (.ref flip) = true)
    (alpr : PySem.W.nsIn K mainGlobals "_law_prime" = some (some (.ref flpr)))
    (llpr : K.lookup flpr = some ⟨oclpr, odlpr, .func (PySem.W.fnOf "_law_prime" "_law_prime" (defArgs s_lpr) (defBody s_lpr) (defScope s_lpr) .none kVlpr dclpr pmlpr anlpr cdlpr ctlpr), sllpr⟩)
    (clpr : PySem.W.codeIn K cdlpr "_law_prime" = true)
    (klpr : PySem.W.keepIn K (.ref flpr) = true)
    (apair : PySem.W.nsIn K mainGlobals "_law_pair" = some (some (.ref fpair)))
    (lpair : K.lookup fpair = some ⟨ocpair, odpair, .func (PySem.W.fnOf "_law_pair" "_law_pair" (defArgs s_pair) (defBody s_pair) (defScope s_pair) .none kVpair dcpair pmpair anpair cdpair ctpair), slpair⟩)
    (cpair : PySem.W.codeIn K cdpair "_law_pair" = true)
    (kpair : PySem.W.keepIn K (.ref fpair) = true)
    (aplus : PySem.W.nsIn K mainGlobals "_law_plus" = some (some (.ref fplus)))
    (lplus : K.lookup fplus = some ⟨ocplus, odplus, .func (PySem.W.fnOf "_law_plus" "_law_plus" (defArgs s_plus) (defBody s_plus) (defScope s_plus) .none kVplus dcplus pmplus anplus cdplus ctplus), slplus⟩)
    (cplus : PySem.W.codeIn K cdplus "_law_plus" = true)
    (kplus : PySem.W.keepIn K (.ref fplus) = true)
    (aminus : PySem.W.nsIn K mainGlobals "_law_minus" = some (some (.ref fminus)))
    (lminus : K.lookup fminus = some ⟨ocminus, odminus, .func (PySem.W.fnOf "_law_minus" "_law_minus" (defArgs s_minus) (defBody s_minus) (defScope s_minus) .none kVminus dcminus pmminus anminus cdminus ctminus), slminus⟩)
    (cminus : PySem.W.codeIn K cdminus "_law_minus" = true)
    (kminus : PySem.W.keepIn K (.ref fminus) = true)
    (atimes : PySem.W.nsIn K mainGlobals "_law_times" = some (some (.ref ftimes)))
    (ltimes : K.lookup ftimes = some ⟨octimes, odtimes, .func (PySem.W.fnOf "_law_times" "_law_times" (defArgs s_times) (defBody s_times) (defScope s_times) .none kVtimes dctimes pmtimes antimes cdtimes cttimes), sltimes⟩)
    (ctimes : PySem.W.codeIn K cdtimes "_law_times" = true)
    (ktimes : PySem.W.keepIn K (.ref ftimes) = true)
    (agiven : PySem.W.nsIn K mainGlobals "_law_given" = some (some (.ref fgiven)))
    (lgiven : K.lookup fgiven = some ⟨ocgiven, odgiven, .func (PySem.W.fnOf "_law_given" "_law_given" (defArgs s_given) (defBody s_given) (defScope s_given) .none kVgiven dcgiven pmgiven angiven cdgiven ctgiven), slgiven⟩)
    (cgiven : PySem.W.codeIn K cdgiven "_law_given" = true)
    (kgiven : PySem.W.keepIn K (.ref fgiven) = true)
    (apassed : PySem.W.nsIn K mainGlobals "_law_passed" = some (some (.ref fpassed)))
    (lpassed : K.lookup fpassed = some ⟨ocpassed, odpassed, .func (PySem.W.fnOf "_law_passed" "_law_passed" (defArgs s_passed) (defBody s_passed) (defScope s_passed) .none kVpassed dcpassed pmpassed anpassed cdpassed ctpassed), slpassed⟩)
    (cpassed : PySem.W.codeIn K cdpassed "_law_passed" = true)
    (kpassed : PySem.W.keepIn K (.ref fpassed) = true)
    (anumber : PySem.W.nsIn K mainGlobals "_law_number" = some (some (.ref fnumber)))
    (lnumber : K.lookup fnumber = some ⟨ocnumber, odnumber, .func (PySem.W.fnOf "_law_number" "_law_number" (defArgs s_number) (defBody s_number) (defScope s_number) .none kVnumber dcnumber pmnumber annumber cdnumber ctnumber), slnumber⟩)
    (cnumber : PySem.W.codeIn K cdnumber "_law_number" = true)
    (knumber : PySem.W.keepIn K (.ref fnumber) = true)
    (aunit : PySem.W.nsIn K mainGlobals "_law_unit" = some (some (.ref funit)))
    (lunit : K.lookup funit = some ⟨ocunit, odunit, .func (PySem.W.fnOf "_law_unit" "_law_unit" (defArgs s_unit) (defBody s_unit) (defScope s_unit) .none kVunit dcunit pmunit anunit cdunit ctunit), slunit⟩)
    (cunit : PySem.W.codeIn K cdunit "_law_unit" = true)
    (kunit : PySem.W.keepIn K (.ref funit) = true)
    (asmall : PySem.W.nsIn K mainGlobals "_law_small" = some (some (.ref fsmall)))
    (lsmall : K.lookup fsmall = some ⟨ocsmall, odsmall, .func (PySem.W.fnOf "_law_small" "_law_small" (defArgs s_small) (defBody s_small) (defScope s_small) .none kVsmall dcsmall pmsmall ansmall cdsmall ctsmall), slsmall⟩)
    (csmall : PySem.W.codeIn K cdsmall "_law_small" = true)
    (ksmall : PySem.W.keepIn K (.ref fsmall) = true)
    (aexp : PySem.W.nsIn K mainGlobals "_law_expansion" = some (some (.ref fexp)))
    (lexp : K.lookup fexp = some ⟨ocexp, odexp, .func (PySem.W.fnOf "_law_expansion" "_law_expansion" (defArgs s_exp) (defBody s_exp) (defScope s_exp) .none kVexp dcexp pmexp anexp cdexp ctexp), slexp⟩)
    (cexp : PySem.W.codeIn K cdexp "_law_expansion" = true)
    (kexp : PySem.W.keepIn K (.ref fexp) = true)
    (aplanted : PySem.W.nsIn K mainGlobals "_law_planted" = some (some (.ref fplanted)))
    (lplanted : K.lookup fplanted = some ⟨ocplanted, odplanted, .func (PySem.W.fnOf "_law_planted" "_law_planted" (defArgs s_planted) (defBody s_planted) (defScope s_planted) .none kVplanted dcplanted pmplanted anplanted cdplanted ctplanted), slplanted⟩)
    (cplanted : PySem.W.codeIn K cdplanted "_law_planted" = true)
    (kplanted : PySem.W.keepIn K (.ref fplanted) = true)
    (acoefs : PySem.W.nsIn K mainGlobals "_law_coefficients" = some (some (.ref fcoefs)))
    (lcoefs : K.lookup fcoefs = some ⟨occoefs, odcoefs, .func (PySem.W.fnOf "_law_coefficients" "_law_coefficients" (defArgs s_coefs) (defBody s_coefs) (defScope s_coefs) .none kVcoefs dccoefs pmcoefs ancoefs cdcoefs ctcoefs), slcoefs⟩)
    (ccoefs : PySem.W.codeIn K cdcoefs "_law_coefficients" = true)
    (kcoefs : PySem.W.keepIn K (.ref fcoefs) = true)
    (alread : PySem.W.nsIn K mainGlobals "_law_read" = some (some (.ref flread)))
    (llread : K.lookup flread = some ⟨oclread, odlread, .func (PySem.W.fnOf "_law_read" "_law_read" (defArgs s_lread) (defBody s_lread) (defScope s_lread) .none kVlread dclread pmlread anlread cdlread ctlread), sllread⟩)
    (clread : PySem.W.codeIn K cdlread "_law_read" = true)
    (klread : PySem.W.keepIn K (.ref flread) = true)
    (arowt : PySem.W.nsIn K mainGlobals "_law_row" = some (some (.ref frowt)))
    (lrowt : K.lookup frowt = some ⟨ocrowt, odrowt, .func (PySem.W.fnOf "_law_row" "_law_row" (defArgs s_rowt) (defBody s_rowt) (defScope s_rowt) .none kVrowt dcrowt pmrowt anrowt cdrowt ctrowt), slrowt⟩)
    (crowt : PySem.W.codeIn K cdrowt "_law_row" = true)
    (krowt : PySem.W.keepIn K (.ref frowt) = true)
    (atold : PySem.W.nsIn K mainGlobals "_law_told_series" = some (some (.ref ftold)))
    (ltold : K.lookup ftold = some ⟨octold, odtold, .func (PySem.W.fnOf "_law_told_series" "_law_told_series" (defArgs s_told) (defBody s_told) (defScope s_told) .none kVtold dctold pmtold antold cdtold cttold), sltold⟩)
    (ctold : PySem.W.codeIn K cdtold "_law_told_series" = true)
    (ktold : PySem.W.keepIn K (.ref ftold) = true)
    (arefused : PySem.W.nsIn K mainGlobals "_law_refused" = some (some (.ref frefused)))
    (lrefused : K.lookup frefused = some ⟨ocrefused, odrefused, .func (PySem.W.fnOf "_law_refused" "_law_refused" (defArgs s_refused) (defBody s_refused) (defScope s_refused) .none kVrefused dcrefused pmrefused anrefused cdrefused ctrefused), slrefused⟩)
    (crefused : PySem.W.codeIn K cdrefused "_law_refused" = true)
    (krefused : PySem.W.keepIn K (.ref frefused) = true)
    (afurther : PySem.W.nsIn K mainGlobals "_law_further" = some (some (.ref ffurther)))
    (lfurther : K.lookup ffurther = some ⟨ocfurther, odfurther, .func (PySem.W.fnOf "_law_further" "_law_further" (defArgs s_further) (defBody s_further) (defScope s_further) .none kVfurther dcfurther pmfurther anfurther cdfurther ctfurther), slfurther⟩)
    (cfurther : PySem.W.codeIn K cdfurther "_law_further" = true)
    (kfurther : PySem.W.keepIn K (.ref ffurther) = true)
    (acounted : PySem.W.nsIn K mainGlobals "_law_counted" = some (some (.ref fcounted)))
    (lcounted : K.lookup fcounted = some ⟨occounted, odcounted, .func (PySem.W.fnOf "_law_counted" "_law_counted" (defArgs s_counted) (defBody s_counted) (defScope s_counted) .none kVcounted dccounted pmcounted ancounted cdcounted ctcounted), slcounted⟩)
    (ccounted : PySem.W.codeIn K cdcounted "_law_counted" = true)
    (kcounted : PySem.W.keepIn K (.ref fcounted) = true)
    (amore : PySem.W.nsIn K mainGlobals "_law_more_refusals" = some (some (.ref fmore)))
    (lmore : K.lookup fmore = some ⟨ocmore, odmore, .func (PySem.W.fnOf "_law_more_refusals" "_law_more_refusals" (defArgs s_more) (defBody s_more) (defScope s_more) .none kVmore dcmore pmmore anmore cdmore ctmore), slmore⟩)
    (cmore : PySem.W.codeIn K cdmore "_law_more_refusals" = true)
    (kmore : PySem.W.keepIn K (.ref fmore) = true)
    (arefusals : PySem.W.nsIn K mainGlobals "_law_refusals" = some (some (.ref frefusals)))
    (lrefusals : K.lookup frefusals = some ⟨ocrefusals, odrefusals, .func (PySem.W.fnOf "_law_refusals" "_law_refusals" (defArgs s_refusals) (defBody s_refusals) (defScope s_refusals) .none kVrefusals dcrefusals pmrefusals anrefusals cdrefusals ctrefusals), slrefusals⟩)
    (crefusals : PySem.W.codeIn K cdrefusals "_law_refusals" = true)
    (krefusals : PySem.W.keepIn K (.ref frefusals) = true)
    (ala : PySem.W.nsIn K mainGlobals "law" = some (some (.ref fla)))
    (lla : K.lookup fla = some ⟨ocla, odla, .func (PySem.W.fnOf "law" "law" (defArgs s_law) (defBody s_law) (defScope s_law) .none kVla dcla pmla anla cdla ctla), slla⟩)
    (cla : PySem.W.codeIn K cdla "law" = true)
    (kla : PySem.W.keepIn K (.ref fla) = true)
    (w_int : PySem.W.subIn K (.type "int") (.ref CR) = some false)
    (w_str : PySem.W.subIn K (.type "str") (.ref CR) = some false)
    (w_NoneType : PySem.W.subIn K (.type "NoneType") (.ref CR) = some false)
    (w_bool : PySem.W.subIn K (.type "bool") (.ref CR) = some false)
    (w_list : PySem.W.subIn K (.type "list") (.ref CR) = some false)
    (w_tuple : PySem.W.subIn K (.type "tuple") (.ref CR) = some false)
    (w_dict : PySem.W.subIn K (.type "dict") (.ref CR) = some false)
    (wF_int : PySem.W.subIn K (.type "int") (.ref CF) = some false)
    (nf_int : PySem.W.notFirst K CR (.type "int") = true)
    (nfS_list : PySem.W.notFirst K CSe (.type "list") = true)
    (wS_list : PySem.W.subIn K (.type "list") (.ref CSe) = some false)
    (g_isqrt : PySem.W.nsIn K mainGlobals "isqrt" = some (some (.builtin "math.isqrt")))
    (g_GP : PySem.W.nsIn K mainGlobals "GREATEST_PRIME" = some (some (.int 9973 tkGP)))
    (g_MP : PySem.W.nsIn K mainGlobals "MOST_PASSED" = some (some (.int 32 tkMP)))
    (g_MK : PySem.W.nsIn K mainGlobals "MOST_KNOWN" = some (some (.int 79 tkMK)))
    (wd_int : PySem.W.subIn K (.type "int") (.ref CRd) = some false)
    (wd_str : PySem.W.subIn K (.type "str") (.ref CRd) = some false)
    (wd_NoneType : PySem.W.subIn K (.type "NoneType") (.ref CRd) = some false)
    (wd_bool : PySem.W.subIn K (.type "bool") (.ref CRd) = some false)
    (wd_list : PySem.W.subIn K (.type "list") (.ref CRd) = some false)
    (wd_tuple : PySem.W.subIn K (.type "tuple") (.ref CRd) = some false)
    (wd_dict : PySem.W.subIn K (.type "dict") (.ref CRd) = some false)
    (wd_R : PySem.W.subIn K (.ref CR) (.ref CRd) = some false)
    (wd_self : PySem.W.subIn K (.ref CRd) (.ref CRd) = some true)
    (wR_list : PySem.W.subIn K (.ref CR) (.type "list") = some false)
    (wR_tuple : PySem.W.subIn K (.ref CR) (.type "tuple") = some false)
    (aNF : PySem.W.nsIn K mainGlobals "NoField" = some (some (.ref CNF)))
    (xLNF : K.lookup CNF = some (excClassObj nmNF qNF CNF NaNF bsNF [.ref CS, .type "ValueError", .type "Exception", .type "BaseException", .type "object"] true snNF subNF abNF colNF ddNF m0NF m1NF m2NF m3NF m5NF "ValueError.__new__"))
    (x3NF : PySem.W.typeIn K (.ref CNF) = some (.type "type"))
    (x4NF : PySem.W.keepIn K (.ref CNF) = true)
    (x2NF : PySem.W.subIn K (.ref CNF) (.type "BaseException") = some true)
    (x7NF : PySem.W.subIn K (.ref CNF) (.ref CNF) = some true)
    (y8NF : PySem.W.hasDictIn K CNF = true)
    (aNN : PySem.W.nsIn K mainGlobals "NoNumber" = some (some (.ref CNN)))
    (xLNN : K.lookup CNN = some (excClassObj nmNN qNN CNN NaNN bsNN [.ref CS, .type "ValueError", .type "Exception", .type "BaseException", .type "object"] true snNN subNN abNN colNN ddNN m0NN m1NN m2NN m3NN m5NN "ValueError.__new__"))
    (x3NN : PySem.W.typeIn K (.ref CNN) = some (.type "type"))
    (x4NN : PySem.W.keepIn K (.ref CNN) = true)
    (x2NN : PySem.W.subIn K (.ref CNN) (.type "BaseException") = some true)
    (x7NN : PySem.W.subIn K (.ref CNN) (.ref CNN) = some true)
    (y8NN : PySem.W.hasDictIn K CNN = true)
    (aNC : PySem.W.nsIn K mainGlobals "NoCount" = some (some (.ref CNC)))
    (xLNC : K.lookup CNC = some (excClassObj nmNC qNC CNC NaNC bsNC [.ref CS, .type "ValueError", .type "Exception", .type "BaseException", .type "object"] true snNC subNC abNC colNC ddNC m0NC m1NC m2NC m3NC m5NC "ValueError.__new__"))
    (x3NC : PySem.W.typeIn K (.ref CNC) = some (.type "type"))
    (x4NC : PySem.W.keepIn K (.ref CNC) = true)
    (x2NC : PySem.W.subIn K (.ref CNC) (.type "BaseException") = some true)
    (x7NC : PySem.W.subIn K (.ref CNC) (.ref CNC) = some true)
    (y8NC : PySem.W.hasDictIn K CNC = true)
    (xLS : K.lookup CS = some (excClassObj nmS qS CS NaS bsS [.type "ValueError", .type "Exception", .type "BaseException", .type "object"] true snS subS abS colS ddS m0S m1S m2S m3S m5S "ValueError.__new__"))
    (n1S : K.lookup NaS = some ⟨ncS, ndS, .dict neS npS, nsS⟩)
    (n2S : (neS.toList.all fun e => match e.key with | .str _ _ => true | _ => false) = true)
    (n3S : PySem.W.nsIn K NaS "__init__" = some none)
    (n1NF : K.lookup NaNF = some ⟨ncNF, ndNF, .dict neNF npNF, nsNF⟩)
    (n2NF : (neNF.toList.all fun e => match e.key with | .str _ _ => true | _ => false) = true)
    (n3NF : PySem.W.nsIn K NaNF "__init__" = some none)
    (n1NN : K.lookup NaNN = some ⟨ncNN, ndNN, .dict neNN npNN, nsNN⟩)
    (n2NN : (neNN.toList.all fun e => match e.key with | .str _ _ => true | _ => false) = true)
    (n3NN : PySem.W.nsIn K NaNN "__init__" = some none)
    (n1NC : K.lookup NaNC = some ⟨ncNC, ndNC, .dict neNC npNC, nsNC⟩)
    (n2NC : (neNC.toList.all fun e => match e.key with | .str _ _ => true | _ => false) = true)
    (n3NC : PySem.W.nsIn K NaNC "__init__" = some none)
    (aPL : PySem.W.nsIn K mainGlobals "NoSeries" = some (some (.ref CPL)))
    (x3PL : PySem.W.typeIn K (.ref CPL) = some (.type "type"))
    (y8PL : PySem.W.hasDictIn K CPL = true)
    (aPLI : PySem.W.findIn K (.ref CPL) "__init__" = some (some (.ref fPLI)))
    (lPLI : K.lookup fPLI = some ⟨ocPLI, odPLI, .func (PySem.W.fnOf "__init__" "NoSeries.__init__" (defArgs s_placeInit) (defBody s_placeInit) (defScope s_placeInit) .none kVPLI dcPLI pmPLI anPLI cdPLI ctPLI), slPLI⟩)
    (cPLI : PySem.W.codeIn K cdPLI "NoSeries.__init__" = true)
    (kPLI : PySem.W.keepIn K (.ref fPLI) = true)
    (iPLI : PySem.W.isFn K (.ref fPLI) = true)
    (xLPL : K.lookup CPL = some (excClassObj nmPL qPL CPL NaPL bsPL [.ref CS, .type "ValueError", .type "Exception", .type "BaseException", .type "object"] true snPL subPL abPL colPL ddPL m0PL m1PL m2PL m3PL m5PL "ValueError.__new__"))
    (x1PL : PySem.W.findIn K (.ref CPL) "__setattr__" = some (some (.builtin "object.__setattr__")))
    (x2PL : PySem.W.subIn K (.ref CPL) (.type "BaseException") = some true)
    (x4PL : PySem.W.keepIn K (.ref CPL) = true)
    (x5PL : PySem.W.findIn K (.ref CPL) "place" = some none)
    (x6PL : PySem.W.typeIn K (.ref fPLI) = some (.type "function"))
    (x7PL : PySem.W.subIn K (.ref CPL) (.ref CPL) = some true)
    (x8PL : PySem.W.subIn K (.ref CPL) (.ref CS) = some true)
    (x9PL : PySem.W.subIn K (.ref CPL) (.type "ValueError") = some true)
    (y2PL : PySem.W.findIn K (.ref CPL) "__getattribute__" = some (some (.builtin "BaseException.__getattribute__")))
    (y3PL : PySem.W.findIn K (.ref CPL) "__getattr__" = some none)
    (y4PL : PySem.W.findIn K (.ref CPL) "__class__" = some (some (.builtin "object.__class__")))
    (y7PL : PySem.W.mroIn K CPL (.type "object") = some true) :
    ∃ fd : FuncData, (∀ (s : Shared) (v : Value), BindsTo s fd ⟨[v], []⟩ [("_law_script", v)]) ∧ ∀ base : Heap, K.In base → base.Ns mainGlobals mg → FnOk P w K mg base CX0 18 fa fd ["_law_script"] (spLaw K) := by
  have e := hfa.symm.trans (PySem.W.mg_of X G ala)
  cases e
  have m_S : mg "SeriesError" = some (.ref CS) := PySem.W.mg_of X G aS
  have m_N : mg "NoRatio" = some (.ref CN) := PySem.W.mg_of X G aN
  have F_NI := fun_mk (st := s_noRatioInit) lNI cNI kNI
  have b_NI := F_NI.binds (ps := ["self", "word"]) fun _ _ _ _ _ _ us hl => match us, hl with | [_, _], _ => rfl
  have NN : NTx K mg CN fNI := ⟨⟨⟨nmN, qN, NaN, bsN, _, snN, subN, abN, colN, ddN, m0N, m1N, m2N, m3N, m5N, xLN, rfl⟩, x1N, x2N, x3N, x4N⟩, x5N, aNI, x6N⟩
  have teN := PySem.W.exm_ref x2N y8N x3N x7N
  have xfN : XfC K CN := ⟨y2N, y3N, x2N, y8N⟩
  have eiN : EIx K CN := ⟨cls_some y8N, y2N, y3N, x2N, y4N, y5, y6, y7N⟩
  have F_II := fun_mk (st := s_isint) lII cII kII
  have b_II := F_II.binds (ps := ["value"]) fun _ _ _ _ _ _ us hl => match us, hl with | [_], _ => rfl
  have m_II : mg "is_an_integer" = some (.ref fII) := PySem.W.mg_of X G aII
  have m_R : mg "Ratio" = some (.ref CR) := PySem.W.mg_of X G aR
  have F_RI : FunD K "__init__" "Ratio.__init__" (defArgs s_ratioInit) (defBody s_ratioInit) (defScope s_ratioInit) [.int 1] [] fRI _ := ⟨⟨_, _, _, _, _, _, _, _, _, _, rfl, lRI, cRI, .inr ⟨by simp, dRI, _, [Value.int 1 tkRI], nRI, rfl, eRI, rfl, .cons ⟨_, rfl⟩ .nil⟩, .inl rfl⟩, kRI⟩
  have T : CTx K CR := ⟨⟨pgR, hdR, poR, saR⟩, nR_top, nR_bottom⟩
  have Y : ITy K CR := ⟨q1R, y5, y6, q2R, kit_ty2 (by decide +kernel) w3, kit_ty2 (by decide +kernel) w4⟩
  have GT : GTx mg CN := ⟨PySem.W.mg_of X G g_gcd, m_N⟩
  obtain ⟨ds0, v0, b_R⟩ := F_RI.binds1 (ps := ["self", "top", "bottom"]) 3 1 (by simp) rfl fun _ _ _ _ _ _ _ us its hl hi => match us, its, hl, hi with | [_, _, _], [_], _, _ => ⟨_, rfl, rfl⟩
  cases v0
  obtain ⟨ds1, v1, b_R1⟩ := F_RI.binds1 (ps := ["self", "top", "bottom"]) 2 0 (by simp) rfl fun _ _ _ _ _ _ _ us its hl hi => match us, its, hl, hi with | [_, _], [_], _, _ => ⟨_, rfl, rfl⟩
  have M : Mk K CR fRI := ⟨mkR, aRI, iRI, kcR⟩
  have z_len := PySem.W.mg_none_of X G z_len
  have z_abs := PySem.W.mg_none_of X G z_abs
  have z_int := PySem.W.mg_none_of X G z_int
  have z_range := PySem.W.mg_none_of X G z_range
  have z_isinstance := PySem.W.mg_none_of X G z_isinstance
  have z_bool := PySem.W.mg_none_of X G z_bool
  have z_list := PySem.W.mg_none_of X G z_list
  have z_tuple := PySem.W.mg_none_of X G z_tuple
  have z_min := PySem.W.mg_none_of X G z_min
  have D : DTx mg := ⟨z_len, z_abs, z_int, z_range⟩
  have I : ITx mg := ⟨z_isinstance, z_int, z_bool⟩
  have F_state := fun_mk (st := s_state) lstate cstate kstate
  have b_state := F_state.binds (ps := ["_law_script"]) fun _ _ _ _ _ _ us hl => match us, hl with | [_], _ => rfl
  have m_state : mg "_law_state" = some (.ref fstate) := PySem.W.mg_of X G astate
  have F_draw := fun_mk (st := s_draw) ldraw cdraw kdraw
  have b_draw := F_draw.binds (ps := ["_law_state_here", "_law_many"]) fun _ _ _ _ _ _ us hl => match us, hl with | [_, _], _ => rfl
  have m_draw : mg "_law_draw" = some (.ref fdraw) := PySem.W.mg_of X G adraw
  have F_gcd := fun_mk (st := s_gcd) lgcd cgcd kgcd
  have b_gcd := F_gcd.binds (ps := ["_law_one", "_law_other"]) fun _ _ _ _ _ _ us hl => match us, hl with | [_, _], _ => rfl
  have m_gcd : mg "_law_gcd" = some (.ref fgcd) := PySem.W.mg_of X G agcd
  have F_lisint := fun_mk (st := s_lisint) llisint clisint klisint
  have b_lisint := F_lisint.binds (ps := ["_law_told"]) fun _ _ _ _ _ _ us hl => match us, hl with | [_], _ => rfl
  have m_lisint : mg "_law_is_integer" = some (.ref flisint) := PySem.W.mg_of X G alisint
  have F_isnum := fun_mk (st := s_isnum) lisnum cisnum kisnum
  have b_isnum := F_isnum.binds (ps := ["value"]) fun _ _ _ _ _ _ us hl => match us, hl with | [_], _ => rfl
  have m_isnum : mg "is_number" = some (.ref fisnum) := PySem.W.mg_of X G aisnum
  have F_asr := fun_mk (st := s_asratio) lasr casr kasr
  have b_asr := F_asr.binds (ps := ["number"]) fun _ _ _ _ _ _ us hl => match us, hl with | [_], _ => rfl
  have m_asr : mg "as_ratio" = some (.ref fasr) := PySem.W.mg_of X G aasr
  have F_eq := fun_mk (st := s_req) leq ceq keq
  have b_eq := F_eq.binds (ps := ["self", "other"]) fun _ _ _ _ _ _ us hl => match us, hl with | [_, _], _ => rfl
  have F_over := fun_mk (st := s_rover) lover cover kover
  have b_over := F_over.binds (ps := ["self", "other"]) fun _ _ _ _ _ _ us hl => match us, hl with | [_, _], _ => rfl
  have F_isp := fun_mk (st := s_isprime) lisp cisp kisp
  have b_isp := F_isp.binds (ps := ["count"]) fun _ _ _ _ _ _ us hl => match us, hl with | [_], _ => rfl
  have m_isp : mg "_is_prime" = some (.ref fisp) := PySem.W.mg_of X G aisp
  have F_inv := fun_mk (st := s_inverse) linv cinv kinv
  have b_inv := F_inv.binds (ps := ["number", "prime"]) fun _ _ _ _ _ _ us hl => match us, hl with | [_, _], _ => rfl
  have m_inv : mg "_inverse" = some (.ref finv) := PySem.W.mg_of X G ainv
  have m_F : mg "Field" = some (.ref CF) := PySem.W.mg_of X G aF
  have F_FI : FunD K "__init__" "Field.__init__" (defArgs s_finit) (defBody s_finit) (defScope s_finit) [.int 0] [] fFI _ := ⟨⟨_, _, _, _, _, _, _, _, _, _, rfl, lFI, cFI, .inr ⟨by simp, dFI, _, [Value.int 0 tkFI], nFI, rfl, eFI, rfl, .cons ⟨_, rfl⟩ .nil⟩, .inl rfl⟩, kFI⟩
  have F_feq := fun_mk (st := s_feq) lfeq cfeq kfeq
  have b_feq := F_feq.binds (ps := ["self", "other"]) fun _ _ _ _ _ _ us hl => match us, hl with | [_, _], _ => rfl
  have F_fnum := fun_mk (st := s_fnum) lfnum cfnum kfnum
  have b_fnum := F_fnum.binds (ps := ["self", "value"]) fun _ _ _ _ _ _ us hl => match us, hl with | [_, _], _ => rfl
  have F_fover := fun_mk (st := s_fover) lfover cfover kfover
  have b_fover := F_fover.binds (ps := ["self", "one", "other"]) fun _ _ _ _ _ _ us hl => match us, hl with | [_, _, _], _ => rfl
  have F_seq := fun_mk (st := s_isseq) lseq cseq kseq
  have b_seq := F_seq.binds (ps := ["value"]) fun _ _ _ _ _ _ us hl => match us, hl with | [_], _ => rfl
  have m_seq : mg "is_a_sequence" = some (.ref fseq) := PySem.W.mg_of X G aseq
  have F_fromto := fun_mk (st := s_fromto) lfromto cfromto kfromto
  have b_fromto := F_fromto.binds (ps := ["value", "low", "high"]) fun _ _ _ _ _ _ us hl => match us, hl with | [_, _, _], _ => rfl
  have m_fromto : mg "is_from_to" = some (.ref ffromto) := PySem.W.mg_of X G afromto
  have F_taken := fun_mk (st := s_taken) ltaken ctaken ktaken
  have b_taken := F_taken.binds (ps := ["field", "values"]) fun _ _ _ _ _ _ us hl => match us, hl with | [_, _], _ => rfl
  have m_taken : mg "taken" = some (.ref ftaken) := PySem.W.mg_of X G ataken
  have F_snum := fun_mk (st := s_snum) lsnum csnum ksnum
  have b_snum := F_snum.binds (ps := ["field", "values"]) fun _ _ _ _ _ _ us hl => match us, hl with | [_, _], _ => rfl
  have m_snum : mg "_numbers" = some (.ref fsnum) := PySem.W.mg_of X G asnum
  have F_srow := fun_mk (st := s_srow) lsrow csrow ksrow
  have b_srow := F_srow.binds (ps := ["field", "coefficients"]) fun _ _ _ _ _ _ us hl => match us, hl with | [_, _], _ => rfl
  have m_srow : mg "_row" = some (.ref fsrow) := PySem.W.mg_of X G asrow
  have m_Rd : mg "Ready" = some (.ref CRd) := PySem.W.mg_of X G aRd
  have F_rd := fun_mk (st := s_rd) lrd crd krd
  have b_rd := F_rd.binds (ps := ["self", "row"]) fun _ _ _ _ _ _ us hl => match us, hl with | [_, _], _ => rfl
  have m_Se : mg "Series" = some (.ref CSe) := PySem.W.mg_of X G aSe
  have F_sinit := fun_mk (st := s_sinit) lsinit csinit ksinit
  have b_sinit := F_sinit.binds (ps := ["self", "field", "coefficients"]) fun _ _ _ _ _ _ us hl => match us, hl with | [_, _, _], _ => rfl
  have F_slen := fun_mk (st := s_slen) lslen cslen kslen
  have b_slen := F_slen.binds (ps := ["self"]) fun _ _ _ _ _ _ us hl => match us, hl with | [_], _ => rfl
  have F_seqq := fun_mk (st := s_seq) lseqq cseqq kseqq
  have b_seqq := F_seqq.binds (ps := ["self", "other"]) fun _ _ _ _ _ _ us hl => match us, hl with | [_, _], _ => rfl
  have F_sfirst := fun_mk (st := s_sfirst) lsfirst csfirst ksfirst
  have b_sfirst := F_sfirst.binds (ps := ["self", "count"]) fun _ _ _ _ _ _ us hl => match us, hl with | [_, _], _ => rfl
  have F_sthen := fun_mk (st := s_sthen) lsthen csthen ksthen
  have b_sthen := F_sthen.binds (ps := ["self", "numbers"]) fun _ _ _ _ _ _ us hl => match us, hl with | [_, _], _ => rfl
  have F_lip := fun_mk (st := s_lip) llip clip klip
  have b_lip := F_lip.binds (ps := ["_law_value"]) fun _ _ _ _ _ _ us hl => match us, hl with | [_], _ => rfl
  have m_lip : mg "_law_is_prime" = some (.ref flip) := PySem.W.mg_of X G alip
  have F_lpr := fun_mk (st := s_lpr) llpr clpr klpr
  have b_lpr := F_lpr.binds (ps := ["_law_state_here"]) fun _ _ _ _ _ _ us hl => match us, hl with | [_], _ => rfl
  have m_lpr : mg "_law_prime" = some (.ref flpr) := PySem.W.mg_of X G alpr
  have F_pair := fun_mk (st := s_pair) lpair cpair kpair
  have b_pair := F_pair.binds (ps := ["_law_prime_here", "_law_top", "_law_bottom"]) fun _ _ _ _ _ _ us hl => match us, hl with | [_, _, _], _ => rfl
  have m_pair : mg "_law_pair" = some (.ref fpair) := PySem.W.mg_of X G apair
  have F_plus := fun_mk (st := s_plus) lplus cplus kplus
  have b_plus := F_plus.binds (ps := ["_law_prime_here", "_law_one", "_law_other"]) fun _ _ _ _ _ _ us hl => match us, hl with | [_, _, _], _ => rfl
  have m_plus : mg "_law_plus" = some (.ref fplus) := PySem.W.mg_of X G aplus
  have F_minus := fun_mk (st := s_minus) lminus cminus kminus
  have b_minus := F_minus.binds (ps := ["_law_prime_here", "_law_one", "_law_other"]) fun _ _ _ _ _ _ us hl => match us, hl with | [_, _, _], _ => rfl
  have m_minus : mg "_law_minus" = some (.ref fminus) := PySem.W.mg_of X G aminus
  have F_times := fun_mk (st := s_times) ltimes ctimes ktimes
  have b_times := F_times.binds (ps := ["_law_prime_here", "_law_one", "_law_other"]) fun _ _ _ _ _ _ us hl => match us, hl with | [_, _, _], _ => rfl
  have m_times : mg "_law_times" = some (.ref ftimes) := PySem.W.mg_of X G atimes
  have F_given := fun_mk (st := s_given) lgiven cgiven kgiven
  have b_given := F_given.binds (ps := ["_law_pair_here"]) fun _ _ _ _ _ _ us hl => match us, hl with | [_], _ => rfl
  have m_given : mg "_law_given" = some (.ref fgiven) := PySem.W.mg_of X G agiven
  have F_passed := fun_mk (st := s_passed) lpassed cpassed kpassed
  have b_passed := F_passed.binds (ps := ["_law_prime_here", "_law_pair_here", "_law_k"]) fun _ _ _ _ _ _ us hl => match us, hl with | [_, _, _], _ => rfl
  have m_passed : mg "_law_passed" = some (.ref fpassed) := PySem.W.mg_of X G apassed
  have F_number := fun_mk (st := s_number) lnumber cnumber knumber
  have b_number := F_number.binds (ps := ["_law_state_here", "_law_prime_here"]) fun _ _ _ _ _ _ us hl => match us, hl with | [_, _], _ => rfl
  have m_number : mg "_law_number" = some (.ref fnumber) := PySem.W.mg_of X G anumber
  have F_unit := fun_mk (st := s_unit) lunit cunit kunit
  have b_unit := F_unit.binds (ps := ["_law_state_here", "_law_prime_here"]) fun _ _ _ _ _ _ us hl => match us, hl with | [_, _], _ => rfl
  have m_unit : mg "_law_unit" = some (.ref funit) := PySem.W.mg_of X G aunit
  have F_small := fun_mk (st := s_small) lsmall csmall ksmall
  have b_small := F_small.binds (ps := ["_law_state_here", "_law_prime_here", "_law_size"]) fun _ _ _ _ _ _ us hl => match us, hl with | [_, _, _], _ => rfl
  have m_small : mg "_law_small" = some (.ref fsmall) := PySem.W.mg_of X G asmall
  have F_exp := fun_mk (st := s_exp) lexp cexp kexp
  have b_exp := F_exp.binds (ps := ["_law_prime_here", "_law_top", "_law_bottom", "_law_count"]) fun _ _ _ _ _ _ us hl => match us, hl with | [_, _, _, _], _ => rfl
  have m_exp : mg "_law_expansion" = some (.ref fexp) := PySem.W.mg_of X G aexp
  have F_planted := fun_mk (st := s_planted) lplanted cplanted kplanted
  have b_planted := F_planted.binds (ps := ["_law_state_here", "_law_prime_here", "_law_count"]) fun _ _ _ _ _ _ us hl => match us, hl with | [_, _, _], _ => rfl
  have m_planted : mg "_law_planted" = some (.ref fplanted) := PySem.W.mg_of X G aplanted
  have F_coefs := fun_mk (st := s_coefs) lcoefs ccoefs kcoefs
  have b_coefs := F_coefs.binds (ps := ["_law_state_here", "_law_prime_here", "_law_count"]) fun _ _ _ _ _ _ us hl => match us, hl with | [_, _, _], _ => rfl
  have m_coefs : mg "_law_coefficients" = some (.ref fcoefs) := PySem.W.mg_of X G acoefs
  have F_lread := fun_mk (st := s_lread) llread clread klread
  have b_lread := F_lread.binds (ps := ["_law_prime_here", "_law_told"]) fun _ _ _ _ _ _ us hl => match us, hl with | [_, _], _ => rfl
  have m_lread : mg "_law_read" = some (.ref flread) := PySem.W.mg_of X G alread
  have F_rowt := fun_mk (st := s_rowt) lrowt crowt krowt
  have b_rowt := F_rowt.binds (ps := ["_law_prime_here", "_law_told"]) fun _ _ _ _ _ _ us hl => match us, hl with | [_, _], _ => rfl
  have m_rowt : mg "_law_row" = some (.ref frowt) := PySem.W.mg_of X G arowt
  have F_told := fun_mk (st := s_told) ltold ctold ktold
  have b_told := F_told.binds (ps := ["_law_prime_here", "_law_told"]) fun _ _ _ _ _ _ us hl => match us, hl with | [_, _], _ => rfl
  have m_told : mg "_law_told_series" = some (.ref ftold) := PySem.W.mg_of X G atold
  have F_refused := fun_mk (st := s_refused) lrefused crefused krefused
  have b_refused := F_refused.binds (ps := ["_law_field", "_law_row_here"]) fun _ _ _ _ _ _ us hl => match us, hl with | [_, _], _ => rfl
  have m_refused : mg "_law_refused" = some (.ref frefused) := PySem.W.mg_of X G arefused
  have F_further := fun_mk (st := s_further) lfurther cfurther kfurther
  have b_further := F_further.binds (ps := ["_law_series", "_law_numbers"]) fun _ _ _ _ _ _ us hl => match us, hl with | [_, _], _ => rfl
  have m_further : mg "_law_further" = some (.ref ffurther) := PySem.W.mg_of X G afurther
  have F_counted := fun_mk (st := s_counted) lcounted ccounted kcounted
  have b_counted := F_counted.binds (ps := ["_law_series", "_law_count"]) fun _ _ _ _ _ _ us hl => match us, hl with | [_, _], _ => rfl
  have m_counted : mg "_law_counted" = some (.ref fcounted) := PySem.W.mg_of X G acounted
  have F_more := fun_mk (st := s_more) lmore cmore kmore
  have b_more := F_more.binds (ps := ["_law_series", "_law_thing"]) fun _ _ _ _ _ _ us hl => match us, hl with | [_, _], _ => rfl
  have m_more : mg "_law_more_refusals" = some (.ref fmore) := PySem.W.mg_of X G amore
  have F_refusals := fun_mk (st := s_refusals) lrefusals crefusals krefusals
  have b_refusals := F_refusals.binds (ps := ["_law_field", "_law_prime_here", "_law_given_here", "_law_first", "_law_second", "_law_odd"]) fun _ _ _ _ _ _ us hl => match us, hl with | [_, _, _, _, _, _], _ => rfl
  have m_refusals : mg "_law_refusals" = some (.ref frefusals) := PySem.W.mg_of X G arefusals
  have F_la := fun_mk (st := s_law) lla cla kla
  have b_la := F_la.binds (ps := ["_law_script"]) fun _ _ _ _ _ _ us hl => match us, hl with | [_], _ => rfl
  have m_NF : mg "NoField" = some (.ref CNF) := PySem.W.mg_of X G aNF
  have m_NN : mg "NoNumber" = some (.ref CNN) := PySem.W.mg_of X G aNN
  have m_NC : mg "NoCount" = some (.ref CNC) := PySem.W.mg_of X G aNC
  have RNNF : RNx K mg "NoField" CNF := ⟨exc_in xLNF (ns_ok n1NF n2NF) n3NF (tail1 xLS (ns_ok n1S n2S) n3S), m_NF, x4NF, x2NF, x3NF⟩
  have teNF := PySem.W.exm_ref x2NF y8NF x3NF x7NF
  have RNNN : RNx K mg "NoNumber" CNN := ⟨exc_in xLNN (ns_ok n1NN n2NN) n3NN (tail1 xLS (ns_ok n1S n2S) n3S), m_NN, x4NN, x2NN, x3NN⟩
  have teNN := PySem.W.exm_ref x2NN y8NN x3NN x7NN
  have RNNC : RNx K mg "NoCount" CNC := ⟨exc_in xLNC (ns_ok n1NC n2NC) n3NC (tail1 xLS (ns_ok n1S n2S) n3S), m_NC, x4NC, x2NC, x3NC⟩
  have teNC := PySem.W.exm_ref x2NC y8NC x3NC x7NC
  have m_PL : mg "NoSeries" = some (.ref CPL) := PySem.W.mg_of X G aPL
  have F_PLI := fun_mk (st := s_placeInit) lPLI cPLI kPLI
  have b_PLI := F_PLI.binds (ps := ["self", "place"]) fun _ _ _ _ _ _ us hl => match us, hl with | [_, _], _ => rfl
  have NPL : NTxF K "place" CPL fPLI := ⟨⟨⟨nmPL, qPL, NaPL, bsPL, _, snPL, subPL, abPL, colPL, ddPL, m0PL, m1PL, m2PL, m3PL, m5PL, xLPL, rfl⟩, x1PL, x2PL, x3PL, x4PL⟩, x5PL, aPLI, x6PL⟩
  have tePL := PySem.W.exm_ref x2PL y8PL x3PL x7PL
  have xfPL : XfC K CPL := ⟨y2PL, y3PL, x2PL, y8PL⟩
  have eiPL : EIx K CPL := ⟨cls_some y8PL, y2PL, y3PL, x2PL, y4PL, y5, y6, y7PL⟩
  have Z : KZx K CR := ⟨kit_tyo hdR q3R w_int, kit_tyo hdR q3R w_str, kit_tyo hdR q3R w_NoneType⟩
  have Z3 : KZ3 K CR := ⟨kit_tyo hdR q3R w_bool, kit_tyo hdR q3R w_list, kit_tyo hdR q3R w_tuple, kit_tyo hdR q3R w_dict⟩
  have KR : KRd K CR CRd := ⟨kit_tyo hdRd q3Rd wd_int, kit_tyo hdRd q3Rd wd_str, kit_tyo hdRd q3Rd wd_NoneType, kit_tyo hdRd q3Rd wd_bool, kit_tyo hdRd q3Rd wd_list, kit_tyo hdRd q3Rd wd_tuple, kit_tyo hdRd q3Rd wd_dict, kit_ownF hdRd q3Rd wd_R wd_self, kit_ty2 (by decide +kernel) wR_list, kit_ty2 (by decide +kernel) wR_tuple⟩
  have TF : FTx K CF := ⟨⟨pgF, hdF, poF, saF⟩, nF_prime⟩
  have YF : IFy K CF := ⟨q1F, y5, y6, q2F, kit_tyo hdF q3F wF_int⟩
  have MF : Mk K CF fFI := ⟨mkF, aFI, iFI, kcF⟩
  have TRd : IRd K CRd := ⟨⟨pgRd, hdRd, poRd, saRd⟩, nRd_row, q1Rd, y5, y6, q2Rd⟩
  have MRd : Mk K CRd frd := ⟨mkRd, ard, ird, kcRd⟩
  have TSe : STx K CSe := ⟨⟨pgSe, hdSe, poSe, saSe⟩, nSe_field, nSe_coefficients, nSe_known, q1Se, y5, y6, q2Se⟩
  have MSe : Mk K CSe fsinit := ⟨mkSe, asinit, isinit, kcSe⟩
  have kls : PySem.W.kitOne K (.type "list") (.ref CSe) = some false := kit_tyo hdSe q3Se wS_list
  have RT : RTx mg := ⟨PySem.W.mg_of X G g_isqrt, z_range⟩
  have BQ : QTx mg := ⟨z_isinstance, z_list, z_tuple, z_len⟩
  have GP : mg "GREATEST_PRIME" = some (.int 9973 tkGP) := PySem.W.mg_of X G g_GP
  have GMP : mg "MOST_PASSED" = some (.int 32 tkMP) := PySem.W.mg_of X G g_MP
  have GMK : mg "MOST_KNOWN" = some (.int 79 tkMK) := PySem.W.mg_of X G g_MK
  obtain ⟨ds2, v2, b_F⟩ := F_FI.binds1 (ps := ["self", "prime"]) 2 1 (by simp) rfl fun _ _ _ _ _ _ _ us its hl hi => match us, its, hl, hi with | [_, _], [_], _, _ => ⟨_, rfl, rfl⟩
  cases v2
  have nfFF : PySem.W.notFirst K CF (.ref CF) = true := by simp [PySem.W.notFirst]
  have nfSS : PySem.W.notFirst K CSe (.ref CSe) = true := by simp [PySem.W.notFirst]
  refine ⟨PySem.W.fnOf "law" "law" (defArgs s_law) (defBody s_law) (defScope s_law) .none kVla dcla pmla anla cdla ctla, fun s v => .of_eq rfl, fun base _ _ => ?_⟩
  have G_NI := ok_noRatioInit (P := P) (w := w) (mg := mg) (base := base) F_NI NN
  have G_II := ok_isint (P := P) (w := w) (mg := mg) (base := base) F_II I
  have G_R := ok_ratioInit (P := P) (w := w) (mg := mg) (base := base) F_RI T NN GT G_NI b_NI G_II m_II kII b_II
  have G_draw := ok_drawA  (P := P) (w := w) (mg := mg) (base := base) F_draw D
  have G_drawS := ok_draw (P := P) (w := w) (mg := mg) (base := base) F_draw D
  have G_state := ok_state  (P := P) (w := w) (mg := mg) (base := base) F_state D
  have G_gcd := ok_gcd  (P := P) (w := w) (mg := mg) (base := base) F_gcd D
  have G_lisint := ok_lisint  (P := P) (w := w) (mg := mg) (base := base) F_lisint I
  have G_isnum := ok_isnum  (P := P) (w := w) (mg := mg) (base := base) F_isnum I m_R G_II m_II kII b_II
  have G_asr := ok_asratio (P := P) (w := w) (mg := mg) (base := base) F_asr T Y Z I m_R M G_R b_R1 v1
  have G_over := ok_rover  (P := P) (w := w) (mg := mg) (base := base) F_over T Y Z m_R M G_R b_R G_asr m_asr kasr b_asr
  have G_eq := ok_req  (P := P) (w := w) (mg := mg) (base := base) F_eq T Y Z I m_R G_II m_II kII b_II
  have G_isp := ok_isprime  (P := P) (w := w) (mg := mg) (base := base) F_isp RT
  have G_inv := ok_inverse  (P := P) (w := w) (mg := mg) (base := base) F_inv
  have G_F := ok_finit (P := P) (w := w) (mg := mg) (base := base) F_FI TF RNNF GP G_II m_II kII b_II G_isp m_isp kisp b_isp
  have G_feq := ok_feq  (P := P) (w := w) (mg := mg) (base := base) F_feq TF YF I m_F
  have G_numI := ok_numI (P := P) (w := w) (mg := mg) (base := base) F_fnum T TF Z I m_R RNNN G_isnum m_isnum kisnum b_isnum G_asr m_asr kasr b_asr
  have G_overI := ok_overI (P := P) (w := w) (mg := mg) (base := base) F_fover TF RNNN ⟨afnum, ifnum, kfnum⟩ G_numI b_fnum G_inv m_inv kinv b_inv
  have G_fnum := ok_num (P := P) (w := w) (mg := mg) (base := base) F_fnum T TF Y Z I m_R RNNN G_isnum m_isnum kisnum b_isnum G_asr m_asr kasr b_asr ⟨afover, ifover, kfover⟩ G_overI b_fover
  have G_lip := ok_lip (P := P) (w := w) (mg := mg) (base := base) F_lip D
  have G_lpr := ok_lpr (P := P) (w := w) (mg := mg) (base := base) F_lpr D G_drawS m_draw kdraw b_draw G_lip m_lip klip b_lip
  have G_PLI := ok_placeInit  (P := P) (w := w) (mg := mg) (base := base) F_PLI NPL
  have G_seq := ok_isseq  (P := P) (w := w) (mg := mg) (base := base) F_seq BQ
  have G_fromto := ok_fromto  (P := P) (w := w) (mg := mg) (base := base) F_fromto G_II m_II kII b_II
  have G_taken := ok_taken  (P := P) (w := w) (mg := mg) (base := base) F_taken TF m_NN teNN (⟨afnum, ifnum, kfnum⟩) G_fnum b_fnum
  have G_rd := ok_rd  (P := P) (w := w) (mg := mg) (base := base) F_rd BQ TRd
  have G_snum := ok_snum  (P := P) (w := w) (mg := mg) (base := base) F_snum BQ m_PL NPL G_PLI b_PLI G_taken m_taken ktaken b_taken
  have G_srow := ok_srow  (P := P) (w := w) (mg := mg) (base := base) F_srow BQ TRd m_Rd GMP m_PL NPL G_PLI b_PLI G_seq m_seq kseq b_seq G_snum m_snum ksnum b_snum
  have G_sinit := ok_sinit  (P := P) (w := w) (mg := mg) (base := base) F_sinit BQ TSe m_PL NPL G_PLI b_PLI ⟨aeq, ieq⟩ nf_int G_eq b_eq G_srow m_srow ksrow b_srow
  have G_slen := ok_slen (C := CR) (CF := CF) (P := P) (w := w) (mg := mg) (base := base) F_slen BQ TSe
  have G_seqq := ok_seqq  (P := P) (w := w) (mg := mg) (base := base) F_seqq BQ TSe TF YF m_Se ⟨afeq, ifeq⟩ nfFF G_feq b_feq ⟨aeq, ieq⟩ G_eq b_eq
  have G_sfirst := ok_sfirst  (P := P) (w := w) (mg := mg) (base := base) F_sfirst TSe RNNC MSe G_sinit b_sinit m_Se MRd G_rd b_rd m_Rd G_fromto m_fromto kfromto b_fromto
  have G_sthen := ok_sthen  (P := P) (w := w) (mg := mg) (base := base) F_sthen BQ TSe GMK m_PL NPL G_PLI b_PLI MSe G_sinit b_sinit m_Se MRd G_rd b_rd m_Rd G_seq m_seq kseq b_seq G_snum m_snum ksnum b_snum
  have G_pair := ok_pair  (P := P) (w := w) (mg := mg) (base := base) F_pair D G_gcd m_gcd kgcd b_gcd
  have G_plus := ok_plus  (P := P) (w := w) (mg := mg) (base := base) F_plus G_pair m_pair kpair b_pair
  have G_minus := ok_minus  (P := P) (w := w) (mg := mg) (base := base) F_minus G_pair m_pair kpair b_pair
  have G_times := ok_times  (P := P) (w := w) (mg := mg) (base := base) F_times G_pair m_pair kpair b_pair
  have G_given := ok_given  (P := P) (w := w) (mg := mg) (base := base) F_given m_R M G_R b_R
  have G_passed := ok_passed  (P := P) (w := w) (mg := mg) (base := base) F_passed D m_R M G_R b_R G_given m_given kgiven b_given
  have G_number := ok_number  (P := P) (w := w) (mg := mg) (base := base) F_number G_draw m_draw kdraw b_draw G_pair m_pair kpair b_pair
  have G_unit := ok_unit  (P := P) (w := w) (mg := mg) (base := base) F_unit G_number m_number knumber b_number
  have G_small := ok_small  (P := P) (w := w) (mg := mg) (base := base) F_small D G_number m_number knumber b_number
  have G_exp := ok_exp  (P := P) (w := w) (mg := mg) (base := base) F_exp D BQ z_min G_minus m_minus kminus b_minus G_times m_times ktimes b_times
  have G_planted := ok_planted  (P := P) (w := w) (mg := mg) (base := base) F_planted G_draw m_draw kdraw b_draw G_unit m_unit kunit b_unit G_small m_small ksmall b_small G_exp m_exp kexp b_exp G_plus m_plus kplus b_plus
  have G_coefs := ok_coefs  (P := P) (w := w) (mg := mg) (base := base) F_coefs D G_draw m_draw kdraw b_draw G_planted m_planted kplanted b_planted G_unit m_unit kunit b_unit G_number m_number knumber b_number
  have G_lread := ok_lread  (P := P) (w := w) (mg := mg) (base := base) F_lread T Y I m_R G_lisint m_lisint klisint b_lisint G_gcd m_gcd kgcd b_gcd
  have G_rowt := ok_rowt  (P := P) (w := w) (mg := mg) (base := base) F_rowt I BQ G_lread m_lread klread b_lread
  have G_told := ok_told  (P := P) (w := w) (mg := mg) (base := base) F_told BQ TSe TF YF I m_Se m_F MF G_F b_F ⟨afeq, ifeq⟩ nfFF G_feq b_feq ⟨aslen, islen⟩ G_slen b_slen G_rowt m_rowt krowt b_rowt G_lisint m_lisint klisint b_lisint
  have G_refused := ok_refused  (P := P) (w := w) (mg := mg) (base := base) F_refused m_Se m_PL NPL tePL xfPL MSe G_sinit b_sinit
  have G_further := ok_further  (P := P) (w := w) (mg := mg) (base := base) F_further TSe m_PL NPL tePL xfPL (⟨asthen, isthen, ksthen⟩) G_sthen b_sthen
  have G_counted := ok_counted  (P := P) (w := w) (mg := mg) (base := base) F_counted TSe m_NC teNC (⟨asfirst, isfirst, ksfirst⟩) G_sfirst b_sfirst
  have G_more := ok_more  (P := P) (w := w) (mg := mg) (base := base) F_more BQ T Y ⟨aslen, islen⟩ G_slen b_slen m_R M G_R b_R1 v1 G_further m_further kfurther b_further G_counted m_counted kcounted b_counted
  have G_refusals := ok_refusals  (P := P) (w := w) (mg := mg) (base := base) F_refusals D BQ z_min T Y Z Z3 KR m_R M G_R b_R m_Se MSe G_sinit b_sinit G_refused m_refused krefused b_refused G_further m_further kfurther b_further G_more m_more kmore b_more
  exact ok_law F_la D BQ TSe KR nfSS nfS_list kls m_F m_Se MF MSe G_F b_F G_sinit b_sinit (⟨asfirst, isfirst, ksfirst⟩) G_sfirst b_sfirst (⟨asthen, isthen, ksthen⟩) G_sthen b_sthen ⟨aslen, islen⟩ G_slen b_slen ⟨aseqq, iseqq⟩ G_seqq b_seqq G_state m_state kstate b_state G_draw m_draw kdraw b_draw G_lpr m_lpr klpr b_lpr G_coefs m_coefs kcoefs b_coefs G_small m_small ksmall b_small G_passed m_passed kpassed b_passed G_told m_told ktold b_told G_refusals m_refusals krefusals b_refusals
theorem walk {l : PySem.W.OpenLaw} {q : Program} {loose : List Str} {XP : (Str → Option Value) → Heap → Prop} {YP : World → Heap → Prop} {d : DefRec} {K : Params → PySem.W.Frag} (hn : l.most = some 63) (hdf : d.params.defaults = [])
    (hY : ∀ (w : World) (h : Heap), YP w h → (K w.params).In h)
    (F : ∀ (w : World) (mg : Str → Option Value) (fa : Addr) (h : Heap), (K w.params).In h → h.Ns mainGlobals mg → mg d.name = some (.ref fa) →
      ∃ fd : FuncData, (∀ (s : Shared) (u : Value), BindsTo s fd ⟨[u], []⟩ [("_law_script", u)]) ∧ ∀ base : Heap, (K w.params).In base → base.Ns mainGlobals mg → FnOk l.prog w (K w.params) mg base CX0 18 fa fd ["_law_script"] (spLaw (K w.params))) :
    PySem.W.WalkO q loose XP YP l.row.toRowW d [] (fun f vs => PySem.call f vs) :=
  L2.walk_of (n := 63) (k := 18) (x := "_law_script") (CX := fun _ => CX0) (sp := fun w => spLaw (K w.params)) hn (by decide) hdf ⟨rfl, by decide, by decide⟩ hY F (fun _ _ a ns hl _ hS => ⟨a, ns, rfl, hS, hl, fun _ => rfl⟩) fun _ _ _ _ _ z => z
end Sq

open PySem PySem.W PyProof.Rows
set_option maxRecDepth 100000 in
set_option maxHeartbeats 0 in
theorem PySem.Challenge.cw_seriessquares_k09_series_made_holds : PySem.Challenge.rw_seriessquares_k09_series_made.Holds := by
  w_on; o_law; k_head; (case hw => w_witness2)
  k_fill
  refine Sq.walk (l := PySem.Challenge.rw_seriessquares_k09_series_made) rfl rfl (fun w h Y => PySem.W.kIn_of Y) ?F
  case F =>
    intro w mg fa h KX G hmg
    refine' Sq.all_mk KX G hmg ?aS ?x3S ?y8S ?aN ?x3N ?y8N ?aNI ?lNI ?cNI ?kNI ?iNI ?y5 ?y6 ?xLN ?x1N ?x2N ?x4N ?x5N ?x6N ?x7N ?x8N ?x9N ?y2N ?y3N ?y4N ?y7N ?aII ?lII ?cII ?kII ?aR ?pgR ?hdR ?poR ?saR ?mkR ?kcR ?nR_top ?nR_bottom ?q1R ?q2R ?q3R ?aRI ?lRI ?cRI ?kRI ?iRI ?eRI ?w3 ?w4 ?g_gcd ?z_len ?z_abs ?z_int ?z_range ?z_isinstance ?z_bool ?z_list ?z_tuple ?z_min ?astate ?lstate ?cstate ?kstate ?adraw ?ldraw ?cdraw ?kdraw ?agcd ?lgcd ?cgcd ?kgcd ?alisint ?llisint ?clisint ?klisint ?aisnum ?lisnum ?cisnum ?kisnum ?aasr ?lasr ?casr ?kasr ?aeq ?leq ?ceq ?keq ?ieq ?aover ?lover ?cover ?kover ?iover ?aisp ?lisp ?cisp ?kisp ?ainv ?linv ?cinv ?kinv ?aF ?pgF ?hdF ?poF ?saF ?mkF ?kcF ?nF_prime ?q1F ?q2F ?q3F ?aFI ?lFI ?cFI ?kFI ?iFI ?eFI ?afeq ?lfeq ?cfeq ?kfeq ?ifeq ?afnum ?lfnum ?cfnum ?kfnum ?ifnum ?afover ?lfover ?cfover ?kfover ?ifover ?aseq ?lseq ?cseq ?kseq ?afromto ?lfromto ?cfromto ?kfromto ?ataken ?ltaken ?ctaken ?ktaken ?asnum ?lsnum ?csnum ?ksnum ?asrow ?lsrow ?csrow ?ksrow ?aRd ?pgRd ?hdRd ?poRd ?saRd ?mkRd ?kcRd ?nRd_row ?q1Rd ?q2Rd ?q3Rd ?ard ?lrd ?crd ?krd ?ird ?aSe ?pgSe ?hdSe ?poSe ?saSe ?mkSe ?kcSe ?nSe_field ?nSe_coefficients ?nSe_known ?q1Se ?q2Se ?q3Se ?asinit ?lsinit ?csinit ?ksinit ?isinit ?aslen ?lslen ?cslen ?kslen ?islen ?aseqq ?lseqq ?cseqq ?kseqq ?iseqq ?asfirst ?lsfirst ?csfirst ?ksfirst ?isfirst ?asthen ?lsthen ?csthen ?ksthen ?isthen ?alip ?llip ?clip ?klip ?alpr ?llpr ?clpr ?klpr ?apair ?lpair ?cpair ?kpair ?aplus ?lplus ?cplus ?kplus ?aminus ?lminus ?cminus ?kminus ?atimes ?ltimes ?ctimes ?ktimes ?agiven ?lgiven ?cgiven ?kgiven ?apassed ?lpassed ?cpassed ?kpassed ?anumber ?lnumber ?cnumber ?knumber ?aunit ?lunit ?cunit ?kunit ?asmall ?lsmall ?csmall ?ksmall ?aexp ?lexp ?cexp ?kexp ?aplanted ?lplanted ?cplanted ?kplanted ?acoefs ?lcoefs ?ccoefs ?kcoefs ?alread ?llread ?clread ?klread ?arowt ?lrowt ?crowt ?krowt ?atold ?ltold ?ctold ?ktold ?arefused ?lrefused ?crefused ?krefused ?afurther ?lfurther ?cfurther ?kfurther ?acounted ?lcounted ?ccounted ?kcounted ?amore ?lmore ?cmore ?kmore ?arefusals ?lrefusals ?crefusals ?krefusals ?ala ?lla ?cla ?kla ?w_int ?w_str ?w_NoneType ?w_bool ?w_list ?w_tuple ?w_dict ?wF_int ?nf_int ?nfS_list ?wS_list ?g_isqrt ?g_GP ?g_MP ?g_MK ?wd_int ?wd_str ?wd_NoneType ?wd_bool ?wd_list ?wd_tuple ?wd_dict ?wd_R ?wd_self ?wR_list ?wR_tuple ?aNF ?xLNF ?x3NF ?x4NF ?x2NF ?x7NF ?y8NF ?aNN ?xLNN ?x3NN ?x4NN ?x2NN ?x7NN ?y8NN ?aNC ?xLNC ?x3NC ?x4NC ?x2NC ?x7NC ?y8NC ?xLS ?n1S ?n2S ?n3S ?n1NF ?n2NF ?n3NF ?n1NN ?n2NN ?n3NN ?n1NC ?n2NC ?n3NC ?aPL ?x3PL ?y8PL ?aPLI ?lPLI ?cPLI ?kPLI ?iPLI ?xLPL ?x1PL ?x2PL ?x4PL ?x5PL ?x6PL ?x7PL ?x8PL ?x9PL ?y2PL ?y3PL ?y4PL ?y7PL
    (case aS => k_is)
    (case x3S => k_is)
    (case y8S => k_is)
    (case aN => k_is)
    (case x3N => k_is)
    (case y8N => k_is)
    (case aNI => k_is)
    (case lNI => k_is)
    (case cNI => k_is)
    (case kNI => k_is)
    (case iNI => k_is)
    (case y5 => k_is)
    (case y6 => k_is)
    (case xLN => k_is)
    (case x1N => k_is)
    (case x2N => k_is)
    (case x4N => k_is)
    (case x5N => k_is)
    (case x6N => k_is)
    (case x7N => k_is)
    (case x8N => k_is)
    (case x9N => k_is)
    (case y2N => k_is)
    (case y3N => k_is)
    (case y4N => k_is)
    (case y7N => k_is)
    (case aII => k_is)
    (case lII => k_is)
    (case cII => k_is)
    (case kII => k_is)
    (case aR => k_is)
    (case pgR => k_is)
    (case hdR => k_is)
    (case poR => k_is)
    (case saR => k_is)
    (case mkR => k_is)
    (case kcR => k_is)
    (case nR_top => k_is)
    (case nR_bottom => k_is)
    (case q1R => k_is)
    (case q2R => k_is)
    (case q3R => k_is)
    (case aRI => k_is)
    (case lRI => k_is)
    (case cRI => k_is)
    (case kRI => k_is)
    (case iRI => k_is)
    (case eRI => k_is)
    (case w3 => k_is)
    (case w4 => k_is)
    (case g_gcd => k_is)
    (case z_len => k_is)
    (case z_abs => k_is)
    (case z_int => k_is)
    (case z_range => k_is)
    (case z_isinstance => k_is)
    (case z_bool => k_is)
    (case z_list => k_is)
    (case z_tuple => k_is)
    (case z_min => k_is)
    (case astate => k_is)
    (case lstate => k_is)
    (case cstate => k_is)
    (case kstate => k_is)
    (case adraw => k_is)
    (case ldraw => k_is)
    (case cdraw => k_is)
    (case kdraw => k_is)
    (case agcd => k_is)
    (case lgcd => k_is)
    (case cgcd => k_is)
    (case kgcd => k_is)
    (case alisint => k_is)
    (case llisint => k_is)
    (case clisint => k_is)
    (case klisint => k_is)
    (case aisnum => k_is)
    (case lisnum => k_is)
    (case cisnum => k_is)
    (case kisnum => k_is)
    (case aasr => k_is)
    (case lasr => k_is)
    (case casr => k_is)
    (case kasr => k_is)
    (case aeq => k_is)
    (case leq => k_is)
    (case ceq => k_is)
    (case keq => k_is)
    (case ieq => k_is)
    (case aover => k_is)
    (case lover => k_is)
    (case cover => k_is)
    (case kover => k_is)
    (case iover => k_is)
    (case aisp => k_is)
    (case lisp => k_is)
    (case cisp => k_is)
    (case kisp => k_is)
    (case ainv => k_is)
    (case linv => k_is)
    (case cinv => k_is)
    (case kinv => k_is)
    (case aF => k_is)
    (case pgF => k_is)
    (case hdF => k_is)
    (case poF => k_is)
    (case saF => k_is)
    (case mkF => k_is)
    (case kcF => k_is)
    (case nF_prime => k_is)
    (case q1F => k_is)
    (case q2F => k_is)
    (case q3F => k_is)
    (case aFI => k_is)
    (case lFI => k_is)
    (case cFI => k_is)
    (case kFI => k_is)
    (case iFI => k_is)
    (case eFI => k_is)
    (case afeq => k_is)
    (case lfeq => k_is)
    (case cfeq => k_is)
    (case kfeq => k_is)
    (case ifeq => k_is)
    (case afnum => k_is)
    (case lfnum => k_is)
    (case cfnum => k_is)
    (case kfnum => k_is)
    (case ifnum => k_is)
    (case afover => k_is)
    (case lfover => k_is)
    (case cfover => k_is)
    (case kfover => k_is)
    (case ifover => k_is)
    (case aseq => k_is)
    (case lseq => k_is)
    (case cseq => k_is)
    (case kseq => k_is)
    (case afromto => k_is)
    (case lfromto => k_is)
    (case cfromto => k_is)
    (case kfromto => k_is)
    (case ataken => k_is)
    (case ltaken => k_is)
    (case ctaken => k_is)
    (case ktaken => k_is)
    (case asnum => k_is)
    (case lsnum => k_is)
    (case csnum => k_is)
    (case ksnum => k_is)
    (case asrow => k_is)
    (case lsrow => k_is)
    (case csrow => k_is)
    (case ksrow => k_is)
    (case aRd => k_is)
    (case pgRd => k_is)
    (case hdRd => k_is)
    (case poRd => k_is)
    (case saRd => k_is)
    (case mkRd => k_is)
    (case kcRd => k_is)
    (case nRd_row => k_is)
    (case q1Rd => k_is)
    (case q2Rd => k_is)
    (case q3Rd => k_is)
    (case ard => k_is)
    (case lrd => k_is)
    (case crd => k_is)
    (case krd => k_is)
    (case ird => k_is)
    (case aSe => k_is)
    (case pgSe => k_is)
    (case hdSe => k_is)
    (case poSe => k_is)
    (case saSe => k_is)
    (case mkSe => k_is)
    (case kcSe => k_is)
    (case nSe_field => k_is)
    (case nSe_coefficients => k_is)
    (case nSe_known => k_is)
    (case q1Se => k_is)
    (case q2Se => k_is)
    (case q3Se => k_is)
    (case asinit => k_is)
    (case lsinit => k_is)
    (case csinit => k_is)
    (case ksinit => k_is)
    (case isinit => k_is)
    (case aslen => k_is)
    (case lslen => k_is)
    (case cslen => k_is)
    (case kslen => k_is)
    (case islen => k_is)
    (case aseqq => k_is)
    (case lseqq => k_is)
    (case cseqq => k_is)
    (case kseqq => k_is)
    (case iseqq => k_is)
    (case asfirst => k_is)
    (case lsfirst => k_is)
    (case csfirst => k_is)
    (case ksfirst => k_is)
    (case isfirst => k_is)
    (case asthen => k_is)
    (case lsthen => k_is)
    (case csthen => k_is)
    (case ksthen => k_is)
    (case isthen => k_is)
    (case alip => k_is)
    (case llip => k_is)
    (case clip => k_is)
    (case klip => k_is)
    (case alpr => k_is)
    (case llpr => k_is)
    (case clpr => k_is)
    (case klpr => k_is)
    (case apair => k_is)
    (case lpair => k_is)
    (case cpair => k_is)
    (case kpair => k_is)
    (case aplus => k_is)
    (case lplus => k_is)
    (case cplus => k_is)
    (case kplus => k_is)
    (case aminus => k_is)
    (case lminus => k_is)
    (case cminus => k_is)
    (case kminus => k_is)
    (case atimes => k_is)
    (case ltimes => k_is)
    (case ctimes => k_is)
    (case ktimes => k_is)
    (case agiven => k_is)
    (case lgiven => k_is)
    (case cgiven => k_is)
    (case kgiven => k_is)
    (case apassed => k_is)
    (case lpassed => k_is)
    (case cpassed => k_is)
    (case kpassed => k_is)
    (case anumber => k_is)
    (case lnumber => k_is)
    (case cnumber => k_is)
    (case knumber => k_is)
    (case aunit => k_is)
    (case lunit => k_is)
    (case cunit => k_is)
    (case kunit => k_is)
    (case asmall => k_is)
    (case lsmall => k_is)
    (case csmall => k_is)
    (case ksmall => k_is)
    (case aexp => k_is)
    (case lexp => k_is)
    (case cexp => k_is)
    (case kexp => k_is)
    (case aplanted => k_is)
    (case lplanted => k_is)
    (case cplanted => k_is)
    (case kplanted => k_is)
    (case acoefs => k_is)
    (case lcoefs => k_is)
    (case ccoefs => k_is)
    (case kcoefs => k_is)
    (case alread => k_is)
    (case llread => k_is)
    (case clread => k_is)
    (case klread => k_is)
    (case arowt => k_is)
    (case lrowt => k_is)
    (case crowt => k_is)
    (case krowt => k_is)
    (case atold => k_is)
    (case ltold => k_is)
    (case ctold => k_is)
    (case ktold => k_is)
    (case arefused => k_is)
    (case lrefused => k_is)
    (case crefused => k_is)
    (case krefused => k_is)
    (case afurther => k_is)
    (case lfurther => k_is)
    (case cfurther => k_is)
    (case kfurther => k_is)
    (case acounted => k_is)
    (case lcounted => k_is)
    (case ccounted => k_is)
    (case kcounted => k_is)
    (case amore => k_is)
    (case lmore => k_is)
    (case cmore => k_is)
    (case kmore => k_is)
    (case arefusals => k_is)
    (case lrefusals => k_is)
    (case crefusals => k_is)
    (case krefusals => k_is)
    (case ala => k_is)
    (case lla => k_is)
    (case cla => k_is)
    (case kla => k_is)
    (case w_int => k_is)
    (case w_str => k_is)
    (case w_NoneType => k_is)
    (case w_bool => k_is)
    (case w_list => k_is)
    (case w_tuple => k_is)
    (case w_dict => k_is)
    (case wF_int => k_is)
    (case nf_int => k_is)
    (case nfS_list => k_is)
    (case wS_list => k_is)
    (case g_isqrt => k_is)
    (case g_GP => k_is)
    (case g_MP => k_is)
    (case g_MK => k_is)
    (case wd_int => k_is)
    (case wd_str => k_is)
    (case wd_NoneType => k_is)
    (case wd_bool => k_is)
    (case wd_list => k_is)
    (case wd_tuple => k_is)
    (case wd_dict => k_is)
    (case wd_R => k_is)
    (case wd_self => k_is)
    (case wR_list => k_is)
    (case wR_tuple => k_is)
    (case aNF => k_is)
    (case xLNF => k_is)
    (case x3NF => k_is)
    (case x4NF => k_is)
    (case x2NF => k_is)
    (case x7NF => k_is)
    (case y8NF => k_is)
    (case aNN => k_is)
    (case xLNN => k_is)
    (case x3NN => k_is)
    (case x4NN => k_is)
    (case x2NN => k_is)
    (case x7NN => k_is)
    (case y8NN => k_is)
    (case aNC => k_is)
    (case xLNC => k_is)
    (case x3NC => k_is)
    (case x4NC => k_is)
    (case x2NC => k_is)
    (case x7NC => k_is)
    (case y8NC => k_is)
    (case xLS => k_is)
    (case n1S => k_is)
    (case n2S => rfl)
    (case n3S => k_is)
    (case n1NF => k_is)
    (case n2NF => rfl)
    (case n3NF => k_is)
    (case n1NN => k_is)
    (case n2NN => rfl)
    (case n3NN => k_is)
    (case n1NC => k_is)
    (case n2NC => rfl)
    (case n3NC => k_is)
    (case aPL => k_is)
    (case x3PL => k_is)
    (case y8PL => k_is)
    (case aPLI => k_is)
    (case lPLI => k_is)
    (case cPLI => k_is)
    (case kPLI => k_is)
    (case iPLI => k_is)
    (case xLPL => k_is)
    (case x1PL => k_is)
    (case x2PL => k_is)
    (case x4PL => k_is)
    (case x5PL => k_is)
    (case x6PL => k_is)
    (case x7PL => k_is)
    (case x8PL => k_is)
    (case x9PL => k_is)
    (case y2PL => k_is)
    (case y3PL => k_is)
    (case y4PL => k_is)
    (case y7PL => k_is)

