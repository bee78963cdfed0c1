/- The document's copy of a stack. -/
import Derived.Test.YtjapfckadikjiaaRsC
namespace Go.Proofs.Ytjapfckadikjiaa
open Go.RowKit
section
variable {B : Nat} {w w' : World} {vf : Value} {g : Nat → Value} {s : Sk}
/-- A list that is appended to an empty one of one's own is a copy. -/
theorem run_copy {W : World} {b : Nat} (t e : TypeId) (i : TypeInfo) (z : Value) (size bytes : Nat) (ht : Try.prog.underlying t = some (.slice e)) (hi : Try.prog.info? e = some i) (hz : i.zero = some z) (hsize : i.size = size) (hby : i.bytes = bytes) (hzs : z.cells.size = size) (hsz : 0 < size) (hbig : bytes ≤ 32)
    {v : Value} {n : Nat} {xs : List Value} (h0 : W.heap[b]? = some (.cells #[] e (0, 0))) (hown : W.ownsRow B e size v n xs) (h1 : ∀ u ∈ xs, u.oneCell' = true) (hn : n ≤ 70000) :
    ∃ v' w', (Builtin.append_ #[t, t] t #[.slice (some ⟨b, 0, none⟩) 0 0, v]).run Try.prog W = .ok v' w' ∧ w'.ownsRow b e size v' n xs ∧ W.grownBy w' (some b) ∧ (v'.ownBlock = some b ∨ v'.ownBlock = some W.heap.size) := by
  have hlt := lt_of_block h0
  have hemp : W.ownsRow b e size (.slice (some ⟨b, 0, none⟩) 0 0) 0 [] := ⟨by simp, .inr ⟨b, 0, #[], rfl, Nat.le_refl _, h0, Nat.le_refl _, by decide, by simp, by simp⟩⟩
  rcases hown.2 with ⟨rfl, rfl⟩ | ⟨g, cap, cur, rfl, hb, hg, hcap, _, hcs, htk⟩
  · refine ⟨_, W, run_append_owned_none W b t t e i size ht hi _ _ _ hemp, ?_, ⟨rfl, rfl, rfl, Nat.le_refl _, fun _ _ _ => rfl⟩, .inl rfl⟩
    have : xs = [] := List.eq_nil_of_length_eq_zero (by rw [hown.1]; simp)
    rw [this]; exact hemp
  · have hnews : ∀ j u, xs[j]? = some u → W.cell? ((⟨g, 0, none⟩ : Addr).add j) = some u := by
      intro j u hj
      rw [← htk] at hj
      have hj' : cur[j]? = some u := by
        rw [List.getElem?_take] at hj
        split at hj
        · simpa using hj
        · cases hj
      have ha : (⟨g, 0, none⟩ : Addr).add j = ⟨g, j, none⟩ := by cases j <;> simp [Addr.add]
      rw [ha]; simp [World.cell?, hg, hj']
    obtain ⟨v', w', hr, ho, hgr, _, hat⟩ := run_append_own_at (P := Try.prog) W b t t e i z size bytes ht hi hz hsize hby hzs hsz _ 0 [] hemp ⟨g, 0, none⟩ n cap xs hown.1 hnews h1 (by unfold maxLen; omega) (by
      have : (0 + n) * bytes ≤ 70000 * 32 := Nat.mul_le_mul (by omega) hbig
      omega) (by omega)
    exact ⟨v', w', hr, by simpa using ho, hgr, hat⟩
theorem wcells_one : ∀ (l : List Wo) (u : Value), u ∈ wcells l → u.oneCell' = true
  | [], u, h => by simp [wcells] at h
  | x :: r, u, h => by
    simp [wcells] at h
    rcases h with rfl | rfl | h
    · rfl
    · rfl
    · exact wcells_one r u h
theorem run_copyW {W : World} {b n : Nat} {v : Value} {f : List Wo} (h0 : W.heap[b]? = some (.cells #[] 70 (0, 0))) (hown : W.ownsRow B 70 2 v n (wcells f)) (hn : n ≤ 70000) :
    ∃ v' w', (Builtin.append_ #[68, 68] 68 #[.slice (some ⟨b, 0, none⟩) 0 0, v]).run Try.prog W = .ok v' w' ∧ w'.ownsRow b 70 2 v' n (wcells f) ∧ W.grownBy w' (some b) ∧ (v'.ownBlock = some b ∨ v'.ownBlock = some W.heap.size) := by
  obtain ⟨i0, hi, hz0, hz1, hz2⟩ := info_parts Try.info70
  exact run_copy 68 70 i0 _ 2 16 Try.underlying68 hi hz0 hz1 hz2 rfl (by decide) (by decide) h0 hown (wcells_one f) hn
theorem run_appF {W : World} {C b m : Nat} {v x : Value} {xs : List Value} (hown : W.ownsRow C 68 1 v m xs) (hb : W.heap[b]? = some (.cells #[x] 68 (0, 0))) (hx : x.oneCell' = true) (hlen : m < 1000000) (hB : C ≤ W.heap.size) :
    ∃ g cap w', (Builtin.append_ #[29, 29] 29 #[v, .slice (some ⟨b, 0, none⟩) 1 1]).run Try.prog W = .ok (.slice (some ⟨g, 0, none⟩) (m + 1) cap) w' ∧
      w'.ownsRow C 68 1 (.slice (some ⟨g, 0, none⟩) (m + 1) cap) (m + 1) (xs ++ [x]) ∧ W.grownBy w' v.ownBlock ∧ (v.ownBlock = some g ∨ g = W.heap.size) ∧ g < w'.heap.size := by
  obtain ⟨i0, hi, hz0, hz1, hz2⟩ := info_parts Try.info68
  exact run_append_lies (P := Try.prog) W 29 29 C 68 i0 _ 1 24 Try.underlying29 hi hz0 hz1 hz2 rfl (by decide) v m xs hown ⟨b, 0, none⟩ 1 1 [x] rfl (World.news_of_block hb)
    (by intro u hu; simp at hu; subst hu; exact hx) (by decide) (by unfold maxLen; omega) (by omega) hB _ rfl
theorem Rc.ne {fr : List (List Wo)} (R : Rc B w vf g fr) {i k : Nat} (hi : i < fr.length) (hk : (g i).ownBlock = some k) : vf.ownBlock ≠ some k := fun e => by
  rcases (R.els i _ (List.getElem?_eq_getElem hi)).2 with ⟨h1, _⟩ | ⟨b, cap, cur, h1, _, h2, _⟩
  · rw [h1] at hk; cases hk
  · rw [h1] at hk; cases hk
    rcases R.row.2 with ⟨h3, _⟩ | ⟨b', cap', cur', h3, _, h4, _⟩
    · rw [h3] at e; cases e
    · rw [h3] at e; cases e; rw [h2] at h4; simp at h4
theorem Rc.snoc {fr : List (List Wo)} {f : List Wo} {w6 : World} {vf2 v2 : Value} (R : Rc B w vf g fr) (hkeep : ∀ j, rown vf g fr.length j → vf.ownBlock ≠ some j → w6.heap[j]? = w.heap[j]?)
    (hrow : w6.ownsRow B 68 1 vf2 (fr.length + 1) ((List.range fr.length).map g ++ [v2])) (hv : w6.ownsRow B 70 2 v2 f.length (wcells f)) (hfresh : ∀ k i, v2.ownBlock = some k → i < fr.length → (g i).ownBlock ≠ some k) :
    Rc B w6 vf2 (fun i => if i = fr.length then v2 else g i) (fr ++ [f]) := by
  refine ⟨?_, fun i f' hf' => ?_, fun i j hi hj hij => ?_⟩
  · have : (List.range (fr ++ [f]).length).map (fun i => if i = fr.length then v2 else g i) = (List.range fr.length).map g ++ [v2] := by
      rw [List.length_append, List.length_singleton, List.range_succ, List.map_append]
      simp
      intro i hi h
      omega
    rw [this, List.length_append, List.length_singleton]; exact hrow
  · rw [List.getElem?_append] at hf'
    split at hf'
    · rename_i hi
      show w6.ownsRow B 70 2 (if i = fr.length then v2 else g i) _ _
      rw [if_neg (by omega)]
      exact ownsRow_keep (R.els i f' hf') fun k hk => hkeep k (.inr ⟨i, hi, hk⟩) (R.ne hi hk)
    · rename_i hi
      have h0 : i - fr.length = 0 := by
        cases h : i - fr.length with
        | zero => rfl
        | succ k => rw [h] at hf'; simp at hf'
      rw [h0] at hf'
      simp at hf'
      subst hf'
      show w6.ownsRow B 70 2 (if i = fr.length then v2 else g i) _ _
      rw [if_pos (by omega)]; exact hv
  · rw [List.length_append, List.length_singleton] at hi hj
    show (if i = fr.length then v2 else g i).ownBlock = none ∨ (if i = fr.length then v2 else g i).ownBlock ≠ (if j = fr.length then v2 else g j).ownBlock
    by_cases hi' : i = fr.length
    · rw [if_pos hi', if_neg (by omega)]
      cases h : v2.ownBlock with
      | none => exact .inl rfl
      | some k =>
        right
        intro e
        exact hfresh k j h (by omega) e.symm
    · rw [if_neg hi']
      by_cases hj' : j = fr.length
      · rw [if_pos hj']
        cases h : (g i).ownBlock with
        | none => exact .inl rfl
        | some k =>
          right
          intro e
          exact hfresh k i e.symm (by omega) h
      · rw [if_neg hj']
        exact R.apart i j (by omega) (by omega) hij
/-- What holds at the head of the copying loop. -/
structure Cp (s : Sk) (W1 w : World) (b n : Nat) (i : Value) : Prop where
  ex : ∃ (j : Nat) (vf' : Value) (g' : Nat → Value), j ≤ n ∧ i = .int .i64 j ∧ w.heap[b]? = some (.cells #[.int .i64 s.base, .int .i64 s.most, vf'] 31 (0, 0)) ∧ Rc (b + 1) w vf' g' (s.fr.take j) ∧ Below b W1 w
set_option maxHeartbeats 4000000 in
theorem rcopied_any (w : World) (R : Rc B w vf g s.fr) (I : SInv s) :
    Calls Try.prog 27 #[rv s vf] w fun e w' => ∃ vf' g', e = .returned (rv s vf') ∧ Rc w.heap.size w' vf' g' s.fr ∧ Below w.heap.size w w' := by
  have hfew := I.few
  have hfit := I.fit
  have hm1 := I.m1
  obtain ⟨ao, cp, hv, _⟩ := row_form R.row
  have R1 := hide R
  have HV := hide hv
  have b1 : (s.fr.length : Int) ≤ 1000 := by omega
  rw [hv]
  clear R I hv
  generalize hn : s.fr.length = n at *
  have HN := hide hn
  clear hn
  go_enter Try.func27, Try.ntmps27
  obtain ⟨W1, hW1⟩ : ∃ W1, ((w.alloc (.cells #[.int .i64 s.base, .int .i64 s.most, .slice ao n cp] 31)).alloc (.cells #[.int .i64 0, .int .i64 0, .slice none 0 0] 31)).alloc (.cells #[.int .i64 s.base, .int .i64 s.most, .slice none 0 0] 31) = W1 := ⟨_, rfl⟩
  have Z1 := hide (show W1.heap.size = w.heap.size + 1 + 1 + 1 by rw [← hW1]; simp)
  have BX := hide (show W1.heap[w.heap.size]? = some (.cells #[.int .i64 s.base, .int .i64 s.most, .slice ao n cp] 31 (0, 0)) by rw [← hW1, Below.heap_alloc _ _ _ (by simp; omega), Below.heap_alloc _ _ _ (by simp), heap_new _ _ rfl])
  have BR := hide (show W1.heap[w.heap.size + 1]? = some (.cells #[.int .i64 0, .int .i64 0, .slice none 0 0] 31 (0, 0)) by rw [← hW1, Below.heap_alloc _ _ _ (by simp), heap_new _ _ (by simp)])
  have BO := hide (show W1.heap[w.heap.size + 1 + 1]? = some (.cells #[.int .i64 s.base, .int .i64 s.most, .slice none 0 0] 31 (0, 0)) by rw [← hW1, heap_new _ _ (by simp)])
  have BW := hide (show Below w.heap.size w W1 by rw [← hW1]; exact (((Below.refl _ _).alloc (Nat.le_refl _) _).alloc (by simp) _).alloc (by simp; omega) _)
  have HW1 := hide hW1
  clear hW1
  go_wp2
  rw [HW1.out]
  clear HW1
  go_loopw [4] (fun i wr => Cp s W1 wr (w.heap.size + 1 + 1) n i) (fun i _ => n - (intOf i).toNat)
  case atStart => exact ⟨0, .slice none 0 0, fun _ => .slice none 0 0, Nat.zero_le _, rfl, BO.out, ⟨⟨rfl, .inl ⟨rfl, rfl⟩⟩, fun i f hf => by simp at hf, fun i j hi => by simp at hi⟩, Below.refl _ _⟩
  case round =>
    obtain ⟨j, vf', g', hj, rfl, hout, Rj, hb⟩ := hrel.ex
    clear hrel
    have hwz := hb.size
    rw [Z1.out] at hwz
    have hol := lt_of_block hout
    have hbx : wr.heap[w.heap.size]? = W1.heap[w.heap.size]? := hb.block _ (by omega)
    have c2 : wr.cell? ⟨w.heap.size, 2, none⟩ = some (.slice ao n cp) := cell_of (hbx.trans BX.out)
    have c5 : wr.cell? ⟨w.heap.size + 1 + 1, 2, none⟩ = some vf' := cell_of hout
    by_cases hlt : j < n
    · obtain ⟨f, hf⟩ : ∃ f, s.fr[j]? = some f := ⟨s.fr[j]'(by rw [HN.out]; exact hlt), by simp⟩
      have Rw : Rc B wr vf g s.fr := R1.out.keep fun k hk => by
        have hkw := (R1.out.own_lt hk).2
        rw [hb.block k (by omega), BW.out.block k hkw]
      obtain ⟨F, cap, hvf, cf, hF⟩ := Rw.frame (i := j) (by rw [HN.out]; exact hlt)
      obtain ⟨af, pf, hgf, _⟩ := row_form (Rw.els j f hf)
      rw [HV.out, HN.out] at hvf
      cases hvf
      have hFw : F < w.heap.size := (R1.out.own_lt (.inl (by rw [HV.out]; rfl))).2
      have hpg := pre_get hf
      have hfl : f.length ≤ 65536 := by have : s.fr.flatten.length = s.ws.length := rfl; omega
      have hlj : (s.fr.take j).length = j := by rw [List.length_take, HN.out]; omega
      -- the first append
      obtain ⟨W3, hW3⟩ : ∃ W3, (wr.alloc (.cells #[] 70)).drew = W3 := ⟨_, rfl⟩
      have z3 : W3.heap.size = wr.heap.size + 1 := by rw [← hW3]; show (wr.alloc _).heap.size = _; rw [World.size_alloc]
      have k3 : ∀ k, k < wr.heap.size → W3.heap[k]? = wr.heap[k]? := fun k hk => by rw [← hW3]; show (wr.alloc _).heap[_]? = _; rw [Below.heap_alloc _ _ _ hk]
      have h03 : W3.heap[wr.heap.size]? = some (.cells #[] 70 (0, 0)) := by rw [← hW3]; show (wr.alloc _).heap[_]? = _; rw [heap_new _ _ rfl]
      obtain ⟨v2, w4, hrun1, hown4, hgr4, hat4⟩ := run_copyW h03 (ownsRow_keep (w' := W3) (Rw.els j f hf) fun k hk => k3 k ((Rw.els j f hf).lt k hk).2) (by omega)
      have z4 := hgr4.size
      have k4 : ∀ k, k < wr.heap.size → w4.heap[k]? = wr.heap[k]? := fun k hk => (hgr4.block k (by omega) (fun e => by simp at e; omega)).trans (k3 k hk)
      -- the second append
      obtain ⟨W5, hW5⟩ : ∃ W5, w4.alloc (.cells #[v2] 68) = W5 := ⟨_, rfl⟩
      have z5 : W5.heap.size = w4.heap.size + 1 := by rw [← hW5]; simp
      have k5 : ∀ k, k < w4.heap.size → W5.heap[k]? = w4.heap[k]? := fun k hk => by rw [← hW5, Below.heap_alloc _ _ _ hk]
      have h05 : W5.heap[w4.heap.size]? = some (.cells #[v2] 68 (0, 0)) := by rw [← hW5, heap_new _ _ rfl]
      have hone : v2.oneCell' = true := by
        rcases hown4.2 with ⟨h1, _⟩ | ⟨_, _, _, h1, _⟩ <;> rw [h1] <;> rfl
      obtain ⟨gg, cpp, w6, hrun2, hown6, hgr6, hat6, hlt6⟩ := run_appF (ownsRow_keep (w' := W5) Rj.row fun k hk => by
        have := (Rj.row.lt k hk).2
        rw [k5 k (by omega), k4 k this]) h05 hone (by omega) (by have := (Rj.row.lt); omega)
      have z6 := hgr6.size
      have hvo : ∀ k, vf'.ownBlock = some k → w.heap.size + 1 + 1 + 1 ≤ k ∧ k < wr.heap.size := fun k hk => Rj.row.lt k hk
      have k6 : ∀ k, k < w4.heap.size → vf'.ownBlock ≠ some k → w6.heap[k]? = w4.heap[k]? := fun k hk hne => (hgr6.block k (by omega) (fun e => hne e.symm)).trans (k5 k hk)
      have hv2 : ∀ k, v2.ownBlock = some k → wr.heap.size ≤ k ∧ k < w4.heap.size := fun k hk => by
        refine ⟨?_, (hown4.lt k hk).2⟩
        exact (hown4.lt k hk).1
      have Rn := Rj.snoc (w6 := w6) (f := f) (fun k hk hne => by
        have := (Rj.own_lt hk).2
        rw [k6 k (by omega) hne, k4 k this]) (by rw [hlj] at hown6 ⊢; exact hown6) (row_mono (ownsRow_keep (w' := w6) hown4 fun k hk => k6 k (hv2 k hk).2 (fun e => by have := (hvo k e).2; have := (hv2 k hk).1; omega)) (by omega)) (fun k i hk hi e => by have h1 := (Rj.own_lt (.inr ⟨i, hi, e⟩)).2; have h2 := (hv2 k hk).1; omega)
      rw [show s.fr.take j ++ [f] = s.fr.take (j + 1) by rw [List.take_add_one, hf]; rfl, hlj] at Rn
      have hbo : vf'.ownBlock ≠ some (w.heap.size + 1 + 1) := fun e => by have := (hvo _ e).1; omega
      have hout6 : w6.heap[w.heap.size + 1 + 1]? = some (.cells #[.int .i64 s.base, .int .i64 s.most, vf'] 31 (0, 0)) := by rw [k6 _ (by omega) hbo, k4 _ (by omega)]; exact hout
      have NXT := hide (show Cp s W1 (w6.setCell ⟨w.heap.size + 1 + 1, 2, none⟩ (.slice (some ⟨gg, 0, none⟩) (j + 1) cpp)) (w.heap.size + 1 + 1) n (.int .i64 ((j + 1 : Nat) : Int)) from by
        refine ⟨j + 1, .slice (some ⟨gg, 0, none⟩) (j + 1) cpp, _, by omega, rfl, ?_, Rn.keep fun k hk => Below.heap_setCell _ _ _ _ (by have := (Rn.own_lt hk).1; show k ≠ w.heap.size + 1 + 1; omega), ?_⟩
        · rw [heap_setCell_same _ _ _ _ hout6]; rfl
        · refine (hb.trans ⟨?_, ?_, ?_, by omega, fun k hk => ?_⟩).setCell (Nat.le_refl _) _
          · rw [hgr6.os, ← hW5]; show w4.os = _; rw [hgr4.os, ← hW3]; rfl
          · rw [hgr6.tape, ← hW5]; show w4.tape = _; rw [hgr4.tape, ← hW3]; rfl
          · rw [hgr6.output, ← hW5]; show w4.output = _; rw [hgr4.output, ← hW3]; rfl
          · rw [k6 k (by omega) (fun e => by have := (hvo k e).1; omega), k4 k (by omega)])
      have x2 : w4.cell? ⟨w.heap.size, 2, none⟩ = some (.slice (some ⟨F, 0, none⟩) n cp) := cell_of ((k4 _ (by omega)).trans (hbx.trans BX.out))
      have x5 : w4.cell? ⟨w.heap.size + 1 + 1, 2, none⟩ = some vf' := cell_of ((k4 _ (by omega)).trans hout)
      have xf : w4.cell? ⟨F, j, none⟩ = some (g j) := (World.cell?_of_block (w := wr) (k4 F (by omega))).trans cf
      have y2 : w6.cell? ⟨w.heap.size, 2, none⟩ = some (.slice (some ⟨F, 0, none⟩) n cp) := cell_of ((k6 _ (by omega) (fun e => by have := (hvo _ e).1; omega)).trans ((k4 _ (by omega)).trans (hbx.trans BX.out)))
      have y5 : w6.cell? ⟨w.heap.size + 1 + 1, 2, none⟩ = some vf' := cell_of hout6
      have yf : w6.cell? ⟨F, j, none⟩ = some (g j) := (World.cell?_of_block (w := w4) (k6 F (by omega) (fun e => by have := (hvo _ e).1; omega))).trans xf
      have q5 : w6.frozen? ⟨w.heap.size + 1 + 1, 2, none⟩ = false := by simp [World.frozen?, hout6]
      have bj : (j : Int) < (n : Int) := by omega
      have d1 : decide (j < n) = true := by simpa using hlt
      obtain ⟨av, pv, hvv, _⟩ := row_form Rj.row
      rw [hlj] at hrun2 hvv
      subst hvv
      obtain ⟨a2, p2, hv22, _⟩ := row_form hown4
      subst hv22
      rw [hgf] at cf xf yf hrun1
      have hF1 : F < wr.heap.size := by omega
      have hF2 : F < w4.heap.size := by omega
      have hw1 : w.heap.size < wr.heap.size := by omega
      have hw2 : w.heap.size + 1 + 1 < wr.heap.size := by omega
      have hw3 : w.heap.size < w4.heap.size := by omega
      have hw4 : w.heap.size + 1 + 1 < w4.heap.size := by omega
      clear Rn hv2 hvo k6 k5 k4 k3 hown6 hgr6 hat6 hlt6 h05 hone hown4 hgr4 hat4 h03 z3 z4 z5 z6 hout6 hbo hout Rj hb hbx Rw hgf hf hpg hlj hwz hol
      generalize f.length = fl at *
      subst hW5
      subst hW3
      go_wp2
      go_region_law (first | (refine step_append_eq (by rfl) _ _ 68 (by rfl) (by rfl) (by rfl) hrun1 ?_) | (refine step_append_eq (by rfl) _ _ 29 (by rfl) (by rfl) (by rfl) hrun2 ?_))
      all_goals
        go_wp2
        go_roundw
        case rel => exact NXT.out
        case measure => simp [intOf]; omega
    · obtain rfl : j = n := by omega
      have d1 : decide (j < j) = false := by simp
      have cr0 : wr.cell? ⟨w.heap.size + 1, 0, none⟩ = some (.int .i64 0) := cell_of ((hb.block _ (by omega)).trans BR.out)
      have cr1 : wr.cell? ⟨w.heap.size + 1, 1, none⟩ = some (.int .i64 0) := cell_of ((hb.block _ (by omega)).trans BR.out)
      have cr2 : wr.cell? ⟨w.heap.size + 1, 2, none⟩ = some (.slice none 0 0) := cell_of ((hb.block _ (by omega)).trans BR.out)
      have fr0 : ∀ o, wr.frozen? ⟨w.heap.size + 1, o, none⟩ = false := fun o => by simp [World.frozen?, (hb.block _ (show w.heap.size + 1 < w.heap.size + 1 + 1 by omega)).trans BR.out]
      have f0 := fr0 0
      have f1 := fr0 1
      have f2 := fr0 2
      have co0 : wr.cell? ⟨w.heap.size + 1 + 1, 0, none⟩ = some (.int .i64 s.base) := cell_of hout
      have co1 : wr.cell? ⟨w.heap.size + 1 + 1, 1, none⟩ = some (.int .i64 s.most) := cell_of hout
      rw [show s.fr.take j = s.fr from List.take_of_length_le (by rw [HN.out]; exact Nat.le_refl _)] at Rj
      obtain ⟨av, pv, hvv, _⟩ := row_form Rj.row
      subst hvv
      have HR := hide Rj
      have HB := hide (BW.out.trans (hb.mono (by omega)))
      clear fr0 Rj hb hout hbx
      go_wp2
      refine bodyPost_ret (v := rv s (.slice av s.fr.length pv)) ?_ rfl ⟨_, g', rfl, ?_, ?_⟩
      · simp [results, Try.results27, go_sem, cr0, cr1, cr2]
      · refine (HR.out.mono (by omega)).keep fun k hk => ?_
        have h1 := (HR.out.own_lt hk).1
        rw [Below.heap_setCell _ _ _ _ (by show k ≠ w.heap.size + 1; omega), Below.heap_setCell _ _ _ _ (by show k ≠ w.heap.size + 1; omega), Below.heap_setCell _ _ _ _ (by show k ≠ w.heap.size + 1; omega)]
      · exact ((HB.out.setCell (Nat.le_succ _) _).setCell (Nat.le_succ _) _).setCell (Nat.le_succ _) _
end
end Go.Proofs.Ytjapfckadikjiaa
