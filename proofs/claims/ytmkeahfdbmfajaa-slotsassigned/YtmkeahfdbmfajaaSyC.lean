/- The document's Order of ranges. -/
import Derived.Test.YtmkeahfdbmfajaaSyB
namespace Go.Proofs.Ytmkeahfdbmfajaa
open Go.RowKit
section
variable {w0 w : World}
/-- Two numbers of a list of one's own are set. -/
theorem Ow.set2 {g cap n : Nat} {l : List Int} (V : Ow w0 w (.slice (some ⟨g, 0, none⟩) n cap) l) (hn : l.length = n) {i j : Nat} {x1 x2 : Int} (hi : l[i]? = some x1) (hj : l[j]? = some x2) (y1 y2 : Int) :
    w.cell? ⟨g, i, none⟩ = some (.int .i64 x1) ∧ w.frozen? ⟨g, i, none⟩ = false ∧ w.cell? ⟨g, j, none⟩ = some (.int .i64 x2) ∧ w.frozen? ⟨g, j, none⟩ = false ∧ g < w.heap.size ∧
    (∃ x, (w.setCell ⟨g, i, none⟩ (.int .i64 y1)).cell? ⟨g, j, none⟩ = some x) ∧ (w.setCell ⟨g, i, none⟩ (.int .i64 y1)).frozen? ⟨g, j, none⟩ = false ∧
    Ow w0 ((w.setCell ⟨g, i, none⟩ (.int .i64 y1)).setCell ⟨g, j, none⟩ (.int .i64 y2)).drew (.slice (some ⟨g, 0, none⟩) n cap) ((l.set i y1).set j y2) := by
  subst hn
  have h := V.r
  obtain ⟨g1, cap1, e1, c1, z1, lg, b1, hlo⟩ := row_int h hi
  cases e1
  obtain ⟨g2, cap2, e2, c2, z2, _, b2, _⟩ := row_int h hj
  cases e2
  have R2 := row_set (.int .i64 y2) (row_set (.int .i64 y1) h b1) b2
  have h1 := row_set (.int .i64 y1) h b1
  have hz : (w.setCell ⟨g, i, none⟩ (.int .i64 y1)).frozen? ⟨g, j, none⟩ = false := by
    rcases h1.2 with ⟨h2, _⟩ | ⟨g1, cap1, cur, e1, _, hc, _⟩
    · cases h2
    · cases e1; exact fz_of _ hc
  have hc : ∃ x, (w.setCell ⟨g, i, none⟩ (.int .i64 y1)).cell? ⟨g, j, none⟩ = some x := by
    rcases h1.2 with ⟨h2, _⟩ | ⟨g1, cap1, cur, e1, _, hc, hmc, hcap, hsz, _⟩
    · cases h2
    · cases e1; exact ⟨cur[j]'(by omega), cell_of hc (by simp [show j < cur.size by omega])⟩
  refine ⟨c1, z1, c2, z2, lg, hc, hz, ⟨?_, ?_⟩⟩
  · rw [ints_set, ints_set, List.length_set, List.length_set]
    exact ownsRow_keep R2 (fun _ _ => rfl)
  · exact Kp.below (Nat.le_refl _) V.b (((Kp.setCell _ _ _).trans (Kp.setCell _ _ _)).mono (Y := fun j => j = g) (fun b hb => hb)).drew (fun j hj => by omega)
theorem Ow.under {w' : World} {vo : Value} {l : List Int} (V : Ow w0 w vo l) (h : Below w.heap.size w w') : Ow w0 w' vo l := ⟨ownsRow_keep V.r (fun g hg => h.block g (V.r.lt g hg).2), V.b.trans (h.mono V.b.size)⟩
theorem Ow.new (w : World) : Ow w (w.alloc (.cells #[] 3)) (.slice (some ⟨w.heap.size, 0, none⟩) 0 0) [] :=
  ⟨⟨rfl, .inr ⟨w.heap.size, 0, #[], rfl, Nat.le_refl _, heap_new _ _ rfl, Nat.le_refl _, by simp, rfl, rfl⟩⟩, (Below.refl _ _).alloc (Nat.le_refl _) _⟩
theorem zs_set2 (s : List Nat) (k x y : Nat) : zs ((s.set (k + 1) y).set k x) = ((zs s).set (k + 1) (y : Int)).set k (x : Int) := by rw [zs_set, zs_set]
theorem zs_at {s : List Nat} {k x : Nat} (h : s[k]? = some x) : (zs s)[k]? = some (x : Int) := by simp [zs, h]
end
section
variable {w : World}
set_option maxRecDepth 20000 in
set_option maxHeartbeats 4000000 in
theorem rorder_any {v : Value} {l : List Rg} (R : RgsAt w v l) (hl : l.length ≤ 20000) : Calls Try.prog 20 #[v] w fun e w' => ∃ g cap, e = .returned (.slice (some ⟨g, 0, none⟩) l.length cap) ∧ Hid (Ow w w' (.slice (some ⟨g, 0, none⟩) l.length cap) (zs (ordP l))) := by
  have HR := hide R
  obtain ⟨ao, cap, rfl⟩ := R.slice
  obtain ⟨n, hn⟩ : ∃ n, l.length = n := ⟨_, rfl⟩
  have HN := hide hn
  rw [hn] at hl HR ⊢
  clear R hn
  have hn2 : (n : Int) ≤ 20000 := by omega
  go_enter Try.func20, Try.ntmps20
  go_wp2
  go_loopw [3, 4] (fun vo i wr => ∃ j g c : Nat, j ≤ n ∧ i = .int .i64 j ∧ vo = .slice (some ⟨g, 0, none⟩) j c ∧ Hid (∃ s : List Nat, s.Perm (List.range j) ∧ s.Pairwise (Le2 l) ∧ Ow w wr (.slice (some ⟨g, 0, none⟩) j c) (zs s))) (fun _ i _ => n - (intOf i).toNat)
  case atStart => exact ⟨0, _, _, Nat.zero_le _, rfl, rfl, [], List.Perm.refl _, List.Pairwise.nil, Ow.new w⟩
  case round =>
    obtain ⟨j, g, c, hj, rfl, rfl, HJ⟩ := hrel
    by_cases hlt : j < n
    · obtain ⟨s, hsp, hso, V⟩ := HJ.out
      have hsl : s.length = j := by rw [hsp.length_eq, List.length_range]
      obtain ⟨g2, cap2, w3, hr, V3⟩ := V.push (j : Int) (by rw [zs_len, hsl]; omega)
      rw [zs_len, hsl] at hr V3
      have HV3 := hide (show Ow w w3 (.slice (some ⟨g2, 0, none⟩) (j + 1) cap2) (zs (io s j j)) by rw [← hsl, io_full, hsl, zs_snoc]; exact V3)
      have HS := hide (And.intro hsp (And.intro hso hsl))
      obtain ⟨p, hp⟩ : ∃ p, l[j]? = some p := ⟨l[j]'(by rw [HN.out]; exact hlt), by simp⟩
      have HP := hide hp
      have bj : (j : Int) < (n : Int) := by omega
      have HRUN := hide hr
      clear V V3 HJ hsp hso hsl hp hr
      go_upto_region 7 with (refine wpList_append_eq (by rfl) _ _ 23 (by rfl) (by rfl) (by rfl) HRUN.out ?_)
      go_loopw [5] (fun k wi => ∃ k2 : Nat, k2 ≤ j ∧ k = .int .i64 k2 ∧ Hid (Ow w wi (.slice (some ⟨g2, 0, none⟩) (j + 1) cap2) (zs (io s k2 j)) ∧ ∀ b ∈ s.drop k2, kf l j < kf l b)) (fun k _ => (intOf k).toNat)
      case atStart => exact ⟨j, Nat.le_refl _, rfl, HV3.out, fun b hb => by rw [List.drop_of_length_le (by rw [HS.out.2.2]; exact Nat.le_refl _)] at hb; cases hb⟩
      case round =>
        obtain ⟨k2, hk2, rfl, HI⟩ := hrel
        match k2, hk2, HI with
        | 0, hk2, HI =>
          have HN2 : Hid ((io s 0 j).Perm (List.range (j + 1)) ∧ (io s 0 j).Pairwise (Le2 l)) := hide ⟨io_perm HS.out.1, io_sorted (Nat.zero_le _) HS.out.2.1 (fun a ha => List.mem_range.mp (HS.out.1.mem_iff.mp ha)) HI.out.2 (fun a _ h => absurd h (Nat.lt_irrefl 0))⟩
          go_wp2
          go_quiet (fail)
          go_wp2
          go_roundw
          case rel => exact ⟨j + 1, g2, cap2, by omega, by go_num, rfl, _, HN2.out.1, HN2.out.2, HI.out.1.under (below_drewN (Below.refl _ _) _)⟩
          case measure => simp [intOf]; omega
        | k + 1, hk2, HI =>
          obtain ⟨y, hy⟩ : ∃ y, s[k]? = some y := ⟨s[k]'(by rw [HS.out.2.2]; omega), by simp⟩
          have hyn : y < n := by have := List.mem_range.mp (HS.out.1.mem_iff.mp (List.mem_of_getElem? hy)); omega
          obtain ⟨r, hr⟩ : ∃ r, l[y]? = some r := ⟨l[y]'(by rw [HN.out]; exact hyn), by simp⟩
          have hat := io_at (s := s) (k := k + 1) j (by rw [HS.out.2.2]; exact hk2)
          have hpr := io_prev j hy
          have hlen : (zs (io s (k + 1) j)).length = j + 1 := by rw [zs_len, io_len, HS.out.2.2]
          obtain ⟨u1, z1, u2, z2, lg, _, _, _⟩ := HI.out.1.set2 hlen (zs_at hat) (zs_at hpr) 0 0
          obtain ⟨ga, oa, rfl, hga, c0, _⟩ := (HR.out.below HI.out.1.b).cell HP.out
          obtain ⟨gb, ob, e', hgb, d0, _⟩ := (HR.out.below HI.out.1.b).cell hr
          cases e'
          have bk : ((k + 1 : Nat) : Int) < ((j + 1 : Nat) : Int) := by omega
          have bk2 : (k : Int) < ((j + 1 : Nat) : Int) := by omega
          have bk0 : (0 : Int) < ((k + 1 : Nat) : Int) := by omega
          have by2 : (y : Int) < (n : Int) := by omega
          have e1 : IntKind.i64.wrap (((k + 1 : Nat) : Int) - 1) = (k : Int) := by rw [IntKind.wrap_i64]; omega
          have HY := hide (And.intro hy (And.intro hr (And.intro hat (And.intro hpr hlen))))
          clear hy hr hat hpr hlen z1 z2
          by_cases hcmp : p.fr < r.fr
          · go_wp2
            go_quiet (fail)
            go_wp2
            obtain ⟨W, hW⟩ : ∃ W, wr.drewN nq = W := ⟨_, rfl⟩
            have hB2 := below_drewN (Below.refl wr.heap.size wr) nq
            rw [hW] at hB2 ⊢
            obtain ⟨x1, z1, x2, z2, lg, ⟨x3, hx3⟩, hz3, V2⟩ := (HI.out.1.under hB2).set2 HY.out.2.2.2.2 (zs_at HY.out.2.2.1) (zs_at HY.out.2.2.2.1) (y : Int) (j : Int)
            have HV2 := hide (show Ow w ((W.setCell ⟨g2, k + 1, none⟩ (.int .i64 (y : Int))).setCell ⟨g2, k, none⟩ (.int .i64 (j : Int))).drew (.slice (some ⟨g2, 0, none⟩) (j + 1) cap2) (zs (io s k j)) by rw [← io_swap j HY.out.1, zs_set2]; exact V2)
            have HD : Hid (∀ b ∈ s.drop k, kf l j < kf l b) := hide fun b hb => by
              obtain ⟨hks, e2⟩ := List.getElem?_eq_some_iff.mp HY.out.1
              rw [List.drop_eq_getElem_cons hks, e2] at hb
              rcases List.mem_cons.mp hb with rfl | hb
              · rw [kf_get HP.out, kf_get HY.out.2.1]; exact hcmp
              · exact HI.out.2 b hb
            clear V2 hB2 c0 d0
            go_region
            go_wp2_with fail
            go_roundw
            case rel => exact ⟨k, by omega, by go_num, HV2.out, HD.out⟩
            case measure => simp [intOf]
          · have hcmp2 : decide (p.fr < r.fr) = false := by simpa using hcmp
            have HN2 : Hid ((io s (k + 1) j).Perm (List.range (j + 1)) ∧ (io s (k + 1) j).Pairwise (Le2 l)) := hide ⟨io_perm HS.out.1, io_sorted (by rw [HS.out.2.2]; exact hk2) HS.out.2.1 (fun a ha => List.mem_range.mp (HS.out.1.mem_iff.mp ha)) HI.out.2 (fun a ha _ => by
              rw [Nat.add_sub_cancel, HY.out.1] at ha
              cases ha
              rw [kf_get HY.out.2.1, kf_get HP.out]; omega)⟩
            clear hcmp
            go_wp2
            go_quiet (fail)
            go_wp2
            go_roundw
            case rel => exact ⟨j + 1, g2, cap2, by omega, by go_num, rfl, _, HN2.out.1, HN2.out.2, HI.out.1.under (below_drewN (Below.refl _ _) _)⟩
            case measure => simp [intOf]; omega
    · obtain rfl : j = n := by omega
      go_wp2
      go_ret
      obtain ⟨s, hsp, hso, V⟩ := HJ.out
      exact ⟨g, c, rfl, by rw [← ord_unique (l := l) (o := s) (by rw [HN.out]; exact hsp) hso]; exact V⟩
end
end Go.Proofs.Ytmkeahfdbmfajaa
