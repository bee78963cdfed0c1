/- The law StackAddrs. -/
import Derived.Test.YtjapfckadikjiaaStQ
namespace Go.Proofs.Ytjapfckadikjiaa
open Go.RowKit

/-- A list of bytes that lies in memory. -/
def Bts (w : World) (v : Value) (l : List Nat) : Prop := ∃ ao cap, v = .slice ao l.length cap ∧ ∀ (j u : Nat), l[j]? = some u → u < 256 ∧ ∃ b o, ao = some ⟨b, o, none⟩ ∧ b < w.heap.size ∧ w.cell? ⟨b, o + j, none⟩ = some (.int .u8 u)
theorem Try.info4 : (Try.prog.info? 4).map (fun i => (i.zero, i.size, i.bytes)) = some (some (.bool false), 1, 1) := by kernel_rfl
/-- The cells of a list of truths. -/
def bcells (l : List Bool) : List Value := l.map Value.bool
theorem made_bools (n : Nat) : madeCells #[Value.bool false] n = (bcells (List.replicate n false)).toArray := by
  apply Array.ext
  · simp [madeCells, bcells]
  · intro i h1 h2
    simp [madeCells, bcells, Nat.mod_one]
/-- A list of truths is made. -/
theorem run_bools (w : World) (n : Nat) (hn : n ≤ 1000) : (Instr.makeSlice 32 (.int .i64 n) (.int .i64 n)).run Try.prog w = .ok (.slice (some ⟨w.heap.size, 0, none⟩) n n) (w.alloc (.cells (bcells (List.replicate n false)).toArray 4)) := by
  obtain ⟨i0, hi, hz0, hz1, hz2⟩ := info_parts Try.info4
  have hmk := run_make (P := Try.prog) w 32 4 i0 (.bool false) Try.underlying32 hi hz0 .i64 .i64 n n (by omega) (Int.le_refl _) (by rw [hz2]; omega) (by omega)
  rw [hz1] at hmk
  simp only [Int.toNat_natCast, Nat.mul_one] at hmk
  rw [show (Value.bool false).cells = #[Value.bool false] from rfl, made_bools] at hmk
  exact hmk
theorem bools_made {W w : World} {ps : List Bool} : Bools W (w.alloc (.cells (bcells ps).toArray 4)) (.slice (some ⟨w.heap.size, 0, none⟩) ps.length ps.length) ps := by
  refine .inr ⟨w.heap.size, 0, ps.length, rfl, by simp, .inr ⟨_, heap_new _ _ rfl⟩, fun i q hq => ?_⟩
  rw [cell_of (heap_new _ _ rfl)]
  simp [bcells, hq]
/-- How many frames and words a stack has that begins at b, may have 2000 words and has no pointer. -/
structure Shp (s : Sk) (b : Int) (j t : Nat) : Prop where
  len : (lensP s).length = j
  sum : (lensP s).sum = t
  base : s.base = b
  most : s.most = 2000
  nop : NoP s
/-- What holds at the head of the first loop. -/
structure A1 (W w : World) (A n0 : Nat) (b : Int) (va vf vi : Value) : Prop where
  ex : ∃ (j t : Nat) (s : Sk), va = .int .i64 (b + t) ∧ vf = .int .i64 j ∧ vi = .int .i64 j ∧ j ≤ 20 ∧ j ≤ n0 ∧ t ≤ 11 * j ∧ Shp s b j t ∧ Has W w A s
/-- What holds at the head of the loop over a frame's words. -/
structure A2 (W w : World) (A j t n : Nat) (b : Int) (va vk : Value) : Prop where
  ex : ∃ (k : Nat) (s : Sk), va = .int .i64 (b + t + k) ∧ vk = .int .i64 k ∧ k ≤ n ∧ Shp s b (j + 1) (t + n) ∧ (∃ L, lensP s = L ++ [n]) ∧ Has W w A s
/-- What holds at the head of the loop that takes the frames away. -/
structure A3 (W w : World) (A : Nat) (b : Int) (va vf : Value) : Prop where
  ex : ∃ (j t : Nat) (s : Sk), va = .int .i64 (b + t) ∧ vf = .int .i64 j ∧ j ≤ 20 ∧ t ≤ 220 ∧ Shp s b j t ∧ Has W w A s
theorem Shp.addr {s : Sk} {b : Int} {j t n k : Nat} (h : Shp s b (j + 1) (t + n)) (hL : ∃ L, lensP s = L ++ [n]) (hk : k < n) : addrP s (j : Int) (k : Int) = (b + t + k, 0) ∧ setP s (b + t + k) ((j : Int) + k) = (0, setS s (t + k) ((j : Int) + k)) := by
  obtain ⟨L, hL⟩ := hL
  have h1 := h.len
  have h2 := h.sum
  rw [hL] at h1 h2
  simp at h1 h2
  obtain ⟨f, hf, hfl⟩ := lens_at (s := s) (i := j) (n := n) (by rw [hL, ← h1]; simp)
  constructor
  · unfold addrP
    rw [adr_mk hf (by omega)]
    simp only [pre_lens, hL, h.base]
    rw [List.take_append_of_le_length (by omega), List.take_of_length_le (by omega), h2]
  · have hw : s.ws.length = t + n := by rw [ws_len, hL]; simp [h2]
    have := plc_mk (s := s) (i := t + k) (by omega)
    unfold setP
    rw [show b + (t : Int) + (k : Int) = s.base + ((t + k : Nat) : Int) by rw [h.base]; omega, this]
theorem Shp.set {s : Sk} {b : Int} {j t : Nat} (h : Shp s b j t) (n : Nat) (v : Int) : Shp (setS s n v) b j t := ⟨by rw [lens_set]; exact h.len, by rw [lens_set]; exact h.sum, h.base, h.most, h.nop.set n v⟩
theorem Shp.push {s : Sk} {b : Int} {j t : Nat} (h : Shp s b j t) {n : Nat} {ps : List Bool} (hps : List.replicate n false = ps) : Shp (pushS s ps) b (j + 1) (t + n) ∧ (∃ L, lensP (pushS s ps) = L ++ [n]) := by
  subst hps
  refine ⟨⟨?_, ?_, h.base, h.most, h.nop.push fun q hq => by simp at hq; exact hq.2⟩, lensP s, ?_⟩
  · rw [lens_push]; simp [h.len]
  · rw [lens_push]; simp [h.sum]
  · rw [lens_push]; simp
theorem Shp.get {s : Sk} {b : Int} {j t : Nat} (h : Shp s b j t) : getP s (b + t) = (0, 6) := by
  unfold getP
  cases hp : plc s (b + t) with
  | none => rfl
  | some i =>
    have := plc_some hp
    rw [ws_len, h.sum, h.base] at this
    omega
theorem Shp.pop {s : Sk} {b : Int} {j t : Nat} (h : Shp s b (j + 1) t) : ∃ n, (lensP s)[j]? = some n ∧ n ≤ t ∧ popP s = (0, popS s) ∧ Shp (popS s) b j (t - n) := by
  have hl : s.fr.length = j + 1 := by rw [← lens_len]; exact h.len
  have hne : lensP s ≠ [] := fun e => by have := h.len; rw [e] at this; simp at this
  have hd := List.dropLast_concat_getLast hne
  have hdl : (lensP s).dropLast.length = j := by rw [List.length_dropLast, h.len]; rfl
  have hsum := h.sum
  rw [← hd] at hsum
  simp at hsum
  refine ⟨(lensP s).getLast hne, ?_, by omega, ?_, ⟨?_, ?_, h.base, h.most, h.nop.pop⟩⟩
  · conv => lhs; rw [← hd]
    rw [← hdl]; simp
  · unfold popP
    rw [if_neg (by omega), h.nop.named]; rfl
  · rw [lens_pop]; exact hdl
  · rw [lens_pop]; omega
set_option maxRecDepth 100000 in
set_option maxHeartbeats 20000000 in
theorem addrs_law (v0 : Value) (la : List Nat) (bs : Nat) (w : World) (hs0 : Bts w v0 la) (hbs : bs < 65536) : Calls Try.prog 6 #[v0, .int .u16 bs] w fun e w' => e = .returned (.bool true) ∧ Below w.heap.size w w' := by
  have n1 := has_new ((bs : Int) + 1) 2000 w (by simp [newB, allowB]; omega)
  obtain ⟨a0, c0, rfl, hb0⟩ := hs0
  have HB0 := hide hb0
  clear hb0
  generalize hn0 : la.length = n0 at *
  have HN0 := hide hn0
  clear hn0
  have hbs' : (bs : Int) ≤ 65535 := by omega
  go_enter Try.func6, Try.ntmps6
  go_wp2_with fail
  refine n1.mono ?_
  rintro e w1 ⟨rfl, H1⟩
  clear n1
  go_wp2_with fail
  refine (awake_any w1).mono ?_
  rintro e w2 ⟨rfl, b2⟩
  have H2 := hide (H1.below b2)
  clear H1 b2
  go_wp2
  go_loopw [8, 9, 10] (fun va vf vi wr => A1 w wr w.heap.size n0 ((bs : Int) + 1) va vf vi) (fun _ _ vi _ => 20 - (intOf vi).toNat)
  case atStart => exact ⟨0, 0, newS ((bs : Int) + 1) 2000, by simp, rfl, rfl, by simp, by simp, by simp, ⟨rfl, rfl, rfl, rfl, fun u hu => by simp [newS, Sk.ws] at hu⟩, H2.out⟩
  case round =>
    obtain ⟨j, t, s, rfl, rfl, rfl, hl20, hln, hsum, HS, HH⟩ := hrel.ex
    clear hrel H2
    have H := hide HH
    have HSh := hide HS
    clear HH HS
    have bt : (t : Int) ≤ 220 := by omega
    by_cases hlt : j < n0 ∧ j < 20
    · obtain ⟨u, hu⟩ : ∃ u, la[j]? = some u := ⟨la[j]'(by rw [HN0.out]; exact hlt.1), by simp⟩
      obtain ⟨hu256, b, o, rfl, hbl, cu0⟩ := HB0.out _ _ hu
      have cu : wr.cell? ⟨b, o + j, none⟩ = some (.int .u8 u) := (H.out.bel.cell (p := ⟨b, o + j, none⟩) hbl).trans cu0
      clear cu0 hu
      have bj : (j : Int) < (n0 : Int) := by omega
      have bj2 : (j : Int) < 20 := by omega
      obtain ⟨n, hn⟩ : ∃ n, u % 12 = n := ⟨_, rfl⟩
      have hn12 : n < 12 := by omega
      have r0 : (u : Int).tmod 12 = (n : Int) := by rw [Int.tmod_eq_emod_of_nonneg (by omega)]; omega
      have hu' : (u : Int) < 256 := by omega
      have hn' : (n : Int) < 12 := by omega
      have d1 : decide (j < n0) = true := by simpa using hlt.1
      have d2 : decide (j < 20) = true := by simpa using hlt.2
      have hmk := run_bools wr n (by omega)
      obtain ⟨ps, hps⟩ : ∃ ps, List.replicate n false = ps := ⟨_, rfl⟩
      have hpl : ps.length = n := by rw [← hps]; simp
      rw [hps] at hmk
      have hpush := (H.out.below ((Below.refl _ _).alloc (Nat.le_refl _) (.cells (bcells ps).toArray 4))).push (bools_made (W := w) (ps := ps)) (by omega)
      have hok : pushP s ps = (0, pushS s ps) := by
        unfold pushP
        rw [if_pos]
        simp only [pushOk, decide_eq_true_eq]
        rw [← lens_len, HSh.out.len, ws_len, HSh.out.sum, HSh.out.most, hpl]
        omega
      rw [hok, hpl] at hpush
      obtain ⟨sh2, sl2⟩ := HSh.out.push hps
      have HP := hide hpush
      have HS2 := hide sh2
      have HL2 := hide sl2
      clear hn hps hpush hok sh2 sl2 hpl
      go_wp2_with fail
      refine HP.out.mono ?_
      rintro e w3 ⟨rfl, H3⟩
      have H3h := hide H3
      clear HP H3
      go_wp2
      go_loopw [8, 12] (fun va vk wr' => A2 w wr' w.heap.size j t n ((bs : Int) + 1) va vk) (fun _ vk _ => n - (intOf vk).toNat)
      case atStart => exact ⟨0, _, by simp, rfl, Nat.zero_le _, HS2.out, HL2.out, H3h.out⟩
      case round =>
        obtain ⟨k, s4, rfl, rfl, hkn, sh4, sl4, H4⟩ := hrel.ex
        clear hrel
        have H4h := hide H4
        have S4 := hide sh4
        have L4 := hide sl4
        clear H4 sh4 sl4
        by_cases hk : k < n
        · obtain ⟨e1, e2⟩ := S4.out.addr L4.out hk
          have bk : (k : Int) < (n : Int) := by omega
          have d3 : decide (k < n) = true := by simpa using hk
          have ca := H4h.out.addr (j : Int) (k : Int)
          rw [e1] at ca
          have CA := hide ca
          have E2 := hide e2
          clear ca e1 e2
          go_wp2_with fail
          refine CA.out.mono ?_
          rintro e w5 ⟨rfl, H5⟩
          have cs := H5.set ((bs : Int) + 1 + t + k) ((j : Int) + k) (by omega) (by omega)
          rw [E2.out] at cs
          have CS := hide cs
          clear cs H5 CA
          go_wp2_with fail
          refine CS.out.mono ?_
          rintro e w6 ⟨rfl, H6⟩
          have H6h := hide H6
          clear H6 CS
          go_wp2
          go_roundw
          case rel => exact ⟨k + 1, _, by go_num, by go_num, by omega, S4.out.set _ _, by rw [lens_set]; exact L4.out, H6h.out⟩
          case measure => simp [intOf]; omega
        · obtain rfl : k = n := by omega
          have d3 : decide (k < k) = false := by simp
          go_wp2
          go_roundw
          case rel => exact ⟨j + 1, t + k, s4, by go_num, by go_num, by go_num, by omega, by omega, by omega, S4.out, H4h.out⟩
          case measure => simp [intOf]; omega
    · have hd : (decide (j < n0) = false ∧ decide ((j : Int) < (n0 : Int)) = false) ∨ (decide (j < n0) = true ∧ decide ((j : Int) < (n0 : Int)) = true ∧ decide (j < 20) = false ∧ decide ((j : Int) < 20) = false) := by
        by_cases h1 : j < n0
        · right; simp; omega
        · left; simp; omega
      clear hlt HB0 HN0
      have bj3 : (j : Int) ≤ 20 := by omega
      have ht220 : t ≤ 220 := by omega
      rcases hd with ⟨d1, d2⟩ | ⟨d1, d2, d3, d4⟩
      all_goals
        go_wp2
        go_loopw [8, 9] (fun va vf wr' => A3 w wr' w.heap.size ((bs : Int) + 1) va vf) (fun _ vf _ => (intOf vf).toNat)
        case atStart => exact ⟨j, t, s, rfl, rfl, by omega, by omega, HSh.out, H.out⟩
        case round =>
          obtain ⟨q, r, s3, rfl, rfl, hq, hr, HS3, HH3⟩ := hrel.ex
          clear hrel
          have H3 := hide HH3
          have S3 := hide HS3
          clear HH3 HS3
          cases q with
          | zero =>
            obtain ⟨hl0, hr0⟩ : s3.fr.length = 0 ∧ r = 0 := by
              have h1 := S3.out.len
              have h2 := S3.out.sum
              have h3 : lensP s3 = [] := List.eq_nil_of_length_eq_zero h1
              rw [h3] at h2
              exact ⟨by rw [← lens_len]; exact h1, by simpa using h2.symm⟩
            subst hr0
            have hg := H3.out.get ((bs : Int) + 1) (by omega)
            have e1 := S3.out.get
            rw [show (bs : Int) + 1 + ((0 : Nat) : Int) = (bs : Int) + 1 by simp] at e1
            rw [e1] at hg
            have e2 : popP s3 = (6, s3) := by unfold popP; rw [if_pos hl0]
            have HG := hide hg
            have E2 := hide e2
            clear hg e1 e2 hl0
            go_wp2_with fail
            refine HG.out.mono ?_
            rintro e w5 ⟨rfl, H5⟩
            have hp := H5.pop
            rw [E2.out] at hp
            have HP := hide hp
            clear hp H5 HG
            have d5 : ((bs : Int) + 1 + ((0 : Nat) : Int) == (bs : Int) + 1) = true := by simp
            go_wp2_with fail
            refine HP.out.mono ?_
            rintro e w6 ⟨rfl, H6⟩
            have B6 := hide H6.bel
            clear H6 HP
            go_wp2
            go_ret
            exact ⟨rfl, B6.out⟩
          | succ q =>
            obtain ⟨n, hn, hnr, hpop, sh⟩ := S3.out.pop
            have hf := H3.out.frames
            rw [S3.out.len] at hf
            have HF := hide hf
            have HN := hide hn
            have HPop := hide hpop
            have HSh' := hide sh
            have bq : (q : Int) < 20 := by omega
            have br : (r : Int) ≤ 220 := by omega
            have bn : (n : Int) ≤ (r : Int) := by omega
            clear hf hn hpop sh
            go_wp2_with fail
            refine HF.out.mono ?_
            rintro e w5 ⟨rfl, hblk, H5⟩
            have cn : w5.cell? ⟨wr.heap.size, q, none⟩ = some (.int .i64 (n : Int)) := by
              rw [cell_of hblk]; simp [addrs, HN.out]
            have hg := H5.get ((bs : Int) + 1 + r) (by omega)
            rw [S3.out.get] at hg
            have HG := hide hg
            clear hg H5 hblk HF
            have d6 : ((q : Int) + 1 : Int) - 1 = q := by omega
            go_wp2_with fail
            refine HG.out.mono ?_
            rintro e w6 ⟨rfl, H6⟩
            have hp := H6.pop
            rw [HPop.out] at hp
            have HP := hide hp
            clear hp H6 HG cn
            go_wp2_with fail
            refine HP.out.mono ?_
            rintro e w7 ⟨rfl, H7⟩
            have hf := H7.frames
            rw [HSh'.out.len] at hf
            have HF := hide hf
            clear hf H7 HP
            go_wp2_with fail
            refine HF.out.mono ?_
            rintro e w8 ⟨rfl, _, H8⟩
            have H8h := hide H8
            clear H8 HF
            go_wp2
            go_roundw
            case rel => exact ⟨q, r - n, popS s3, by rw [show ((r - n : Nat) : Int) = (r : Int) - n by omega]; go_num, rfl, by omega, by omega, HSh'.out, H8h.out⟩
            case measure => simp [intOf]
end Go.Proofs.Ytjapfckadikjiaa
