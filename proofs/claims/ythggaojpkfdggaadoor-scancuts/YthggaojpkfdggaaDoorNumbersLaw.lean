/- The law ScanNumbers, walked. -/
import Derived.Test.YthggaojpkfdggaaDoorNumbM
import Derived.Test.YthggaojpkfdggaaDoorQuotesLaw
namespace Go.Proofs.YthggaojpkfdggaaDoor
open Go.RowKit

/-- What the loop that writes the digits down keeps. -/
structure Down (n k : Nat) (ds : List UInt8) : Prop where
  all : ds.all digitP = true
  num : numFrom k ds = n
  low : k * 10 ^ ds.length ≤ n
  lead : ds = [] ∧ k = n ∨ ds ≠ [] ∧ (0 < k ∨ ds.head? ≠ some 48 ∨ ds = [48])
  len : ds.length ≤ 19

theorem Down.start (n : Nat) : Down n n [] := ⟨rfl, rfl, by simp, Or.inl ⟨rfl, rfl⟩, Nat.zero_le _⟩

theorem Down.spelt {n : Nat} {ds : List UInt8} (h : Down n 0 ds) (hne : ds ≠ []) : Spelt n ds := by
  refine ⟨h.all, h.num, hne, ?_, h.len⟩
  rcases h.lead with ⟨h1, _⟩ | ⟨_, h2⟩
  · exact absurd h1 hne
  · rcases h2 with h2 | h2 | h2
    · omega
    · exact Or.inl h2
    · exact Or.inr h2

theorem dig_of (m : Nat) (h : m < 10) : digitP (UInt8.ofNat (48 + m)) = true ∧ (UInt8.ofNat (48 + m)).toNat = 48 + m := by
  have : ∀ m, m < 10 → digitP (UInt8.ofNat (48 + m)) = true ∧ (UInt8.ofNat (48 + m)).toNat = 48 + m := by decide +kernel
  exact this m h

theorem Down.step {n k : Nat} {ds : List UInt8} (h : Down n k ds) (hn : n < 9223372036854775808) (hc : 0 < k ∨ ds = []) : Down n (k / 10) (UInt8.ofNat (48 + k % 10) :: ds) := by
  obtain ⟨hd1, hd2⟩ := dig_of (k % 10) (by omega)
  refine ⟨by rw [List.all_cons, hd1, h.all]; rfl, ?_, ?_, Or.inr ⟨by simp, ?_⟩, ?_⟩
  · show numFrom (k / 10 * 10 + ((UInt8.ofNat (48 + k % 10)).toNat - 48)) ds = n
    rw [hd2, show k / 10 * 10 + (48 + k % 10 - 48) = k by omega]
    exact h.num
  · rw [List.length_cons, Nat.pow_succ]
    have h1 := h.low
    have h2 : k / 10 * 10 ≤ k := by omega
    have h3 : k / 10 * 10 * 10 ^ ds.length ≤ k * 10 ^ ds.length := Nat.mul_le_mul_right _ h2
    rw [show k / 10 * (10 ^ ds.length * 10) = k / 10 * 10 * 10 ^ ds.length by rw [Nat.mul_comm (10 ^ ds.length) 10, Nat.mul_assoc]]
    omega
  · by_cases h10 : 0 < k / 10
    · exact Or.inl h10
    · rcases hc with hc | hc
      · refine Or.inr (Or.inl ?_)
        intro he
        have := congrArg UInt8.toNat (Option.some.inj he)
        rw [hd2] at this
        rw [show (48 : UInt8).toNat = 48 from rfl] at this
        omega
      · by_cases hk : k % 10 = 0
        · refine Or.inr (Or.inr ?_)
          rw [hk, hc]; rfl
        · refine Or.inr (Or.inl ?_)
          intro he
          have := congrArg UInt8.toNat (Option.some.inj he)
          rw [hd2] at this
          rw [show (48 : UInt8).toNat = 48 from rfl] at this
          omega
  · rw [List.length_cons]
    rcases hc with hc | hc
    · have h1 := h.low
      have h2 : 10 ^ ds.length ≤ k * 10 ^ ds.length := Nat.le_mul_of_pos_left _ hc
      have : ds.length < 19 := by
        rcases Nat.lt_or_ge ds.length 19 with h3 | h3
        · exact h3
        · have h4 : 10 ^ 19 ≤ 10 ^ ds.length := Nat.pow_le_pow_right (by omega) h3
          have h5 : (10 ^ 19 : Nat) = 10000000000000000000 := by decide
          omega
      omega
    · rw [hc]; simp

theorem app_data (a b : ByteArray) : (a ++ b).data.toList = a.data.toList ++ b.data.toList := by simp

theorem size_list (a : ByteArray) : a.size = a.data.toList.length := by simp

def strLen : Value → Nat
  | .string s => s.size
  | _ => 0

set_option maxRecDepth 20000 in
set_option maxHeartbeats 4000000 in
theorem numbers_any (n : Int) (hn : -9223372036854775808 ≤ n ∧ n ≤ 9223372036854775807) (w : World) (hG : Gl w) : Calls Tryd.prog 8 #[.int .i64 n] w fun e w' => e = .returned (.bool true) ∧ Below w.heap.size w w' := by
  by_cases hneg : n < 0
  · go_enter Tryd.func8, Tryd.ntmps8
    go_wp2_with fail
    refine (awake_any w hG).mono ?_
    rintro e w1 ⟨rfl, b1⟩
    go_wp2
    go_ret
    exact ⟨rfl, b1⟩
  obtain ⟨m, rfl⟩ := Int.eq_ofNat_of_zero_le (show 0 ≤ n by omega)
  have hm : m < 9223372036854775808 := by omega
  have HM := Lib.hid hm
  have hm' : m ≤ 2 ^ 63 - 1 := by omega
  clear hn hm
  go_enter Tryd.func8, Tryd.ntmps8
  go_wp2_with fail
  go_loopw [3, 4] (fun v i wr => ∃ (k : Nat) (ds : List UInt8), k ≤ m ∧ i = .int .i64 k ∧ v = .string ⟨ds.toArray⟩ ∧ Below w.heap.size w wr ∧ Hid (Down m k ds)) (fun v _ _ => 20 - strLen v)
  case atStart => exact ⟨m, [], Nat.le_refl _, rfl, rfl, Below.refl _ _, Down.start m⟩
  case round =>
    obtain ⟨k, ds, hk, rfl, rfl, hbr, HD⟩ := hrel
    generalize hS : (⟨ds.toArray⟩ : ByteArray) = S at *
    have HSd : Hid (S.data.toList = ds) := by show _ = _; rw [← hS]
    have HSs : Hid (S.size = ds.length) := by show _ = _; rw [← hS]; exact mk_size _
    have hS20 : S.size ≤ 19 := by rw [HSs.out]; exact HD.out.len
    clear hS
    by_cases hgo : 0 < k ∨ ds = []
    · have HN := Lib.hid (HD.out.step HM.out hgo)
      have hcv : (convert 35 9 (.slice (some ⟨wr.heap.size, 0, none⟩) 1 1)).run Tryd.prog (wr.alloc (.cells #[.int .u8 (48 + (k : Int) % 10)] 5)) = .ok (.string ⟨#[UInt8.ofNat (48 + k % 10)]⟩) (wr.alloc (.cells #[.int .u8 (48 + (k : Int) % 10)] 5)) :=
        run_convert_bytes_back (wr.alloc (.cells #[.int .u8 (48 + (k : Int) % 10)] 5)) 35 9 5 ⟨wr.heap.size, 0, none⟩ 1 [UInt8.ofNat (48 + k % 10)] Tryd.underlying35 Tryd.underlying5 Tryd.underlying9 (fun j hj => by
          match j, hj with
          | 0, _ =>
            have := (dig_of (k % 10) (by omega)).2
            simp only [List.getElem_cons_zero, this]
            simp [Addr.add])
      have HC : Hid ((⟨#[UInt8.ofNat (48 + k % 10)]⟩ : ByteArray) ++ S = ⟨(UInt8.ofNat (48 + k % 10) :: ds).toArray⟩) := by
        show _ = _
        rw [← mk_self ((⟨#[UInt8.ofNat (48 + k % 10)]⟩ : ByteArray) ++ S)]
        congr 2
        have : ((⟨#[UInt8.ofNat (48 + k % 10)]⟩ : ByteArray) ++ S).data.toList = [UInt8.ofNat (48 + k % 10)] ++ S.data.toList := by simp
        rw [this, HSd.out]
        rfl
      generalize UInt8.ofNat (48 + k % 10) = c at *
      by_cases hk0 : 0 < k
      · clear hgo
        go_wp2
        exact ⟨⟨k / 10, c :: ds, by omega, by go_num, by rw [HC.out], hbr.alloc hbr.size _, HN⟩, by rw [HC.out]; simp only [strLen]; rw [mk_size, List.length_cons, HSs.out]; have := HSs.out; omega⟩
      · have hds : ds = [] := by rcases hgo with h | h; exact absurd h hk0; exact h
        have hemp : S.toList.isEmpty = true := by rw [Lib.toList_data, HSd.out, hds]; rfl
        clear hgo hds
        go_wp2
        exact ⟨⟨k / 10, c :: ds, by omega, by go_num, by rw [HC.out], hbr.alloc hbr.size _, HN⟩, by rw [HC.out]; simp only [strLen]; rw [mk_size, List.length_cons, HSs.out]; have := HSs.out; omega⟩
    · have hk0 : k = 0 := by omega
      have hne : ds ≠ [] := fun h => hgo (Or.inr h)
      subst hk0
      have HSp := Lib.hid (HD.out.spelt hne)
      have hemp : S.toList.isEmpty = false := by
        rw [Lib.toList_data, HSd.out]
        cases ds with
        | nil => exact absurd rfl hne
        | cons a b => rfl
      clear hgo hne
      have d1 : (S ++ ⟨#[43]⟩ : ByteArray).data.toList = ds ++ [43] := by rw [app_data, HSd.out]
      have d2 : ((⟨#[97, 32, 48]⟩ : ByteArray) ++ S).data.toList = 97 :: 32 :: 48 :: ds := by rw [app_data, HSd.out]; rfl
      have d3 : (S ++ ⟨#[120]⟩ : ByteArray).data.toList = ds ++ [120] := by rw [app_data, HSd.out]
      have m1 : (S ++ ⟨#[43]⟩ : ByteArray).size ≤ maxLen := by
        rw [size_list, d1]; have := HSp.out.len; unfold maxLen; simp; omega
      have m2 : ((⟨#[97, 32, 48]⟩ : ByteArray) ++ S).size ≤ maxLen := by
        rw [size_list, d2]; have := HSp.out.len; unfold maxLen; simp; omega
      have m3 : (S ++ ⟨#[120]⟩ : ByteArray).size ≤ maxLen := by
        rw [size_list, d3]; have := HSp.out.len; unfold maxLen; simp; omega
      have s1 : ∀ W, Gl W → Calls Tryd.prog 9 #[.string (S ++ ⟨#[43]⟩)] W (Scanned ([(2, [], (m : Int), 0), (4, [43], 0, ds.length)], 0, 0) W) := fun W hG => by
        have := scan_any (S ++ ⟨#[43]⟩) m1 W hG
        rw [d1, scan_plus HSp.out HM.out] at this
        exact this
      have s2 : ∀ W, Gl W → Calls Tryd.prog 9 #[.string ((⟨#[97, 32, 48]⟩ : ByteArray) ++ S)] W (Scanned ([], 2, 3) W) := fun W hG => by
        have := scan_any ((⟨#[97, 32, 48]⟩ : ByteArray) ++ S) m2 W hG
        rw [d2, scan_nought HSp.out] at this
        exact this
      have s3 : ∀ W, Gl W → Calls Tryd.prog 9 #[.string (S ++ ⟨#[120]⟩)] W (Scanned ([], 0, 3) W) := fun W hG => by
        have := scan_any (S ++ ⟨#[120]⟩) m3 W hG
        rw [d3, scan_letter HSp.out] at this
        exact this
      have s4 : ∀ W, Gl W → Calls Tryd.prog 9 #[.string ⟨#[57, 50, 50, 51, 51, 55, 50, 48, 51, 54, 56, 53, 52, 55, 55, 53, 56, 48, 56]⟩] W (Scanned ([], 0, 3) W) := fun W hG => by
        have := scan_any ⟨#[57, 50, 50, 51, 51, 55, 50, 48, 51, 54, 56, 53, 52, 55, 55, 53, 56, 48, 56]⟩ (by decide) W hG
        rw [show (⟨#[57, 50, 50, 51, 51, 55, 50, 48, 51, 54, 56, 53, 52, 55, 55, 53, 56, 48, 56]⟩ : ByteArray).data.toList = [57, 50, 50, 51, 51, 55, 50, 48, 51, 54, 56, 53, 52, 55, 55, 53, 56, 48, 56] from rfl, scan_greatest] at this
        exact this
      have H1 := Lib.hid s1
      have H2 := Lib.hid s2
      have H3 := Lib.hid s3
      have H4 := Lib.hid s4
      clear s1 s2 s3 s4 d1 d2 d3 m1 m2 m3
      go_wp2_with fail
      refine (H1.out wr (hG.later hbr)).mono ?_
      rintro e w1 ⟨v, rfl, hown, b1⟩
      obtain ⟨g, cap, hv, _, hg⟩ := hown.form (Nat.succ_pos _)
      subst hv
      have c0 : w1.cell? ⟨g, 0, none⟩ = some (.int .i64 2) := hown.cells (g := g) rfl 0 _ rfl
      have c2 : w1.cell? ⟨g, 2, none⟩ = some (.int .i64 m) := hown.cells (g := g) rfl 2 _ rfl
      clear hown
      have b01 : Below w.heap.size w w1 := hbr.trans (b1.mono hbr.size)
      go_wp2_with fail
      refine (H2.out w1 (hG.later b01)).mono ?_
      rintro e w2 ⟨v, rfl, hown, b2⟩
      have b02 : Below w.heap.size w w2 := b01.trans (b2.mono b01.size)
      have c0' := (b2.cell (p := ⟨g, 0, none⟩) hg).trans c0
      have c2' := (b2.cell (p := ⟨g, 2, none⟩) hg).trans c2
      have hg2 := Nat.lt_of_lt_of_le hg b2.size
      clear c0 c2 hown
      go_wp2_with fail
      refine (H3.out w2 (hG.later b02)).mono ?_
      rintro e w3 ⟨v3, rfl, hown, b3⟩
      have b03 : Below w.heap.size w w3 := b02.trans (b3.mono b02.size)
      have c0 := (b3.cell (p := ⟨g, 0, none⟩) hg2).trans c0'
      have c2 := (b3.cell (p := ⟨g, 2, none⟩) hg2).trans c2'
      have hg3 := Nat.lt_of_lt_of_le hg2 b3.size
      clear c0' c2' hown
      go_wp2_with fail
      refine (H4.out w3 (hG.later b03)).mono ?_
      rintro e w4 ⟨v4, rfl, hown, b4⟩
      have b04 : Below w.heap.size w w4 := b03.trans (b4.mono b03.size)
      have c0' := (b4.cell (p := ⟨g, 0, none⟩) hg3).trans c0
      have c2' := (b4.cell (p := ⟨g, 2, none⟩) hg3).trans c2
      have hg4 := Nat.lt_of_lt_of_le hg3 b4.size
      clear c0 c2 hown
      go_wp2_with fail
      refine (awake_any w4 (hG.later b04)).mono ?_
      rintro e w5 ⟨rfl, b5⟩
      have c0 := (b5.cell (p := ⟨g, 0, none⟩) hg4).trans c0'
      have c2 := (b5.cell (p := ⟨g, 2, none⟩) hg4).trans c2'
      clear c0' c2'
      go_wp2
      go_ret
      exact ⟨by simp, b04.trans (b5.mono b04.size)⟩

end Go.Proofs.YthggaojpkfdggaaDoor
