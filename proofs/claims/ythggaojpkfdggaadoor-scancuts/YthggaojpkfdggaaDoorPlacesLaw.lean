/- The law ScanPlaces, walked. -/
import Derived.Test.YthggaojpkfdggaaDoorPlacM
import Derived.Test.YthggaojpkfdggaaDoorQuotesLaw
import Derived.Deep.QuietTactic
import Derived.BigQuiet
namespace Go.Proofs.YthggaojpkfdggaaDoor
open Go.RowKit

theorem tk_place : ∀ (ts : List TkA) (i : Nat) (h : i < ts.length), (tksCells ts)[i * 4 + 3]? = some (.int .i64 ts[i].2.2.2)
  | t :: ts, 0, _ => rfl
  | t :: ts, i + 1, h => by
    have ih := tk_place ts i (by simpa using h)
    show (tkCells t ++ tksCells ts)[(i + 1) * 4 + 3]? = _
    rw [List.getElem?_append_right (by simp [tkCells]; omega)]
    rw [show (i + 1) * 4 + 3 - (tkCells t).length = i * 4 + 3 by simp [tkCells]; omega, ih]
    rfl

theorem take_extract (s : ByteArray) (m : Nat) : (s.extract 0 m).data.toList = s.data.toList.take m := by
  rw [Lib.extract_data, List.drop_zero, Nat.sub_zero]

/-- The answer holds no token. -/
theorem places_none (s : ByteArray) (hs : s.size ≤ maxLen) (w : World) (hG : Gl w) (m : Nat) (er : Int) (hr : Hid (scanRes s.data.toList = ([], m, er))) : Calls Tryd.prog 7 #[.string s] w fun e w' => e = .returned (.bool true) ∧ Below w.heap.size w w' := by
  have cS := scan_any s hs w hG
  rw [hr.out] at cS
  have hp := scanRes_placed s.data.toList
  rw [hr.out] at hp
  have hll : s.data.toList.length = s.size := by simp
  have hms : m ≤ s.size := by
    rcases hp.ends with ⟨h1, _⟩ | ⟨_, h1, _⟩ | ⟨_, h1, _⟩ <;> dsimp only at h1 <;> omega
  have hs' := hs
  unfold maxLen at hs'
  rcases hp.ends with ⟨h1, h2⟩ | ⟨_, h1, h2 | h2⟩ | ⟨_, h1, h2⟩ <;> dsimp only at h1 h2 <;> subst h2
  case inl | inr.inl.inl | inr.inr =>
    try subst h1
    have HS := Lib.hid cS
    clear cS hp hr hll
    go_enter Tryd.func7, Tryd.ntmps7
    go_wp2_with fail
    refine HS.out.mono ?_
    rintro e w1 ⟨v, rfl, hown, b1⟩
    obtain ⟨ao, cv, hv⟩ := owns_form hown
    subst hv
    clear hown
    go_wp2_with fail
    refine (awake_any w1 (hG.later b1)).mono ?_
    rintro e w2 ⟨rfl, b2⟩
    go_wp2_with fail
    go_loop [6] (fun i => i = .int .i64 0) (fun _ => 0)
    case atStart => rfl
    case round =>
      subst hrel
      go_wp2
      go_ret
      exact ⟨rfl, b1.trans (b2.mono b1.size)⟩
  case inr.inl.inr =>
    have ha := scanRes_ahead hr.out rfl
    rw [hll] at ha
    have hm := ha.1
    have cS2 : ∀ W, Gl W → Calls Tryd.prog 9 #[.string (s.extract 0 m)] W (Scanned ((scanRes (s.data.toList.take m)).1, (scanRes (s.data.toList.take m)).2.1, 0) W) := fun W hG => by
      have := scan_any (s.extract 0 m) (by unfold maxLen; simp; omega) W hG
      rw [take_extract] at this
      rw [← ha.2]
      exact this
    have HS := Lib.hid cS
    have HS2 := Lib.hid cS2
    clear cS cS2 hp hr hll h1 ha
    go_enter Tryd.func7, Tryd.ntmps7
    go_wp2_with fail
    refine HS.out.mono ?_
    rintro e w1 ⟨v, rfl, hown, b1⟩
    obtain ⟨ao, cv, hv⟩ := owns_form hown
    subst hv
    clear hown
    go_wp2_with fail
    refine (awake_any w1 (hG.later b1)).mono ?_
    rintro e w2 ⟨rfl, b2⟩
    have b12 : Below w.heap.size w w2 := b1.trans (b2.mono b1.size)
    go_wp2_with fail
    go_loop [6] (fun i => i = .int .i64 0) (fun _ => 0)
    case atStart => rfl
    case round =>
      subst hrel
      go_wp2_with fail
      refine (HS2.out w2 (hG.later b12)).mono ?_
      rintro e w3 ⟨v, rfl, hown, b3⟩
      clear hown
      go_wp2
      go_ret
      exact ⟨by simp, b12.trans (b3.mono b12.size)⟩

set_option maxRecDepth 20000 in
set_option maxHeartbeats 4000000 in
/-- The answer holds tokens. -/
theorem places_some (s : ByteArray) (hs : s.size ≤ maxLen) (w : World) (hG : Gl w) (ts : List TkA) (hne : 0 < ts.length) (m : Nat) (er : Int) (hr : Hid (scanRes s.data.toList = (ts, m, er))) : Calls Tryd.prog 7 #[.string s] w fun e w' => e = .returned (.bool true) ∧ Below w.heap.size w w' := by
  have cS := scan_any s hs w hG
  rw [hr.out] at cS
  have hp := scanRes_placed s.data.toList
  rw [hr.out] at hp
  have hll : s.data.toList.length = s.size := by simp
  have hs' := hs
  unfold maxLen at hs'
  have hend : m = 0 ∧ er = 0 := by
    rcases hp.ends with h | ⟨h, _⟩ | ⟨h, _⟩
    · exact h
    · dsimp only at h; rw [h] at hne; simp at hne
    · dsimp only at h; rw [h] at hne; simp at hne
  obtain ⟨h1, h2⟩ := hend
  subst h1; subst h2
  have hin : ∀ i (h : i < ts.length), ts[i].2.2.2 < s.size := fun i h => by
    have := hp.within _ (List.getElem_mem h)
    rw [hll] at this
    exact this
  have hord : ∀ i (h : i + 1 < ts.length), ts[i].2.2.2 < ts[i + 1].2.2.2 := fun i h =>
    List.pairwise_iff_getElem.1 (show ts.Pairwise _ from hp.order) i (i + 1) (Nat.lt_of_succ_lt h) h (Nat.lt_succ_self i)
  have hfew : ts.length ≤ 20000 := hp.few
  have HS := Lib.hid cS
  have HI := Lib.hid hin
  have HO := Lib.hid hord
  clear cS hp hr hll hin hord
  go_enter Tryd.func7, Tryd.ntmps7
  go_wp2_with fail
  refine HS.out.mono ?_
  rintro e w1 ⟨v, rfl, hown, b1⟩
  dsimp only at hown
  obtain ⟨g, cap, hv, _, hg⟩ := hown.form hne
  subst hv
  have hc : ∀ i (h : i < ts.length), w1.cell? ⟨g, i * 4 + 3, none⟩ = some (.int .i64 ts[i].2.2.2) := fun i h => by
    have := hown.cells (g := g) rfl _ _ (tk_place ts i h)
    simpa [Addr.add] using this
  have HC := Lib.hid hc
  clear hown hc
  go_wp2_with fail
  refine (awake_any w1 (hG.later b1)).mono ?_
  rintro e w2 ⟨rfl, b2⟩
  have b12 : Below w.heap.size w w2 := b1.trans (b2.mono b1.size)
  have HD : Hid (∀ i (h : i < ts.length), w2.cell? ⟨g, i * 4 + 3, none⟩ = some (.int .i64 ts[i].2.2.2)) := fun i h => (b2.cell (p := ⟨g, i * 4 + 3, none⟩) hg).trans (HC.out i h)
  go_wp2_with fail
  go_loopw [6] (fun i wr => ∃ k q : Nat, k ≤ ts.length ∧ i = .int .i64 k ∧ wr = w2.drewN q) (fun i _ => ts.length - (intOf i).toNat)
  case atStart => exact ⟨0, 0, Nat.zero_le _, rfl, rfl⟩
  case round =>
    obtain ⟨k, q, hk, rfl, rfl⟩ := hrel
    by_cases hlt : k < ts.length
    · have c1 := HD.out k hlt
      have i1 := HI.out k hlt
      by_cases hk0 : k = 0
      · subst hk0
        generalize ts[0].2.2.2 = x at *
        have q0 : (0 : Int) < (ts.length : Int) := by omega
        have q1 : decide ((x : Int) < 0) = false := by simp
        have q2 : decide ((s.size : Int) ≤ (x : Int)) = false := by simp; omega
        have q3 : decide ((x : Int) ≥ (s.size : Int)) = false := q2
        have q4 : decide (s.size ≤ x) = false := by simp; omega
        rw [Nat.zero_mul, Nat.zero_add] at c1
        clear i1 hs hs' HI HO HC HD hne hfew
        go_wp2_with fail
        go_quiet (fail)
        go_wp2
        exact ⟨⟨1, q + nq, by omega, rfl, rfl⟩, by simp [intOf]; omega⟩
      · obtain ⟨j, rfl⟩ : ∃ j, k = j + 1 := ⟨k - 1, by omega⟩
        have c2 := HD.out j (by omega)
        have o1 := HO.out j hlt
        generalize ts[j].2.2.2 = y at *
        generalize ts[j + 1].2.2.2 = x at *
        have q0 : ((j : Int) + 1) < (ts.length : Int) := by omega
        have q0' : (j : Int) < (ts.length : Int) := by omega
        have q1 : decide ((x : Int) < 0) = false := by simp
        have q2 : decide ((s.size : Int) ≤ (x : Int)) = false := by simp; omega
        have q3 : decide ((x : Int) ≥ (s.size : Int)) = false := q2
        have q4 : decide (s.size ≤ x) = false := by simp; omega
        have r1 : (0 : Int) < (j : Int) + 1 := by omega
        have r2 : decide ((x : Int) ≤ (y : Int)) = false := by simp; omega
        have r3 : decide (x ≤ y) = false := by simp; omega
        have hj64 : (j : Int) + 1 ≤ 9223372036854775807 := by omega
        have HF := Lib.hid hfew
        clear i1 o1 hs hs' HI HO HC HD hne hfew
        go_wp2_with fail
        go_quiet (fail)
        go_wp2
        have hf := HF.out
        have hw : wrap64 ((j : Int) + 1 + 1) = ((j + 2 : Nat) : Int) := by
          have hi : (j : Int) + 1 + 1 ≤ 20001 := by omega
          have hi0 : (0 : Int) ≤ (j : Int) + 1 + 1 := by omega
          unfold wrap64
          omega
        rw [hw]
        exact ⟨⟨j + 2, q + nq, by omega, rfl, rfl⟩, by simp [intOf]; omega⟩
    · have : k = ts.length := by omega
      subst this
      go_wp2
      go_ret
      exact ⟨by simp; omega, below_drewN b12 _⟩

theorem places_any (s : ByteArray) (hs : s.size ≤ maxLen) (w : World) (hG : Gl w) : Calls Tryd.prog 7 #[.string s] w fun e w' => e = .returned (.bool true) ∧ Below w.heap.size w w' := by
  generalize hr : scanRes s.data.toList = r
  obtain ⟨ts, m, er⟩ := r
  cases ts with
  | nil => exact places_none s hs w hG m er hr
  | cons t ts => exact places_some s hs w hG (t :: ts) (Nat.succ_pos _) m er hr

end Go.Proofs.YthggaojpkfdggaaDoor
