/- The law ScanSpaced, walked. -/
import Derived.Test.YthggaojpkfdggaaDoorSpacM
import Derived.Test.YthggaojpkfdggaaDoorPlacesLaw
import Derived.Test.YthggaojpkfdggaaDoorNumbersLaw
namespace Go.Proofs.YthggaojpkfdggaaDoor
open Go.RowKit

set_option maxRecDepth 20000 in
set_option maxHeartbeats 4000000 in
/-- The text is refused. -/
theorem spaced_fault (s : ByteArray) (hs : s.size ≤ maxLen) (n : Int) (w : World) (hG : Gl w) (m : Nat) (er : Int) (her : er = 4 ∨ er = 3 ∨ er = 13) (hr : Hid (scanRes s.data.toList = ([], m, er))) : Calls Tryd.prog 6 #[.string s, .int .u8 n] w fun e w' => e = .returned (.bool true) ∧ Below w.heap.size w w' := by
  have cS := scan_any s hs w hG
  rw [hr.out] at cS
  have HS := Lib.hid cS
  clear cS hr
  rcases her with rfl | rfl | rfl
  all_goals
    go_enter Tryd.func6, Tryd.ntmps6
    go_wp2_with fail
    refine HS.out.mono ?_
    rintro e w1 ⟨v, rfl, hown, b1⟩
    clear hown
    go_wp2_with fail
    refine (awake_any w1 (hG.later b1)).mono ?_
    rintro e w2 ⟨rfl, b2⟩
    have b12 : Below w.heap.size w w2 := b1.trans (b2.mono b1.size)
    go_wp2_with fail
    refine (awake_any w2 (hG.later b12)).mono ?_
    rintro e w3 ⟨rfl, b3⟩
    go_wp2
    go_ret
    exact ⟨rfl, b12.trans (b3.mono b12.size)⟩

set_option maxRecDepth 20000 in
set_option maxHeartbeats 4000000 in
/-- The text is too long for the law's own bound. -/
theorem spaced_long (s : ByteArray) (hs : s.size ≤ maxLen) (n : Int) (w : World) (hG : Gl w) (ts : List TkA) (m : Nat) (hr : Hid (scanRes s.data.toList = (ts, m, 0))) (hl : 10000 < s.size) : Calls Tryd.prog 6 #[.string s, .int .u8 n] w fun e w' => e = .returned (.bool true) ∧ Below w.heap.size w w' := by
  have cS := scan_any s hs w hG
  rw [hr.out] at cS
  have HS := Lib.hid cS
  have hd : decide (10000 < (s.size : Int)) = true := by simp; omega
  clear cS hr hl
  unfold maxLen at hs
  go_enter Tryd.func6, Tryd.ntmps6
  go_wp2_with fail
  refine HS.out.mono ?_
  rintro e w1 ⟨v, rfl, hown, b1⟩
  clear hown
  go_wp2_with fail
  refine (awake_any w1 (hG.later b1)).mono ?_
  rintro e w2 ⟨rfl, b2⟩
  have b12 : Below w.heap.size w w2 := b1.trans (b2.mono b1.size)
  go_wp2_with fail
  refine (awake_any w2 (hG.later b12)).mono ?_
  rintro e w3 ⟨rfl, b3⟩
  go_wp2
  go_ret
  exact ⟨rfl, b12.trans (b3.mono b12.size)⟩

theorem gap_cell (w : World) (n : Int) (hn : 0 ≤ n ∧ n ≤ 255) : (w.alloc (.cells #[.string ⟨#[32]⟩, .string ⟨#[10]⟩, .string ⟨#[32, 47, 47, 32, 114, 10]⟩, .string ⟨#[9, 13, 32]⟩] 9)).cell? ⟨w.heap.size, (n % 4).toNat, none⟩ = some (.string ⟨(gapOf n.toNat).toArray⟩) := by
  have h4 : n % 4 = 0 ∨ n % 4 = 1 ∨ n % 4 = 2 ∨ n % 4 = 3 := by omega
  unfold gapOf
  rcases h4 with h | h | h | h
  · rw [if_pos (by omega), h]; simp
  · rw [if_neg (by omega), if_pos (by omega), h]; simp
  · rw [if_neg (by omega), if_neg (by omega), if_pos (by omega), h]; simp
  · rw [if_neg (by omega), if_neg (by omega), if_neg (by omega), h]; simp

theorem spaced_len (l gap : List UInt8) : ∀ us : List TkA, (spaced l gap us).length ≤ us.length * (l.length + 1 + gap.length)
  | [] => by simp [spaced]
  | u :: us => by
    have ih := spaced_len l gap us
    have hs : (seg l u.2.2.2 (nextAt l us)).length ≤ l.length := by
      unfold seg
      rw [List.length_take, List.length_drop]; omega
    show (seg l u.2.2.2 (nextAt l us) ++ 10 :: (gap ++ spaced l gap us)).length ≤ _
    rw [List.length_append, List.length_cons, List.length_append, List.length_cons, Nat.add_mul, Nat.one_mul]
    omega

/-- What the loop that lays the text keeps: the text so far, the places so far. -/
structure Laying (l gap : List UInt8) (ts : List TkA) (k : Nat) (P : List UInt8) (xs : List Nat) : Prop where
  text : P ++ spaced l gap (ts.drop k) = gap ++ spaced l gap ts
  places : xs ++ (moved l gap.length P.length (ts.drop k)).map (fun u => u.2.2.2) = (moved l gap.length gap.length ts).map (fun u => u.2.2.2)
  num : xs.length = k

theorem Laying.start (l gap : List UInt8) (ts : List TkA) : Laying l gap ts 0 gap [] := ⟨rfl, rfl, rfl⟩

theorem Laying.step {l gap : List UInt8} {ts : List TkA} {k : Nat} {P : List UInt8} {xs : List Nat} (h : Laying l gap ts k P xs) (hk : k < ts.length) (hb : ts[k].2.2.2 ≤ nextAt l (ts.drop (k + 1))) (hl : nextAt l (ts.drop (k + 1)) ≤ l.length) :
    Laying l gap ts (k + 1) (P ++ (seg l ts[k].2.2.2 (nextAt l (ts.drop (k + 1))) ++ 10 :: gap)) (xs ++ [P.length]) := by
  have hd : ts.drop k = ts[k] :: ts.drop (k + 1) := List.drop_eq_getElem_cons hk
  have h1 := h.text
  have h2 := h.places
  rw [hd] at h1 h2
  refine ⟨?_, ?_, by rw [List.length_append, h.num]; rfl⟩
  · rw [← h1]
    show _ = P ++ (seg l ts[k].2.2.2 (nextAt l (ts.drop (k + 1))) ++ 10 :: (gap ++ spaced l gap (ts.drop (k + 1))))
    simp [List.append_assoc]
  · rw [← h2]
    have hlen : (P ++ (seg l ts[k].2.2.2 (nextAt l (ts.drop (k + 1))) ++ 10 :: gap)).length = P.length + (nextAt l (ts.drop (k + 1)) - ts[k].2.2.2) + 1 + gap.length := by
      rw [List.length_append, List.length_append, List.length_cons, piece_len hb hl]; omega
    rw [hlen, List.append_assoc]
    rfl

theorem Laying.short {l gap : List UInt8} {ts : List TkA} {k : Nat} {P : List UInt8} {xs : List Nat} (h : Laying l gap ts k P xs) : P.length ≤ gap.length + ts.length * (l.length + 1 + gap.length) := by
  have h1 := congrArg List.length h.text
  rw [List.length_append, List.length_append] at h1
  have := spaced_len l gap ts
  omega

/-- The cells of a row of ints. -/
def intCells (xs : List Nat) : List Value := xs.map (fun x : Nat => Value.int .i64 (x : Int))

theorem tk_kind : ∀ (ts : List TkA) (i : Nat) (h : i < ts.length), (tksCells ts)[i * 4]? = some (.int .i64 ts[i].1)
  | t :: ts, 0, _ => rfl
  | t :: ts, i + 1, h => by
    have ih := tk_kind ts i (by simpa using h)
    show (tkCells t ++ tksCells ts)[(i + 1) * 4]? = _
    rw [List.getElem?_append_right (by simp [tkCells]; omega)]
    rw [show (i + 1) * 4 - (tkCells t).length = i * 4 by simp [tkCells]; omega, ih]
    rfl

theorem tk_text : ∀ (ts : List TkA) (i : Nat) (h : i < ts.length), (tksCells ts)[i * 4 + 1]? = some (.string ⟨ts[i].2.1.toArray⟩)
  | t :: ts, 0, _ => rfl
  | t :: ts, i + 1, h => by
    have ih := tk_text ts i (by simpa using h)
    show (tkCells t ++ tksCells ts)[(i + 1) * 4 + 1]? = _
    rw [List.getElem?_append_right (by simp [tkCells]; omega)]
    rw [show (i + 1) * 4 + 1 - (tkCells t).length = i * 4 + 1 by simp [tkCells]; omega, ih]
    rfl

theorem tk_num : ∀ (ts : List TkA) (i : Nat) (h : i < ts.length), (tksCells ts)[i * 4 + 2]? = some (.int .i64 ts[i].2.2.1)
  | t :: ts, 0, _ => rfl
  | t :: ts, i + 1, h => by
    have ih := tk_num ts i (by simpa using h)
    show (tkCells t ++ tksCells ts)[(i + 1) * 4 + 2]? = _
    rw [List.getElem?_append_right (by simp [tkCells]; omega)]
    rw [show (i + 1) * 4 + 2 - (tkCells t).length = i * 4 + 2 by simp [tkCells]; omega, ih]
    rfl

/-- The four cells of each token of a row. -/
structure TkAt (w : World) (g : Nat) (i : Nat) (t : TkA) : Prop where
  c0 : w.cell? ⟨g, i * 4, none⟩ = some (.int .i64 t.1)
  c1 : w.cell? ⟨g, i * 4 + 1, none⟩ = some (.string ⟨t.2.1.toArray⟩)
  c2 : w.cell? ⟨g, i * 4 + 2, none⟩ = some (.int .i64 t.2.2.1)
  c3 : w.cell? ⟨g, i * 4 + 3, none⟩ = some (.int .i64 t.2.2.2)

theorem TkAt.later {w w' : World} {g i B : Nat} {t : TkA} (h : TkAt w g i t) (hb : Below B w w') (hg : g < B) : TkAt w' g i t :=
  ⟨(hb.cell (p := ⟨g, i * 4, none⟩) hg).trans h.c0, (hb.cell (p := ⟨g, i * 4 + 1, none⟩) hg).trans h.c1, (hb.cell (p := ⟨g, i * 4 + 2, none⟩) hg).trans h.c2, (hb.cell (p := ⟨g, i * 4 + 3, none⟩) hg).trans h.c3⟩

theorem addr_add (g j : Nat) : (⟨g, 0, none⟩ : Addr).add j = ⟨g, j, none⟩ := by
  cases j with
  | zero => rfl
  | succ j => simp [Addr.add]

theorem tk_at {w : World} {base g n cap : Nat} {ts : List TkA} (h : w.ownsRow base 31 4 (.slice (some ⟨g, 0, none⟩) n cap) n (tksCells ts)) (i : Nat) (hi : i < ts.length) : TkAt w g i ts[i] := by
  have c0 := h.cells (g := g) rfl _ _ (tk_kind ts i hi)
  have c1 := h.cells (g := g) rfl _ _ (tk_text ts i hi)
  have c2 := h.cells (g := g) rfl _ _ (tk_num ts i hi)
  have c3 := h.cells (g := g) rfl _ _ (tk_place ts i hi)
  rw [addr_add] at c0 c1 c2 c3
  exact ⟨c0, c1, c2, c3⟩

theorem moved_get (l : List UInt8) (g : Nat) : ∀ (us : List TkA) (p i : Nat) (h : i < us.length) (h' : i < (moved l g p us).length), (moved l g p us)[i].1 = us[i].1 ∧ (moved l g p us)[i].2.1 = us[i].2.1 ∧ (moved l g p us)[i].2.2.1 = us[i].2.2.1
  | u :: us, p, 0, _, _ => ⟨rfl, rfl, rfl⟩
  | u :: us, p, i + 1, h, h' => moved_get l g us _ i (by simpa using h) (by rw [moved_length]; simpa using h)

theorem Laying.end {l gap : List UInt8} {ts : List TkA} {P : List UInt8} {xs : List Nat} (h : Laying l gap ts ts.length P xs) : P = gap ++ spaced l gap ts ∧ xs = (moved l gap.length gap.length ts).map (fun u => u.2.2.2) := by
  have h1 := h.text
  have h2 := h.places
  rw [List.drop_length] at h1 h2
  refine ⟨?_, ?_⟩
  · rw [← h1]; exact (List.append_nil P).symm
  · rw [← h2]; exact (List.append_nil xs).symm

theorem Tryd.info3 : (Tryd.prog.info? 3).map (fun i => (i.zero, i.size, i.bytes)) = some (some (.int .i64 0), 1, 8) := by kernel_rfl

set_option maxRecDepth 20000 in
set_option maxHeartbeats 4000000 in
theorem spaced_main (s : ByteArray) (hs : s.size ≤ maxLen) (n : Int) (hn : 0 ≤ n ∧ n ≤ 255) (w : World) (hG : Gl w) (ts : List TkA) (hr : Hid (scanRes s.data.toList = (ts, 0, 0))) (hl : s.size ≤ 10000) : Calls Tryd.prog 6 #[.string s, .int .u8 n] w fun e w' => e = .returned (.bool true) ∧ Below w.heap.size w w' := by
  have cS := scan_any s hs w hG
  rw [hr.out] at cS
  have HS := Lib.hid cS
  have hd : decide (10000 < (s.size : Int)) = false := by simp; omega
  clear cS
  have hll : Hid (s.data.toList.length = s.size) := by show _ = _; simp
  have hfew : ts.length ≤ 20000 := by have := (scanRes_placed s.data.toList).few; rw [hr.out] at this; exact this
  have HP : Hid (∀ i (h : i < ts.length), ts[i].2.2.2 < nextAt s.data.toList (ts.drop (i + 1)) ∧ nextAt s.data.toList (ts.drop (i + 1)) ≤ s.data.toList.length ∧ scanRes (seg s.data.toList ts[i].2.2.2 (nextAt s.data.toList (ts.drop (i + 1)))) = ([(ts[i].1, ts[i].2.1, ts[i].2.2.1, 0)], 0, 0)) :=
    run_piece (by rw [hll.out]; omega) ts _ (skipTo_le _ 0 (Nat.zero_le _)) (awk_skip _ 0) (run_of_scan (by rw [hll.out]; omega) hr.out)
  have hgap := fun W => gap_cell W n hn
  have hgg := Lib.hid (gap_gap n.toNat)
  have hgs := gap_short n.toNat
  generalize gapOf n.toNat = gap at *
  unfold maxLen at hs
  go_enter Tryd.func6, Tryd.ntmps6
  go_wp2_with fail
  refine HS.out.mono ?_
  rintro e w1 ⟨v, rfl, hown, b1⟩
  dsimp only at hown
  go_wp2_with fail
  refine (awake_any w1 (hG.later b1)).mono ?_
  rintro e w2 ⟨rfl, b2⟩
  have b12 : Below w.heap.size w w2 := b1.trans (b2.mono b1.size)
  have hown2 := ownsRow_later b2 hown
  clear hown
  obtain ⟨ao, cv, hv⟩ := owns_form hown2
  subst hv
  have hgc := hgap w2
  clear hgap
  generalize hgB : (⟨gap.toArray⟩ : ByteArray) = gb at *
  have hgsz : gb.size = gap.length := by rw [← hgB]; exact mk_size _
  have hgdt : gb.data.toList = gap := by rw [← hgB]
  have HgS := Lib.hid hgsz
  have HgD := Lib.hid hgdt
  clear hgB
  --LOOP
  go_wp2_with fail
  have hb0 : Below w2.heap.size w2 ((w2.alloc (.cells #[.string ⟨#[32]⟩, .string ⟨#[10]⟩, .string ⟨#[32, 47, 47, 32, 114, 10]⟩, .string ⟨#[9, 13, 32]⟩] 9)).alloc (.cells #[] 3)) := ((Below.refl _ _).alloc (Nat.le_refl _) _).alloc (by simp) _
  have hownA : ((w2.alloc (.cells #[.string ⟨#[32]⟩, .string ⟨#[10]⟩, .string ⟨#[32, 47, 47, 32, 114, 10]⟩, .string ⟨#[9, 13, 32]⟩] 9)).alloc (.cells #[] 3)).ownsRow w2.heap.size 3 1 (.slice (some ⟨w2.heap.size + 1, 0, none⟩) 0 0) 0 (intCells []) := by
    have h := heap_alloc_new (w2.alloc (.cells #[.string ⟨#[32]⟩, .string ⟨#[10]⟩, .string ⟨#[32, 47, 47, 32, 114, 10]⟩, .string ⟨#[9, 13, 32]⟩] 9)) (.cells #[] 3)
    rw [show (w2.alloc (.cells #[.string ⟨#[32]⟩, .string ⟨#[10]⟩, .string ⟨#[32, 47, 47, 32, 114, 10]⟩, .string ⟨#[9, 13, 32]⟩] 9)).heap.size = w2.heap.size + 1 by simp] at h
    exact ⟨rfl, .inr ⟨w2.heap.size + 1, 0, #[], rfl, Nat.le_succ _, h, Nat.le_refl _, by unfold maxLen; decide, rfl, rfl⟩⟩
  generalize ((w2.alloc (.cells #[.string ⟨#[32]⟩, .string ⟨#[10]⟩, .string ⟨#[32, 47, 47, 32, 114, 10]⟩, .string ⟨#[9, 13, 32]⟩] 9)).alloc (.cells #[] 3)) = W0 at *
  have HL0 : Hid (Laying s.data.toList gap ts 0 gb.data.toList []) := by rw [hgdt]; exact Laying.start _ _ _
  go_loopw [9, 10, 11] (fun t v i wr => ∃ (k : Nat) (P : ByteArray) (xs : List Nat) (ap : Option Addr) (cp : Nat), k ≤ ts.length ∧ i = .int .i64 k ∧ t = .string P ∧ v = .slice ap k cp ∧ wr.ownsRow w2.heap.size 3 1 (.slice ap k cp) k (intCells xs) ∧ Below w2.heap.size w2 wr ∧ Hid (Laying s.data.toList gap ts k P.data.toList xs)) (fun _ _ i _ => ts.length - (intOf i).toNat)
  case atStart => exact ⟨0, gb, [], _, 0, Nat.zero_le _, rfl, rfl, rfl, hownA, hb0, HL0⟩
  case round =>
    obtain ⟨k, P, xs, ap, cp, hk, rfl, rfl, rfl, hownP, hbr, HL⟩ := hrel
    clear HL0 hownA hb0 hgc hgsz hgdt
    have bwr : Below w.heap.size w wr := b12.trans (hbr.mono b12.size)
    have hGr : Gl wr := hG.later bwr
    have hPs : P.size ≤ 300000000 := by
      have h1 := HL.out.short
      have h2 : ts.length * (s.data.toList.length + 1 + gap.length) ≤ 20000 * 10007 := Nat.mul_le_mul hfew (by rw [hll.out]; omega)
      rw [← size_list] at h1
      omega
    by_cases hlt : k < ts.length
    · obtain ⟨g, cap, hv, hgl, hg⟩ := hown2.form (by omega)
      injection hv with hv1 hv2 hv3
      subst hv1; subst hv3
      obtain ⟨hp1, hp2, hp3⟩ := HP.out k hlt
      rw [hll.out] at hp2
      have hT := (tk_at hown2 k hlt).later hbr hg
      have HLs := Lib.hid (HL.out.step hlt (Nat.le_of_lt hp1) (by rw [hll.out]; exact hp2))
      have hnx : (∃ h : k + 1 < ts.length, nextAt s.data.toList (ts.drop (k + 1)) = ts[k + 1].2.2.2) ∨ (¬ k + 1 < ts.length ∧ nextAt s.data.toList (ts.drop (k + 1)) = s.size) := by
        by_cases h : k + 1 < ts.length
        · refine Or.inl ⟨h, ?_⟩
          rw [List.drop_eq_getElem_cons h]; rfl
        · refine Or.inr ⟨h, ?_⟩
          rw [List.drop_of_length_le (by omega), ← hll.out]; rfl
      have hcn : ∀ h : k + 1 < ts.length, wr.cell? ⟨g, (k + 1) * 4 + 3, none⟩ = some (.int .i64 ts[k + 1].2.2.2) := fun h => ((tk_at hown2 (k + 1) h).later hbr hg).c3
      have cP : ∀ W, Gl W → Calls Tryd.prog 9 #[.string (s.extract ts[k].2.2.2 (nextAt s.data.toList (ts.drop (k + 1))))] W (Scanned ([(ts[k].1, ts[k].2.1, ts[k].2.2.1, 0)], 0, 0) W) := fun W hG => by
        have := scan_any (s.extract ts[k].2.2.2 (nextAt s.data.toList (ts.drop (k + 1)))) (by unfold maxLen; simp; omega) W hG
        rw [Lib.extract_data] at this
        rw [← hp3]
        exact this
      have HC := Lib.hid cP
      have HX : Hid (seg s.data.toList ts[k].2.2.2 (nextAt s.data.toList (ts.drop (k + 1))) = (s.extract ts[k].2.2.2 (nextAt s.data.toList (ts.drop (k + 1)))).data.toList) := by show _ = _; rw [Lib.extract_data]; rfl
      clear cP hp3
      obtain ⟨c0, c1, c2, c3⟩ := hT
      have c3w := (tk_at hown2 k hlt).c3
      by_cases hk1 : k + 1 < ts.length
      · have hn1 : nextAt s.data.toList (ts.drop (k + 1)) = ts[k + 1].2.2.2 := by
          rcases hnx with ⟨_, h⟩ | ⟨h, _⟩
          · exact h
          · exact absurd hk1 h
        have cn := hcn hk1
        rw [← hn1] at cn
        clear hcn hnx hn1
        generalize nextAt s.data.toList (ts.drop (k + 1)) = b at *
        generalize ts[k].2.2.2 = a at *
        generalize ts[k].1 = kd at *
        generalize ts[k].2.2.1 = nu at *
        generalize ts[k].2.1 = tx at *
        have q1 : (k : Int) + 1 < (ts.length : Int) := by omega
        have q0 : (k : Int) < (ts.length : Int) := by omega
        have HF := Lib.hid hfew
        have q64 : (k : Int) + 1 ≤ 9223372036854775807 := by omega
        clear hfew
        go_wp2_with fail
        refine (HC.out wr hGr).mono ?_
        rintro e w3 ⟨v, rfl, hown, b3⟩
        obtain ⟨g1, cap1, hv, d0, d1, d2, d3, hg1⟩ := own_one hown
        subst hv
        clear hown
        dsimp only at d0 d1 d2 d3
        have hgr : g < wr.heap.size := Nat.lt_of_lt_of_le hg hbr.size
        have e0 := (b3.cell (p := ⟨g, k * 4, none⟩) hgr).trans c0
        have e1 := (b3.cell (p := ⟨g, k * 4 + 1, none⟩) hgr).trans c1
        have e2 := (b3.cell (p := ⟨g, k * 4 + 2, none⟩) hgr).trans c2
        have hownQ := ownsRow_later b3 hownP
        have hb3 : Below w2.heap.size w2 w3 := hbr.trans (b3.mono hbr.size)
        clear c0 c1 c2 c3 hownP
        generalize (⟨tx.toArray⟩ : ByteArray) = txb at *
        have r1 : (kd != kd) = false := by simp
        have r2 : (nu != nu) = false := by simp
        have HPs := Lib.hid hPs
        have Hl := Lib.hid hl
        go_wp2_with fail
        clear hPs q64 hs hl hd
        go_quiet (fail)
        clear r1 r2 d0 d1 d2 d3
        have b34 : Below w3.heap.size w3 (w3.drewN nq) := below_drewN (Below.refl _ _) _
        have hownQ4 := ownsRow_later b34 hownQ
        have hb4 : Below w2.heap.size w2 (w3.drewN nq) := hb3.trans (b34.mono hb3.size)
        clear e0 e1 e2 hownQ b34 hb3
        generalize w3.drewN nq = w4 at *
        have hzz := hb4.size
        obtain ⟨i0, hi, hz0, hz1, hz2⟩ := info_parts Tryd.info3
        have hown5 := hownQ4.alloc (.cells #[.int .i64 P.size] 3)
        have hlw := hown5.lt
        have hb5 : Below w2.heap.size w2 (w4.alloc (.cells #[.int .i64 P.size] 3)) := hb4.alloc hzz _
        clear hownQ4
        go_wp2_with (at_builtin; refine wpList_append_own _ rfl _ _ 33 rfl w2.heap.size 3 i0 _ 1 8 Tryd.underlying33 hi hz0 hz1 hz2 rfl (by decide) _ _ _ rfl hown5 ⟨w4.heap.size, 0, none⟩ 1 1 [.int .i64 P.size] rfl rfl ?c1 ?c2 ?c3 ?c4 ?c5 ?_)
        case c1 =>
          intro j u hj
          match j, hj with
          | 0, hj => simp at hj; subst hj; simp [Addr.add]
        case c2 => intro u hu; simp at hu; subst hu; rfl
        case c3 => have := HF.out; unfold maxLen; omega
        case c4 => have := HF.out; omega
        case c5 => have := HF.out; simp; omega
        intro v5 w5 hown6 hgr5 _
        have hb6 : Below w2.heap.size w2 w5 := hb5.grown hgr5 (by simp; omega) (fun k hk => (hlw k hk).1)
        clear hown5 hb5 hgr5 hlw hi hz0 hz1 hz2 i0 hb4
        have e6 := (hb6.cell (p := ⟨g, k * 4 + 3, none⟩) hg).trans c3w
        obtain ⟨ap6, cp6, hv6⟩ := owns_form hown6
        subst hv6
        have hx : b ≤ 10000 := by have := Hl.out; omega
        have hPs := HPs.out
        have hg6 : gb.size ≤ 6 := by have := HgS.out; omega
        go_wp2_with fail
        have hw : wrap64 ((k : Int) + 1) = ((k + 1 : Nat) : Int) := by
          have := HF.out
          unfold wrap64
          omega
        rw [hw]
        have hcx : intCells xs ++ [Value.int .i64 P.size] = intCells (xs ++ [P.size]) := by simp [intCells]
        rw [hcx] at hown6
        have HLn : Hid (Laying s.data.toList gap ts (k + 1) (P ++ (s.extract a b ++ ⟨#[10]⟩ ++ gb)).data.toList (xs ++ [P.size])) := by
          have h1 := HLs.out
          rw [HX.out, ← size_list] at h1
          have h2 : (P ++ (s.extract a b ++ ⟨#[10]⟩ ++ gb)).data.toList = P.data.toList ++ ((s.extract a b).data.toList ++ 10 :: gap) := by
            rw [app_data, app_data, app_data, HgD.out]
            simp [List.append_assoc]
          rw [← h2] at h1
          exact h1
        exact ⟨⟨k + 1, _, xs ++ [P.size], ap6, cp6, hlt, rfl, rfl, rfl, hown6, hb6, HLn⟩, by simpa [intOf] using Nat.sub_lt_sub_left hlt (Nat.lt_succ_self k)⟩
      · have hn1 : nextAt s.data.toList (ts.drop (k + 1)) = s.size := by
          rcases hnx with ⟨h, _⟩ | ⟨_, h⟩
          · exact absurd h hk1
          · exact h
        clear hcn hnx
        rw [hn1] at HLs HC HX hp1 hp2
        clear hn1 hp2
        generalize ts[k].2.2.2 = a at *
        generalize ts[k].1 = kd at *
        generalize ts[k].2.2.1 = nu at *
        generalize ts[k].2.1 = tx at *
        have q1 : decide ((k : Int) + 1 < (ts.length : Int)) = false := by simp; omega
        have q2 : ¬ ((k : Int) + 1 < (ts.length : Int)) := by omega
        have q0 : (k : Int) < (ts.length : Int) := by omega
        have HF := Lib.hid hfew
        have q64 : (k : Int) + 1 ≤ 9223372036854775807 := by omega
        clear hfew
        go_wp2_with fail
        refine (HC.out wr hGr).mono ?_
        rintro e w3 ⟨v, rfl, hown, b3⟩
        obtain ⟨g1, cap1, hv, d0, d1, d2, d3, hg1⟩ := own_one hown
        subst hv
        clear hown
        dsimp only at d0 d1 d2 d3
        have hgr : g < wr.heap.size := Nat.lt_of_lt_of_le hg hbr.size
        have e0 := (b3.cell (p := ⟨g, k * 4, none⟩) hgr).trans c0
        have e1 := (b3.cell (p := ⟨g, k * 4 + 1, none⟩) hgr).trans c1
        have e2 := (b3.cell (p := ⟨g, k * 4 + 2, none⟩) hgr).trans c2
        have hownQ := ownsRow_later b3 hownP
        have hb3 : Below w2.heap.size w2 w3 := hbr.trans (b3.mono hbr.size)
        clear c0 c1 c2 c3 hownP
        generalize (⟨tx.toArray⟩ : ByteArray) = txb at *
        have r1 : (kd != kd) = false := by simp
        have r2 : (nu != nu) = false := by simp
        have HPs := Lib.hid hPs
        have Hl := Lib.hid hl
        go_wp2_with fail
        clear hPs q64 hs hl hd
        go_quiet (fail)
        clear r1 r2 d0 d1 d2 d3
        have b34 : Below w3.heap.size w3 (w3.drewN nq) := below_drewN (Below.refl _ _) _
        have hownQ4 := ownsRow_later b34 hownQ
        have hb4 : Below w2.heap.size w2 (w3.drewN nq) := hb3.trans (b34.mono hb3.size)
        clear e0 e1 e2 hownQ b34 hb3
        generalize w3.drewN nq = w4 at *
        have hzz := hb4.size
        obtain ⟨i0, hi, hz0, hz1, hz2⟩ := info_parts Tryd.info3
        have hown5 := hownQ4.alloc (.cells #[.int .i64 P.size] 3)
        have hlw := hown5.lt
        have hb5 : Below w2.heap.size w2 (w4.alloc (.cells #[.int .i64 P.size] 3)) := hb4.alloc hzz _
        clear hownQ4
        go_wp2_with (at_builtin; refine wpList_append_own _ rfl _ _ 33 rfl w2.heap.size 3 i0 _ 1 8 Tryd.underlying33 hi hz0 hz1 hz2 rfl (by decide) _ _ _ rfl hown5 ⟨w4.heap.size, 0, none⟩ 1 1 [.int .i64 P.size] rfl rfl ?c1 ?c2 ?c3 ?c4 ?c5 ?_)
        case c1 =>
          intro j u hj
          match j, hj with
          | 0, hj => simp at hj; subst hj; simp [Addr.add]
        case c2 => intro u hu; simp at hu; subst hu; rfl
        case c3 => have := HF.out; unfold maxLen; omega
        case c4 => have := HF.out; omega
        case c5 => have := HF.out; simp; omega
        intro v5 w5 hown6 hgr5 _
        have hb6 : Below w2.heap.size w2 w5 := hb5.grown hgr5 (by simp; omega) (fun k hk => (hlw k hk).1)
        clear hown5 hb5 hgr5 hlw hi hz0 hz1 hz2 i0 hb4
        have e6 := (hb6.cell (p := ⟨g, k * 4 + 3, none⟩) hg).trans c3w
        obtain ⟨ap6, cp6, hv6⟩ := owns_form hown6
        subst hv6
        have hx : s.size ≤ 10000 := by have := Hl.out; omega
        have hPs := HPs.out
        have hg6 : gb.size ≤ 6 := by have := HgS.out; omega
        go_wp2_with fail
        have hw : wrap64 ((k : Int) + 1) = ((k + 1 : Nat) : Int) := by
          have := HF.out
          unfold wrap64
          omega
        rw [hw]
        have hcx : intCells xs ++ [Value.int .i64 P.size] = intCells (xs ++ [P.size]) := by simp [intCells]
        rw [hcx] at hown6
        have HLn : Hid (Laying s.data.toList gap ts (k + 1) (P ++ (s.extract a s.size ++ ⟨#[10]⟩ ++ gb)).data.toList (xs ++ [P.size])) := by
          have h1 := HLs.out
          rw [HX.out, ← size_list] at h1
          have h2 : (P ++ (s.extract a s.size ++ ⟨#[10]⟩ ++ gb)).data.toList = P.data.toList ++ ((s.extract a s.size).data.toList ++ 10 :: gap) := by
            rw [app_data, app_data, app_data, HgD.out]
            simp [List.append_assoc]
          rw [← h2] at h1
          exact h1
        exact ⟨⟨k + 1, _, xs ++ [P.size], ap6, cp6, hlt, rfl, rfl, rfl, hown6, hb6, HLn⟩, by simpa [intOf] using Nat.sub_lt_sub_left hlt (Nat.lt_succ_self k)⟩
    · have hkk : k = ts.length := by omega
      subst hkk
      obtain ⟨hT, hM⟩ := HL.out.end
      by_cases h65 : 65536 < P.size
      · have h65' : decide (65536 < (P.size : Int)) = true := by simp; omega
        clear hs hl hd hPs
        go_wp2
        go_ret
        exact ⟨rfl, bwr⟩
      · have h65' : decide (65536 < (P.size : Int)) = false := by simp; omega
        have cT := scan_any P (by unfold maxLen; omega) wr hGr
        rw [hT, scan_spaced hgg.out (by rw [hll.out]; omega) hfew hr.out (by rw [← hT, ← size_list]; omega)] at cT
        have hml := moved_length s.data.toList gap.length ts gap.length
        have hmg : ∀ i (h : i < ts.length) (h' : i < (moved s.data.toList gap.length gap.length ts).length), _ := fun i h h' => moved_get s.data.toList gap.length ts gap.length i h h'
        generalize moved s.data.toList gap.length gap.length ts = ms at *
        have HT := Lib.hid cT
        have HG := Lib.hid hmg
        have HM := Lib.hid hM
        have HPs := Lib.hid hPs
        have HF := Lib.hid hfew
        clear cT hmg hM hT hs hl hd hPs hfew h65
        go_wp2_with fail
        refine HT.out.mono ?_
        rintro e w3 ⟨v, rfl, hown, b3⟩
        dsimp only at hown
        rw [hml] at hown
        obtain ⟨ao3, cv3, hv⟩ := owns_form hown
        subst hv
        have hb3 : Below w2.heap.size w2 w3 := hbr.trans (b3.mono hbr.size)
        have bw3 : Below w.heap.size w w3 := bwr.trans (b3.mono bwr.size)
        go_wp2_with fail
        go_loopw [19] (fun i wz => ∃ j q : Nat, j ≤ ts.length ∧ i = .int .i64 j ∧ wz = w3.drewN q) (fun i _ => ts.length - (intOf i).toNat)
        case atStart => exact ⟨0, 0, Nat.zero_le _, rfl, rfl⟩
        case round =>
          obtain ⟨j, q, hj, rfl, rfl⟩ := hrel
          by_cases hlt2 : j < ts.length
          · obtain ⟨g, cap, hv, _, hg⟩ := hown2.form (by omega)
            injection hv with hv1 hv2 hv3
            subst hv1; subst hv3
            obtain ⟨g3, cap3, hv, _, hg3⟩ := hown.form (by omega)
            injection hv with hv1 hv2 hv3
            subst hv1; subst hv3
            obtain ⟨gp, capp, hv, _, hgp⟩ := hownP.form (by omega)
            injection hv with hv1 hv2 hv3
            subst hv1; subst hv3
            have hlt3 : j < ms.length := by rw [hml]; exact hlt2
            obtain ⟨c0, c1, c2, _⟩ := (tk_at hown2 j hlt2).later hb3 hg
            obtain ⟨d0, d1, d2, d3⟩ := tk_at hown j hlt3
            obtain ⟨m1, m2, m3⟩ := HG.out j hlt2 hlt3
            rw [m1] at d0
            rw [m2] at d1
            rw [m3] at d2
            have hxj : (intCells xs)[j]? = some (.int .i64 ms[j].2.2.2) := by
              rw [HM.out]
              simp [intCells, hlt3]
            have cx := hownP.cells (g := gp) rfl _ _ hxj
            rw [addr_add] at cx
            have cx3 := (b3.cell (p := ⟨gp, j, none⟩) hgp).trans cx
            clear cx hxj m1 m2 m3
            generalize ts[j].1 = kd at *
            generalize ts[j].2.2.1 = nu at *
            generalize ts[j].2.1 = tx at *
            generalize ms[j].2.2.2 = pl at *
            generalize (⟨tx.toArray⟩ : ByteArray) = txb at *
            have r1 : (kd != kd) = false := by simp
            have r2 : (nu != nu) = false := by simp
            have r3 : ((pl : Int) != (pl : Int)) = false := by simp
            have q0 : (j : Int) < (ts.length : Int) := by omega
            have q64 : (j : Int) + 1 ≤ 9223372036854775807 := by have := HF.out; omega
            go_wp2_with fail
            go_quiet (fail)
            go_wp2
            rw [show ((j : Int) + 1) = ((j + 1 : Nat) : Int) from rfl]
            exact ⟨⟨j + 1, q + nq, hlt2, rfl, rfl⟩, by simpa [intOf] using Nat.sub_lt_sub_left hlt2 (Nat.lt_succ_self j)⟩
          · have : j = ts.length := by omega
            subst this
            go_wp2
            go_ret
            exact ⟨rfl, below_drewN bw3 _⟩

theorem spaced_any (s : ByteArray) (hs : s.size ≤ maxLen) (n : Int) (hn : 0 ≤ n ∧ n ≤ 255) (w : World) (hG : Gl w) : Calls Tryd.prog 6 #[.string s, .int .u8 n] w fun e w' => e = .returned (.bool true) ∧ Below w.heap.size w w' := by
  have hp := scanRes_placed s.data.toList
  generalize hr : scanRes s.data.toList = r at hp
  obtain ⟨ts, m, er⟩ := r
  rcases hp.ends with ⟨h1, h2⟩ | ⟨h1, _, h2⟩ | ⟨h1, _, h2⟩
  · dsimp only at h1 h2
    subst h1; subst h2
    by_cases hl : 10000 < s.size
    · exact spaced_long s hs n w hG ts 0 hr hl
    · exact spaced_main s hs n hn w hG ts hr (by omega)
  · dsimp only at h1 h2
    subst h1
    exact spaced_fault s hs n w hG m er (by omega) hr
  · dsimp only at h1 h2
    subst h1
    exact spaced_fault s hs n w hG m er (by omega) hr

end Go.Proofs.YthggaojpkfdggaaDoor
