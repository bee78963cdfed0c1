/- Of of awake's node; awake. -/
import Derived.Test.YtbejkphekfbfnaaGreatTZb
namespace Go.Proofs.YtbejkphekfbfnaaGreat
open Go.RowKit
attribute [local go_sem ↓] Go.wp_at_zero Go.wp_at_succ

theorem txt_mk {k : Int} {s : List UInt8} {m : Int} {ks : List Tr} (h : s.length ≤ maxLen) (hk : ∀ t ∈ ks, ∀ n, txtT n t) : ∀ n, txtT n (.mk k s m ks)
  | 0 => trivial
  | n + 1 => ⟨h, fun t ht => hk t ht n⟩
def IN : Tr := .mk 10 [105, 110, 116] 0 []
def PN : Tr := .mk 11 [] 0 [IN]
theorem txt_PN : ∀ n, txtT n (aroS PN) :=
  txt_mk (by simp [maxLen]) fun t ht => by
    simp only [List.mem_singleton] at ht; subst ht
    exact txt_mk (by simp [maxLen]) fun t ht => by
      simp only [List.mem_singleton] at ht; subst ht
      exact txt_mk (by simp [maxLen]) fun t ht => by
        simp only [List.mem_singleton] at ht; subst ht
        exact txt_mk (by simp [maxLen]) fun t ht => by
          simp only [List.mem_singleton] at ht; subst ht
          exact txt_mk (by simp [maxLen]) fun t ht => by cases ht
theorem sound_PN : soundT (aroS PN) = true := by decide +kernel
set_option maxRecDepth 20000 in
set_option maxHeartbeats 2000000 in
theorem ofPtr (g : Nat) (w : World) (h : w.heap[g]? = some (.cells #[.int .i64 10, .string ⟨([105, 110, 116] : List UInt8).toArray⟩, .int .i64 0, .slice none 0 0] 24 (0, 0))) : Calls Tryz.prog 9 #[.agg #[.int .i64 11, .string ⟨#[]⟩, .int .i64 0, .slice (some ⟨g, 0, none⟩) 1 1]] w fun e w' => ∃ m, e = .returned (.tuple #[.agg #[.int .i64 5, .string ⟨#[]⟩, .int .i64 0, .slice (some ⟨m, 0, none⟩) 1 1], .int .i64 0]) ∧ Below w.heap.size w w' ∧ PI w' m := by
  have hgl := lt_of_block h
  obtain ⟨W0, hW0⟩ : ∃ W, (w.alloc (.cells #[.int .i64 11, .string ⟨#[]⟩, .int .i64 0, .slice (some ⟨g, 0, none⟩) 1 1] 24)).alloc (.cells #[.int .i64 0, .string ⟨#[]⟩, .int .i64 0, .slice none 0 0] 27) = W := ⟨_, rfl⟩
  have hB : Below w.heap.size w W0 := hW0 ▸ ((Below.refl _ _).alloc (Nat.le_refl _) _).alloc (by simp) _
  have hX : W0.heap[w.heap.size + 1]? = some (.cells #[.int .i64 0, .string ⟨#[]⟩, .int .i64 0, .slice none 0 0] 27 (0, 0)) := by
    have := heap_alloc_new (w.alloc (.cells #[.int .i64 11, .string ⟨#[]⟩, .int .i64 0, .slice (some ⟨g, 0, none⟩) 1 1] 24)) (.cells #[.int .i64 0, .string ⟨#[]⟩, .int .i64 0, .slice none 0 0] 27)
    rw [World.size_alloc] at this; rw [← hW0]; exact this
  have hN : W0.heap[w.heap.size]? = some (.cells #[.int .i64 11, .string ⟨#[]⟩, .int .i64 0, .slice (some ⟨g, 0, none⟩) 1 1] 24 (0, 0)) := by
    rw [← hW0, Below.heap_alloc _ _ _ (by simp)]; exact heap_alloc_new w _
  have hz : W0.heap.size = w.heap.size + 2 := by rw [← hW0]; simp
  have h0 : W0.heap[g]? = some (.cells #[.int .i64 10, .string ⟨([105, 110, 116] : List UInt8).toArray⟩, .int .i64 0, .slice none 0 0] 24 (0, 0)) := (hB.block g hgl).trans h
  have cA := aroundS_any PN (.slice (some ⟨g, 0, none⟩) 1 1) W0 rfl (kt_one 11 [] 0 (a := IN) (sl := .slice none 0 0) h0 (by omega) (Nat.le_refl _) (kt_nil 10 _ 0))
  simp only [tv, PN, Tr.kind, Tr.text, Tr.num] at cA
  have HB := Lib.hid hB
  have HX := Lib.hid hX
  have HN := Lib.hid hN
  have HZ := Lib.hid hz
  have H0 := Lib.hid h0
  clear hB hX hN hz h0 h
  subst hW0
  go_enter Tryz.func9, Tryz.ntmps9
  go_wp2_with fail
  refine cA.mono ?_
  rintro e w1 ⟨hb1, sl', he, hk1⟩
  have he' : e = .returned (.agg #[.int .i64 1, .string ⟨#[]⟩, .int .i64 0, sl']) := he
  clear he
  subst he'
  have HB1 : Hid (Below w.heap.size w w1) := HB.out.trans (hb1.mono HB.out.size)
  have HX1 : Hid (w1.heap[w.heap.size + 1]? = some (.cells #[.int .i64 0, .string ⟨#[]⟩, .int .i64 0, .slice none 0 0] 27 (0, 0))) := (hb1.block _ (by rw [HZ.out]; omega)).trans HX.out
  have HN1 : Hid (w1.heap[w.heap.size]? = some (.cells #[.int .i64 11, .string ⟨#[]⟩, .int .i64 0, .slice (some ⟨g, 0, none⟩) 1 1] 24 (0, 0))) := (hb1.block _ (by rw [HZ.out]; omega)).trans HN.out
  have H01 : Hid (w1.heap[g]? = some (.cells #[.int .i64 10, .string ⟨([105, 110, 116] : List UInt8).toArray⟩, .int .i64 0, .slice none 0 0] 24 (0, 0))) := (hb1.block _ (by rw [HZ.out]; omega)).trans H0.out
  obtain ⟨ao, nn, c, rfl⟩ := hk1.slice
  have cS0 := sound_any (aroS PN) (.slice ao nn c) _ w1 trivial (fun _ h => h) txt_PN hk1
  rw [sound_PN] at cS0
  have cS : Calls Tryz.prog 30 #[.agg #[.int .i64 1, .string ⟨#[]⟩, .int .i64 0, .slice ao nn c]] w1 fun e w' => e = .returned (.bool true) ∧ Below w1.heap.size w1 w' := cS0
  clear cA hb1 hk1 HB HX HN H0 HZ cS0
  go_wp2_with fail
  refine cS.mono ?_
  rintro e w2 ⟨rfl, hb2⟩
  have HB2 : Hid (Below w.heap.size w w2) := HB1.out.trans (hb2.mono HB1.out.size)
  have HX2 : Hid (w2.heap[w.heap.size + 1]? = some (.cells #[.int .i64 0, .string ⟨#[]⟩, .int .i64 0, .slice none 0 0] 27 (0, 0))) := (hb2.block _ (lt_of_block HX1.out)).trans HX1.out
  have HN2 : Hid (w2.heap[w.heap.size]? = some (.cells #[.int .i64 11, .string ⟨#[]⟩, .int .i64 0, .slice (some ⟨g, 0, none⟩) 1 1] 24 (0, 0))) := (hb2.block _ (lt_of_block HN1.out)).trans HN1.out
  have H02 : Hid (w2.heap[g]? = some (.cells #[.int .i64 10, .string ⟨([105, 110, 116] : List UInt8).toArray⟩, .int .i64 0, .slice none 0 0] 24 (0, 0))) := (hb2.block _ (lt_of_block H01.out)).trans H01.out
  obtain ⟨n0, n1, n2, n3, _⟩ := cells_of_blk HN2.out
  obtain ⟨i0, i1, i2, i3, _⟩ := cells_of_blk H02.out
  have cT := typePtr g 0 1 w2 i0 i1 i2 i3
  clear cS hb2 HB1 HX1 HN1 H01 i0 i1 i2 i3
  go_wp2_with fail
  refine cT.mono ?_
  rintro e w3 ⟨rfl, hb3, hp3⟩
  have HB3 : Hid (Below w.heap.size w w3) := HB2.out.trans (hb3.mono HB2.out.size)
  have hx3 : w3.heap[w.heap.size + 1]? = some (.cells #[.int .i64 0, .string ⟨#[]⟩, .int .i64 0, .slice none 0 0] 27 (0, 0)) := (hb3.block _ (lt_of_block HX2.out)).trans HX2.out
  have hl3 := lt_of_block HX2.out
  obtain ⟨c0, c1, c2, c3, f0⟩ := cells_of_blk hx3
  have f00 := f0 0
  have f01 := f0 1
  have f02 := f0 2
  have f03 := f0 3
  have hlt := lt_of_block hx3
  have H3 := Lib.hid hx3
  have HP3 := Lib.hid hp3
  clear cT hb3 hp3 f0 hx3 HB2 HX2 HN2 H02 n0 n1 n2 n3
  generalize w2.heap.size + 2 = m2 at *
  go_wp2
  obtain ⟨Wf, hWf, hput, _, e0, e1, e2, e3⟩ := putT4 (n := w.heap.size + 1) (W := w3) ⟨_, _, _, _, H3.out⟩ (.int .i64 5) (.string ⟨#[]⟩) (.int .i64 0) (.slice (some ⟨m2, 0, none⟩) 1 1)
  rw [hWf]
  refine bodyPost_ret (v := .tuple #[.agg #[.int .i64 5, .string ⟨#[]⟩, .int .i64 0, .slice (some ⟨m2, 0, none⟩) 1 1], .int .i64 0]) (by simp [results, Tryz.results9, go_sem, e0, e1, e2, e3]) rfl ⟨m2, rfl, below_put4 HB3.out hput (by omega), ?_⟩
  by_cases hm : m2 = w.heap.size + 1
  · have h1 := HP3.out
    rw [PI, hm, H3.out] at h1
    cases h1
  · exact (hput.block _ hm).trans HP3.out
theorem text_PT : textP PT = [42, 105, 110, 116] := by decide +kernel
set_option maxRecDepth 20000 in
set_option maxHeartbeats 2000000 in
theorem awake_any (w : World) : Calls Tryz.prog 11 #[] w fun e w' => e = .returned (.bool true) ∧ Below w.heap.size w w' := by
  have h0 := heap_alloc_new w (.cells #[.int .i64 10, .string ⟨([105, 110, 116] : List UInt8).toArray⟩, .int .i64 0, .slice none 0 0] 24)
  have hB0 : Below w.heap.size w (w.alloc (.cells #[.int .i64 10, .string ⟨([105, 110, 116] : List UInt8).toArray⟩, .int .i64 0, .slice none 0 0] 24)) := (Below.refl _ _).alloc (Nat.le_refl _) _
  have cO := ofPtr w.heap.size _ h0
  have HB0 := Lib.hid hB0
  clear h0 hB0
  go_enter Tryz.func11, Tryz.ntmps11
  go_wp2_with fail
  refine cO.mono ?_
  rintro e w1 ⟨m, rfl, hb1, hp1⟩
  have HB1 : Hid (Below w.heap.size w w1) := HB0.out.trans (hb1.mono (by simp))
  have HP1 := Lib.hid hp1
  have hX := Hxt.start (w := w1) (c0 := .int .i64 5) (c1 := .string ⟨#[]⟩) (c2 := .int .i64 0) (c3 := .slice (some ⟨m, 0, none⟩) 1 1)
  have c1 := text_any 5 [] 0 [IT] (some ⟨m, 0, none⟩) 1 _ (hp1.later hX.out).ty
  rw [show textP (.mk 5 [] 0 [IT]) = [42, 105, 110, 116] from text_PT, show [IT].length = 1 from rfl] at c1
  clear cO hb1 hp1 HB0
  go_wp2_with fail
  refine c1.mono ?_
  rintro e w2 ⟨rfl, hb2⟩
  have hX2 := hX.next hb2
  obtain ⟨x0, x1, x2, x3⟩ := hX2.cells
  have hT2 := (HP1.out.later hX2.out).ty
  have c2 := psame_any 5 [] 0 [IT] 5 [] 0 [IT] (some ⟨m, 0, none⟩) 1 (some ⟨m, 0, none⟩) 1 w2 hT2 hT2
  rw [show sameP (.mk 5 [] 0 [IT]) (.mk 5 [] 0 [IT]) = true by decide, show [IT].length = 1 from rfl] at c2
  clear c1 hb2 hX hT2
  go_wp2_with fail
  refine c2.mono ?_
  rintro e w3 ⟨rfl, hb3⟩
  have hX3 := hX2.next hb3
  obtain ⟨y0, y1, y2, y3⟩ := hX3.cells
  have c3 := knownNil m w3 (HP1.out.later hX3.out)
  clear c2 hb3 hX2 x0 x1 x2 x3
  go_wp2_with fail
  refine c3.mono ?_
  rintro e w4 ⟨rfl, hb4⟩
  have hX4 := hX3.next hb4
  have c4 := soundNil w4
  clear c3 hb4 hX3 y0 y1 y2 y3
  go_wp2_with fail
  refine c4.mono ?_
  rintro e w5 ⟨rfl, hb5⟩
  have hX5 := hX4.next hb5
  obtain ⟨z0, z1, z2, z3⟩ := hX5.cells
  have c5 := assignNil m w5 (HP1.out.later hX5.out)
  clear c4 hb5 hX4
  go_wp2_with fail
  refine c5.mono ?_
  rintro e w6 ⟨rfl, hb6⟩
  have hX6 := hX5.next hb6
  clear c5 hb6 hX5 z0 z1 z2 z3
  go_wp2
  go_ret
  exact ⟨rfl, HB1.out.trans (hX6.out.mono HB1.out.size)⟩
end Go.Proofs.YtbejkphekfbfnaaGreat
