/- The heap as the laws use it; awake; GcNil. -/
import Derived.Test.YtimpmgbahgganaaHpNx
namespace Go.Proofs.Ytimpmgbahgganaa
open Go.RowKit Go.Maps

/-- A heap of one's own at block H, made since w0. -/
structure Hp (w0 w : World) (H : Nat) (h : Hs) (k : Nat) : Prop where
  ex : ∃ Y, Y.H = H ∧ Y.X.B = w0.heap.size ∧ HLies Y w h k
  inv : HInv h
  bel : Below w0.heap.size w0 w
abbrev hptr (H : Nat) : Value := .pointer (some ⟨H, 0, none⟩)
section
variable {w0 w : World} {H : Nat} {h : Hs} {k : Nat}
theorem Hp.under {w' : World} (P : Hp w0 w H h k) (hb : Below w.heap.size w w') : Hp w0 w' H h k := by
  obtain ⟨Y, e1, e2, L⟩ := P.ex
  exact ⟨⟨Y, e1, e2, L.below hb⟩, P.inv, P.bel.trans (hb.mono P.bel.size)⟩
theorem Hp.step {w' : World} {h' : Hs} {k' : Nat} {Y Y' : Hh} (P : Hp w0 w H h k) (e1 : Y.H = H) (e2 : Y.X.B = w0.heap.size) (L : HLies Y w h k) (L' : HLies Y' w' h' k') (S : HStep Y Y' w w') (I : HInv h') : Hp w0 w' H h' k' :=
  ⟨⟨Y', S.H.trans e1, S.B.trans e2, L'⟩, I, S.below L (by omega) P.bel⟩
theorem hp_new {v : Value} {fs : List (List Int)} {n : Nat} (hn : n ≤ 65536) (R : LaysAt w v fs) (hs : soundL fs = true) : Calls Try.prog 7 #[v, .int .i64 n] w fun e w' => ∃ H, e = .returned (.tuple #[hptr H, .int .i64 0]) ∧ Hid (Hp w w' H (newH fs n) 0) := by
  refine (gnew_ok hn R hs).mono ?_
  rintro e w' ⟨Y, he, hr⟩
  exact ⟨Y.H, he, ⟨⟨Y, rfl, hr.out.2.1, hr.out.1⟩, newH_inv hn hs, hr.out.2.2⟩⟩
theorem hp_make (P : Hp w0 w H h k) {m n x : Nat} {f : List Bool} {s' : As} (hf : h.ty[m]? = some f) (hn : n ≤ 1024) (hk : k < 900000000) (hw : owords f n ≤ 65536) (ha : allocS h.s (owords f n) = some (x, s')) :
    Calls Try.prog 11 #[hptr H, .int .i64 m, .int .i64 n] w fun e w' => e = two (x, 0) ∧ Hid (Hp w0 w' H (makeH h m n x s') (k + 2)) := by
  obtain ⟨Y, e1, e2, L⟩ := P.ex
  have hm := make_ok L P.inv hf hn hk hw ha
  rw [show Y.p = hptr H by unfold Hh.p; rw [e1]] at hm
  refine hm.mono ?_
  rintro e w' ⟨he, Y', L', S⟩
  exact ⟨he, P.step e1 e2 L L' S (P.inv.make hf hn hw ha)⟩
theorem hp_set (P : Hp w0 w H h k) {x v : Int} {h' : Hs} {c : Int} (hx : x ≤ 9223372036854775807) (hv : v ≤ 9223372036854775807) (hs : setHP h x v = (c, h')) (I' : HInv h') :
    Calls Try.prog 15 #[hptr H, .int .i64 x, .int .i64 v] w fun e w' => e = .returned (.int .i64 c) ∧ Hid (Hp w0 w' H h' k) := by
  obtain ⟨Y, e1, e2, L⟩ := P.ex
  have hm := hset_any L P.inv hx hv
  rw [show Y.p = hptr H by unfold Hh.p; rw [e1], hs] at hm
  refine hm.mono ?_
  rintro e w' ⟨he, L', S⟩
  exact ⟨he, P.step e1 e2 L L' S I'⟩
theorem hp_collect (P : Hp w0 w H h k) {v : Value} {rs : List Int} (R : IntsAt w v rs) (hl : rs.length ≤ 2000000) (hk : k ≤ 900000000) (hn : ∀ x ∈ rs, namesB h x = true) :
    Calls Try.prog 19 #[hptr H, v] w fun e w' => ∃ F, (∀ a, F a = true ↔ Reach h rs a) ∧ e = two ((gone h F).length, 0) ∧ Hid (Hp w0 w' H (freeAll h (gone h F)) (k + 65536)) := by
  obtain ⟨Y, e1, e2, L⟩ := P.ex
  have hm := collect_any L P.inv R hl hk
  rw [show Y.p = hptr H by unfold Hh.p; rw [e1]] at hm
  refine hm.mono ?_
  rintro e w' ⟨y, c, he, hc⟩
  rcases hc.out with ⟨⟨x, hx, hb⟩, _⟩ | ⟨_, rfl, F, Y', hF, rfl, L', S⟩
  · rw [hn x hx] at hb; cases hb
  · exact ⟨F, hF, he, P.step e1 e2 L L' S (gone_inv P.inv F).1⟩
theorem hp_base_none (P : Hp w0 w H h k) {x : Int} (hx : x ≤ 9223372036854775807) (hb : baseA h x = none) : Calls Try.prog 17 #[hptr H, .int .i64 x] w fun e w' => e = four 0 0 0 6 ∧ Below w.heap.size w w' := by
  obtain ⟨Y, e1, e2, L⟩ := P.ex
  have hm := base_none L P.inv hx hb
  rw [show Y.p = hptr H by unfold Hh.p; rw [e1]] at hm
  exact hm
theorem reach_nil {a : Nat} (hr : Reach h [] a) : False := by
  induction hr with
  | root hx _ => simp at hx
  | step _ _ _ _ _ ih => exact ih
theorem ints_nil (w : World) : IntsAt w (.slice none 0 0) [] := ⟨none, 0, rfl, fun j x hx => by simp at hx⟩
end
/-- A list that lies in a block of its own. -/
theorem ints_block {w : World} {b : Nat} {l : List Int} (hb : w.heap[b]? = some (.cells (ints l).toArray 3 (0, 0))) (hl : ∀ x ∈ l, x ≤ 9223372036854775807) (cap : Nat) : IntsAt w (.slice (some ⟨b, 0, none⟩) l.length cap) l := by
  refine ⟨some ⟨b, 0, none⟩, cap, rfl, fun j x hx => ⟨hl x (List.mem_of_getElem? hx), b, 0, rfl, lt_of_block hb, ?_⟩⟩
  rw [Nat.zero_add]
  simp [World.cell?, hb, ints, hx]
theorem cls6 : clsN 6 = 6 := by decide +kernel
def ak1 : As := markS (pushS (newS 20) 6) 1 6
theorem ak_alloc : allocS (newS 20) 6 = some (1, ak1) := by
  unfold allocS
  rw [cls6]
  rfl
def akH : Hs := makeH (newH [[0, 2]] 20) 0 3 1 ak1
theorem ak_live : liveL akH.s.ps = [1] := by kernel_rfl
theorem ak_gone {F : Nat → Bool} (hF : ∀ a, F a = true ↔ Reach akH [] a) : gone akH F = [1] := by
  unfold gone
  rw [ak_live]
  have : F 1 = false := by
    cases hf : F 1 with
    | false => rfl
    | true => exact (reach_nil ((hF 1).1 hf)).elim
  simp [this]
set_option maxHeartbeats 1000000 in
theorem awake_any (w : World) : Calls Try.prog 9 #[] w fun e w' => e = .returned (.bool true) ∧ Below w.heap.size w w' := by
  obtain ⟨W1, hW1⟩ : ∃ W1, (w.alloc (.cells #[.int .i64 0, .int .i64 2] 3)).alloc (.cells #[.slice (some ⟨w.heap.size, 0, none⟩) 2 2] 62) = W1 := ⟨_, rfl⟩
  have hB1 : Below w.heap.size w W1 := by rw [← hW1]; exact ((Below.refl _ w).alloc (Nat.le_refl _) _).alloc (by simp) _
  have hR : LaysAt W1 (.slice (some ⟨w.heap.size + 1, 0, none⟩) 1 1) [[0, 2]] := by
    have h1 : W1.heap[w.heap.size]? = some (.cells (ints [0, 2]).toArray 3 (0, 0)) := by rw [← hW1, Below.heap_alloc _ _ _ (by simp), heap_new _ _ rfl]; rfl
    have h2 : W1.heap[w.heap.size + 1]? = some (.cells #[.slice (some ⟨w.heap.size, 0, none⟩) 2 2] 62 (0, 0)) := by rw [← hW1, heap_new _ _ (by simp)]
    refine ⟨_, _, rfl, fun j f hf => ?_⟩
    cases j with
    | zero =>
      simp at hf; subst hf
      exact ⟨w.heap.size + 1, 0, _, rfl, lt_of_block h2, by simp [World.cell?, h2], ints_block h1 (by intro x hx; simp at hx; omega) 2⟩
    | succ j => simp at hf
  have hnew := hp_new (n := 20) (by decide) hR (by decide)
  have HB := hide hB1
  clear hB1 hR
  rw [show ((20 : Nat) : Int) = 20 from rfl] at hnew
  subst hW1
  go_enter Try.func9, Try.ntmps9
  go_wp2_with fail
  refine hnew.mono ?_
  rintro e w1 ⟨H, rfl, P1⟩
  clear hnew
  have hmk := hp_make P1.out (m := 0) (n := 3) (x := 1) (f := [false, true]) (s' := ak1) rfl (by decide) (by decide) (by decide) ak_alloc
  clear P1
  go_wp2_with fail
  refine hmk.mono ?_
  rintro e w2 ⟨rfl, P2⟩
  clear hmk
  have hco := hp_collect P2.out (ints_nil w2) (by simp) (by omega) (by simp)
  clear P2
  go_wp2_with fail
  refine hco.mono ?_
  rintro e w3 ⟨F, hF, rfl, P3⟩
  clear hco
  rw [show (gone (makeH (newH [[0, 2]] 20) 0 3 1 ak1) F).length = 1 from congrArg List.length (ak_gone hF)]
  have HP := hide P3.out.bel
  clear P3 hF
  go_wp2
  go_ret
  exact ⟨rfl, HB.out.trans (HP.out.mono HB.out.size)⟩
set_option maxHeartbeats 1000000 in
/-- GcNil. -/
theorem nil_law (x n : Int) (v : Value) (w : World) : Calls Try.prog 6 #[.int .i64 x, .int .i64 n, v] w fun e w' => e = .returned (.bool true) ∧ Below w.heap.size w w' := by
  go_enter Try.func6, Try.ntmps6
  go_wp2_with fail
  refine (make_nil x n w).mono ?_
  rintro e w1 ⟨rfl, rfl⟩
  go_wp2_with fail
  refine (hget_nil x w1).mono ?_
  rintro e w2 ⟨rfl, rfl⟩
  go_wp2_with fail
  refine (base_nil x w2).mono ?_
  rintro e w3 ⟨rfl, rfl⟩
  go_wp2_with fail
  refine (collect_nil v w3).mono ?_
  rintro e w4 ⟨rfl, rfl⟩
  go_wp2_with fail
  refine (awake_any w4).mono ?_
  rintro e w5 ⟨rfl, hb⟩
  go_wp2_with fail
  refine (hset_nil x n w5).mono ?_
  rintro e w6 ⟨rfl, rfl⟩
  go_wp2_with fail
  refine (hlive_nil w6).mono ?_
  rintro e w7 ⟨rfl, rfl⟩
  go_wp2
  go_ret
  exact ⟨rfl, hb⟩
end Go.Proofs.Ytimpmgbahgganaa
