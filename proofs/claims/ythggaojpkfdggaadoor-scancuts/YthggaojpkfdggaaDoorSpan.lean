/- newReader; a class asked at a place, and where its longest run ends. -/
import Derived.Test.YthggaojpkfdggaaDoorAlpha
namespace Go.Proofs.YthggaojpkfdggaaDoor
open Go.RowKit

/-- Is the byte at place k one of p? (Beyond the end: no.) -/
def atP (p : UInt8 → Bool) (l : List UInt8) (k : Nat) : Bool := match l[k]? with
  | some b => p b
  | none => false

/-- Where the longest run of p from place k on ends. -/
def endOf (p : UInt8 → Bool) (l : List UInt8) (k : Nat) : Nat := k + ((l.drop k).takeWhile p).length

theorem endOf_no {p : UInt8 → Bool} {l : List UInt8} {k : Nat} (h : atP p l k = false) : endOf p l k = k := by
  unfold endOf
  unfold atP at h
  cases hk : l[k]? with
  | none => rw [List.drop_eq_nil_of_le (by simpa using hk)]; simp
  | some b =>
    rw [hk] at h
    obtain ⟨hl, rfl⟩ := List.getElem?_eq_some_iff.1 hk
    rw [List.drop_eq_getElem_cons hl, List.takeWhile_cons_of_neg (by simpa using h)]; simp

theorem endOf_yes {p : UInt8 → Bool} {l : List UInt8} {k : Nat} (h : atP p l k = true) : k < l.length ∧ endOf p l (k + 1) = endOf p l k := by
  unfold atP at h
  cases hk : l[k]? with
  | none => rw [hk] at h; cases h
  | some b =>
    rw [hk] at h
    obtain ⟨hl, rfl⟩ := List.getElem?_eq_some_iff.1 hk
    refine ⟨hl, ?_⟩
    unfold endOf
    rw [List.drop_eq_getElem_cons hl, List.takeWhile_cons_of_pos (by simpa using h)]
    simp; omega

theorem endOf_ge (p : UInt8 → Bool) (l : List UInt8) (k : Nat) : k ≤ endOf p l k := Nat.le_add_right _ _
theorem endOf_le (p : UInt8 → Bool) (l : List UInt8) (k : Nat) (h : k ≤ l.length) : endOf p l k ≤ l.length := by
  unfold endOf
  have := (List.takeWhile_sublist p (l := l.drop k)).length_le
  simp at this; omega

theorem atP_lt {p : UInt8 → Bool} {s : ByteArray} {k : Nat} (h : k < s.size) : atP p s.data.toList k = p s[k] := by
  unfold atP
  rw [List.getElem?_eq_getElem (by simpa using h)]
  rfl
theorem atP_ge {p : UInt8 → Bool} {s : ByteArray} {k : Nat} (h : ¬ k < s.size) : atP p s.data.toList k = false := by
  unfold atP
  rw [List.getElem?_eq_none (by simpa using h)]

set_option maxHeartbeats 400000 in
theorem at_any (g : Nat) (lb : Array Value) (p : UInt8 → Bool) (B : Nat) (w0 w : World) (he : Enters Tryd.prog g) (hk : KlsAt g lb p B w0) (hw : Same B w0 w) (s : ByteArray) (_hs : s.size ≤ maxLen) (k : Nat) (_hkm : k ≤ s.size) :
    Calls Tryd.prog 41 #[.func (.func g) #[] lb, .string s, .int .i64 k] w fun e w' => e = .returned (.bool (atP p s.data.toList k)) ∧ ∃ q, w' = w.drewN q := by
  unfold maxLen at _hs
  have eg : ∀ args w, (callFunc g args).run Tryd.prog w = .ok (.enter g args) w := he
  by_cases hlt : k < s.size
  · have cS : Calls Tryd.prog g (#[.int .u8 (s[k]).toNat] ++ lb) w _ := hk w s[k] hw
    rw [atP_lt hlt]
    clear hk hw he
    go_enter Tryd.func41, Tryd.ntmps41
    go_wp2_with (go_at_fn g; refine cS.mono ?_; rintro e w' ⟨rfl, q, rfl⟩)
    go_ret
    exact ⟨rfl, q, rfl⟩
  · rw [atP_ge hlt]
    clear hk hw he
    go_enter Tryd.func41, Tryd.ntmps41
    go_wp2
    go_ret
    exact ⟨rfl, 0, rfl⟩

set_option maxHeartbeats 1000000 in
theorem end_any (g : Nat) (lb : Array Value) (p : UInt8 → Bool) (B : Nat) (w0 w : World) (he : Enters Tryd.prog g) (hk : KlsAt g lb p B w0) (hw : Same B w0 w) (s : ByteArray) (hs : s.size ≤ maxLen) (k : Nat) (hkm : k ≤ s.size) :
    Calls Tryd.prog 28 #[.func (.func g) #[] lb, .string s, .int .i64 k] w fun e w' => e = .returned (.int .i64 (endOf p s.data.toList k)) ∧ ∃ q, w' = w.drewN q := by
  have hs' := hs
  unfold maxLen at hs'
  go_enter Tryd.func28, Tryd.ntmps28
  go_wp2
  go_loopw [2] (fun i wr => ∃ j q : Nat, j ≤ s.size ∧ i = .int .i64 j ∧ wr = w.drewN q ∧ Hid (endOf p s.data.toList j = endOf p s.data.toList k)) (fun i _ => s.size - (intOf i).toNat)
  case atStart => exact ⟨k, 0, hkm, rfl, rfl, rfl⟩
  case round =>
    obtain ⟨j, q, hj, rfl, rfl, HE⟩ := hrel
    have cA := at_any g lb p B w0 (w.drewN q) he hk (hw.drewN q) s hs j hj
    cases hat : atP p s.data.toList j <;> rw [hat] at cA
    · have HA : Hid (atP p s.data.toList j = false) := hat
      clear hat
      go_wp2_with (go_at_call 41; refine cA.mono ?_; rintro e w' ⟨rfl, q2, rfl⟩)
      go_ret
      exact ⟨by rw [← HE.out, endOf_no HA.out]; rfl, _, rfl⟩
    · have HA : Hid (j < s.data.toList.length ∧ endOf p s.data.toList (j + 1) = endOf p s.data.toList j) := endOf_yes hat
      have hjl : j < s.size := by simpa using HA.out.1
      clear hat
      go_wp2_with (go_at_call 41; refine cA.mono ?_; rintro e w' ⟨rfl, q2, rfl⟩)
      go_roundw
      case rel => exact ⟨j + 1, _, hjl, by go_num, rfl, HA.out.2.trans HE.out⟩
      case measure => simp [intOf]; omega

theorem put9 (b : Nat) (w : World) (v0 v1 v2 v3 v4 v5 v6 v7 v8 : Value) (W : World) {u0 u1 u2 u3 u4 u5 u6 u7 u8 : Value}
    (c0 : w.cell? ⟨b, 0, none⟩ = some u0) (c1 : w.cell? ⟨b, 1, none⟩ = some u1) (c2 : w.cell? ⟨b, 2, none⟩ = some u2) (c3 : w.cell? ⟨b, 3, none⟩ = some u3) (c4 : w.cell? ⟨b, 4, none⟩ = some u4) (c5 : w.cell? ⟨b, 5, none⟩ = some u5) (c6 : w.cell? ⟨b, 6, none⟩ = some u6) (c7 : w.cell? ⟨b, 7, none⟩ = some u7) (c8 : w.cell? ⟨b, 8, none⟩ = some u8)
    (hW : (((((((((w.setCell ⟨b, 0, none⟩ v0).setCell ⟨b, 1, none⟩ v1).setCell ⟨b, 2, none⟩ v2).setCell ⟨b, 3, none⟩ v3).setCell ⟨b, 4, none⟩ v4).setCell ⟨b, 5, none⟩ v5).setCell ⟨b, 6, none⟩ v6).setCell ⟨b, 7, none⟩ v7).setCell ⟨b, 8, none⟩ v8) = W) :
    Same (b + 1) w W ∧ (∀ B a, B ≤ b → Below B a w → Below B a W) ∧
    (W.cell? ⟨b, 0, none⟩ = some v0 ∧ W.cell? ⟨b, 1, none⟩ = some v1 ∧ W.cell? ⟨b, 2, none⟩ = some v2 ∧ W.cell? ⟨b, 3, none⟩ = some v3 ∧ W.cell? ⟨b, 4, none⟩ = some v4 ∧ W.cell? ⟨b, 5, none⟩ = some v5 ∧ W.cell? ⟨b, 6, none⟩ = some v6 ∧ W.cell? ⟨b, 7, none⟩ = some v7 ∧ W.cell? ⟨b, 8, none⟩ = some v8) := by
  subst hW
  refine ⟨?_, ?_, ?_⟩
  · have key : ∀ (a : World) (j : Nat) (v : Value), Same (b + 1) w a → Same (b + 1) w (a.setCell ⟨b, j, none⟩ v) := fun a j v h => h.setCell (p := ⟨b, j, none⟩) (Nat.lt_succ_self b) v
    exact key _ _ _ (key _ _ _ (key _ _ _ (key _ _ _ (key _ _ _ (key _ _ _ (key _ _ _ (key _ _ _ (key _ _ _ (Same.refl _ w)))))))))
  · intro B a hB hw
    have key : ∀ (x : World) (j : Nat) (v : Value), Below B a x → Below B a (x.setCell ⟨b, j, none⟩ v) := fun x j v h => h.setCell (p := ⟨b, j, none⟩) hB v
    exact key _ _ _ (key _ _ _ (key _ _ _ (key _ _ _ (key _ _ _ (key _ _ _ (key _ _ _ (key _ _ _ (key _ _ _ hw))))))))
  · refine ⟨?_, ?_, ?_, ?_, ?_, ?_, ?_, ?_, ?_⟩ <;> simp [go_sem, c0, c1, c2, c3, c4, c5, c6, c7, c8]

set_option maxHeartbeats 1000000 in
theorem newReader_any (s : ByteArray) (w : World) : Calls Tryd.prog 17 #[.string s] w fun e w' => ∃ a : AB, e = .returned (a.rd s) ∧ Alpha a w.heap.size w' ∧ Below w.heap.size w w' := by
  go_enter Tryd.func17, Tryd.ntmps17
  go_wp2_with fail
  refine (newAlphabet_any _).mono ?_
  rintro e w1 ⟨a, rfl, hA, b1⟩
  have cc : ∀ j, w1.cell? ⟨w.heap.size, j, none⟩ = (w.alloc (Obj.cells #[Value.nilFunc, Value.nilFunc, Value.nilFunc, Value.nilFunc, Value.nilFunc, Value.nilFunc, Value.nilFunc, Value.nilFunc, Value.string { data := #[] }] 42)).cell? ⟨w.heap.size, j, none⟩ := fun j => b1.cell (p := ⟨w.heap.size, j, none⟩) (by simp)
  have cf : ∀ j, w1.frozen? ⟨w.heap.size, j, none⟩ = false := fun j => (b1.frozen (p := ⟨w.heap.size, j, none⟩) (by simp)).trans (by simp)
  have c0 := (cc 0).trans (by simp : _ = some Value.nilFunc)
  have c1 := (cc 1).trans (by simp : _ = some Value.nilFunc)
  have c2 := (cc 2).trans (by simp : _ = some Value.nilFunc)
  have c3 := (cc 3).trans (by simp : _ = some Value.nilFunc)
  have c4 := (cc 4).trans (by simp : _ = some Value.nilFunc)
  have c5 := (cc 5).trans (by simp : _ = some Value.nilFunc)
  have c6 := (cc 6).trans (by simp : _ = some Value.nilFunc)
  have c7 := (cc 7).trans (by simp : _ = some Value.nilFunc)
  have c8 := (cc 8).trans (by simp : _ = some (Value.string { data := #[] }))
  clear cc
  go_wp2
  generalize hWf : (((((((((w1.setCell ⟨w.heap.size, 0, none⟩ (.func (.func a.g0) #[] a.l0)).setCell ⟨w.heap.size, 1, none⟩ (.func (.func a.g1) #[] a.l1)).setCell ⟨w.heap.size, 2, none⟩ (.func (.func a.g2) #[] a.l2)).setCell ⟨w.heap.size, 3, none⟩ (.func (.func a.g3) #[] a.l3)).setCell ⟨w.heap.size, 4, none⟩ (.func (.func a.g4) #[] a.l4)).setCell
      ⟨w.heap.size, 5, none⟩ (.func (.func a.g5) #[] a.l5)).setCell ⟨w.heap.size, 6, none⟩ (.func (.func a.g6) #[] a.l6)).setCell ⟨w.heap.size, 7, none⟩ (.func (.func a.g7) #[] a.l7)).setCell ⟨w.heap.size, 8, none⟩ (.string s)) = Wf
  obtain ⟨hs, hw, hc⟩ := put9 w.heap.size w1 _ _ _ _ _ _ _ _ _ Wf c0 c1 c2 c3 c4 c5 c6 c7 c8 hWf
  clear hWf
  obtain ⟨d0, d1, d2, d3, d4, d5, d6, d7, d8⟩ := hc
  have hw2 : Below w.heap.size w Wf := hw _ _ (Nat.le_refl _) (((Below.refl _ _).alloc (Nat.le_refl _) _).trans (b1.mono (by simp)))
  have hA2 : Alpha a (w.heap.size + 1) w1 := by simpa using hA
  refine bodyPost_ret (v := a.rd s) (by simp [results, Tryd.results17, go_sem, d0, d1, d2, d3, d4, d5, d6, d7, d8]) rfl ⟨a, rfl, (hA2.later hs).wide (Nat.le_succ _), hw2⟩

end Go.Proofs.YthggaojpkfdggaaDoor
