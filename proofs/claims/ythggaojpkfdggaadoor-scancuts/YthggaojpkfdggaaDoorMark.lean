/- The reader's marks. -/
import Derived.Test.YthggaojpkfdggaaDoorName
namespace Go.Proofs.YthggaojpkfdggaaDoor
open Go.RowKit

set_option maxHeartbeats 1000000 in
theorem mark_s0_end (a : AB) (B : Nat) (w : World) (hA : Alpha a B w) (s : ByteArray) (hs : s.size ≤ 65536) (k : Nat) (hk : k < s.size) (hsg : singleP s[k] = false) (hk2 : ¬ k + 2 ≤ s.size) :
    Calls Tryd.prog 33 #[a.rd s, .int .i64 k] w fun e w' => e = .returned noTok ∧ Below w.heap.size w w' := by
  go_enter Tryd.func33, Tryd.ntmps33
  go_wp2_with fail
  obtain ⟨W, hWq, hA', hb, hz, ⟨_, _, _, _, _, _, _, c7, c8⟩, ⟨t0, t1, t2, t3⟩, tf⟩ := boxRd2 a s B w hA
  rw [hWq]
  clear hWq hA
  have cS : ∀ n, Calls Tryd.prog a.g7 (#[.int .u8 (s[k]).toNat] ++ a.l7) (W.drewN n) _ := fun n => hA'.single (W.drewN n) s[k] ((Same.refl _ _).drewN n)
  rw [hsg] at cS
  have eg : ∀ args w, (callFunc a.g7 args).run Tryd.prog w = .ok (.enter a.g7 args) w := hA'.e7
  go_quiet ((go_at_fn a.g7; exact Calls.quiet_of (cS _)))
  go_wp2
  generalize hWf : (((((W.drewN nq).setCell ⟨w.heap.size + 1, 0, none⟩ (.int .i64 0)).setCell ⟨w.heap.size + 1, 1, none⟩ (.string ⟨#[]⟩)).setCell ⟨w.heap.size + 1, 2, none⟩ (.int .i64 0)).setCell ⟨w.heap.size + 1, 3, none⟩ (.int .i64 0)) = Wf
  obtain ⟨_, hw4, d0, d1, d2, d3⟩ := put4 (w.heap.size + 1) (W.drewN nq) _ _ _ _ Wf t0 t1 t2 t3 hWf
  clear hWf
  exact bodyPost_ret (v := .tuple #[.agg #[.int .i64 0, .string ⟨#[]⟩, .int .i64 0, .int .i64 0], .int .i64 0, .bool false]) (by simp [results, Tryd.results33, go_sem, d0, d1, d2, d3]) rfl ⟨rfl, hw4 _ _ (Nat.le_succ _) (below_drewN hb _)⟩

set_option maxHeartbeats 1000000 in
theorem mark_s0_no (a : AB) (B : Nat) (w : World) (hA : Alpha a B w) (s : ByteArray) (hs : s.size ≤ 65536) (k : Nat) (hk : k < s.size) (hsg : singleP s[k] = false) (hk2 : k + 2 ≤ s.size) (hp : pairP (s.extract k (k + 2)).toList = false) :
    Calls Tryd.prog 33 #[a.rd s, .int .i64 k] w fun e w' => e = .returned noTok ∧ Below w.heap.size w w' := by
  go_enter Tryd.func33, Tryd.ntmps33
  go_wp2_with fail
  obtain ⟨W, hWq, hA', hb, hz, ⟨_, _, _, _, _, _, _, c7, c8⟩, ⟨t0, t1, t2, t3⟩, tf⟩ := boxRd2 a s B w hA
  rw [hWq]
  clear hWq hA
  have cS : ∀ n, Calls Tryd.prog a.g7 (#[.int .u8 (s[k]).toNat] ++ a.l7) (W.drewN n) _ := fun n => hA'.single (W.drewN n) s[k] ((Same.refl _ _).drewN n)
  rw [hsg] at cS
  have eg : ∀ args w, (callFunc a.g7 args).run Tryd.prog w = .ok (.enter a.g7 args) w := hA'.e7
  go_quiet ((go_at_fn a.g7; exact Calls.quiet_of (cS _)))
  go_wp2_with fail
  have cP := isPair_any (s.extract k (k + 2)) (W.drewN nq)
  rw [hp] at cP
  refine cP.mono ?_
  rintro e w' ⟨rfl, rfl⟩
  go_wp2
  generalize hWf : (((((W.drewN nq).setCell ⟨w.heap.size + 1, 0, none⟩ (.int .i64 0)).setCell ⟨w.heap.size + 1, 1, none⟩ (.string ⟨#[]⟩)).setCell ⟨w.heap.size + 1, 2, none⟩ (.int .i64 0)).setCell ⟨w.heap.size + 1, 3, none⟩ (.int .i64 0)) = Wf
  obtain ⟨_, hw4, d0, d1, d2, d3⟩ := put4 (w.heap.size + 1) (W.drewN nq) _ _ _ _ Wf t0 t1 t2 t3 hWf
  clear hWf
  exact bodyPost_ret (v := .tuple #[.agg #[.int .i64 0, .string ⟨#[]⟩, .int .i64 0, .int .i64 0], .int .i64 0, .bool false]) (by simp [results, Tryd.results33, go_sem, d0, d1, d2, d3]) rfl ⟨rfl, hw4 _ _ (Nat.le_succ _) (below_drewN hb _)⟩

set_option maxHeartbeats 1000000 in
theorem mark_s0_yes (a : AB) (B : Nat) (w : World) (hA : Alpha a B w) (s : ByteArray) (hs : s.size ≤ 65536) (k : Nat) (hk : k < s.size) (hsg : singleP s[k] = false) (hk2 : k + 2 ≤ s.size) (hp : pairP (s.extract k (k + 2)).toList = true) :
    Calls Tryd.prog 33 #[a.rd s, .int .i64 k] w fun e w' => e = .returned (.tuple #[tokV 4 (s.extract k (k + 2)) 0 k, .int .i64 (k + 2), .bool true]) ∧ Below w.heap.size w w' := by
  go_enter Tryd.func33, Tryd.ntmps33
  go_wp2_with fail
  obtain ⟨W, hWq, hA', hb, hz, ⟨_, _, _, _, _, _, _, c7, c8⟩, ⟨t0, t1, t2, t3⟩, tf⟩ := boxRd2 a s B w hA
  rw [hWq]
  clear hWq hA
  have cS : ∀ n, Calls Tryd.prog a.g7 (#[.int .u8 (s[k]).toNat] ++ a.l7) (W.drewN n) _ := fun n => hA'.single (W.drewN n) s[k] ((Same.refl _ _).drewN n)
  rw [hsg] at cS
  have eg : ∀ args w, (callFunc a.g7 args).run Tryd.prog w = .ok (.enter a.g7 args) w := hA'.e7
  go_quiet ((go_at_fn a.g7; exact Calls.quiet_of (cS _)))
  go_wp2_with fail
  have cP := isPair_any (s.extract k (k + 2)) (W.drewN nq)
  rw [hp] at cP
  refine cP.mono ?_
  rintro e w' ⟨rfl, rfl⟩
  go_wp2_with fail
  have hx : (s.extract k (k + 2)).size ≤ 281474976710656 := by simp; omega
  refine (clone_any _ _ hx).mono ?_
  rintro e w2 ⟨rfl, hb2⟩
  obtain ⟨_, s0, s1, s2, s3, sf⟩ := later4 hz (W := W) (w' := w2) ⟨hb2.os, hb2.tape, hb2.output, hb2.size, hb2.block⟩ c8 t0 t1 t2 t3 tf
  have hb3 : Below w.heap.size w w2 := hb.trans (Below.mono (B := W.heap.size) ⟨hb2.os, hb2.tape, hb2.output, hb2.size, hb2.block⟩ (by omega))
  clear c8 t0 t1 t2 t3 tf c7 hb2
  go_wp2
  generalize hWf : (((((w2).setCell ⟨w.heap.size + 1, 0, none⟩ (.int .i64 4)).setCell ⟨w.heap.size + 1, 1, none⟩ (.string (s.extract k (k + 2)))).setCell ⟨w.heap.size + 1, 2, none⟩ (.int .i64 0)).setCell ⟨w.heap.size + 1, 3, none⟩ (.int .i64 k)) = Wf
  obtain ⟨_, hw4, d0, d1, d2, d3⟩ := put4 (w.heap.size + 1) (w2) _ _ _ _ Wf s0 s1 s2 s3 hWf
  clear hWf
  exact bodyPost_ret (v := .tuple #[.agg #[.int .i64 4, .string (s.extract k (k + 2)), .int .i64 0, .int .i64 k], .int .i64 (k + 2), .bool true]) (by simp [results, Tryd.results33, go_sem, d0, d1, d2, d3]) rfl ⟨rfl, hw4 _ _ (Nat.le_succ _) hb3⟩

set_option maxHeartbeats 1000000 in
theorem mark_s1_end (a : AB) (B : Nat) (w : World) (hA : Alpha a B w) (s : ByteArray) (hs : s.size ≤ 65536) (k : Nat) (hk : k < s.size) (hsg : singleP s[k] = true) (hk2 : ¬ k + 2 ≤ s.size) :
    Calls Tryd.prog 33 #[a.rd s, .int .i64 k] w fun e w' => e = .returned (.tuple #[tokV 4 (s.extract k (k + 1)) 0 k, .int .i64 (k + 1), .bool true]) ∧ Below w.heap.size w w' := by
  go_enter Tryd.func33, Tryd.ntmps33
  go_wp2_with fail
  obtain ⟨W, hWq, hA', hb, hz, ⟨_, _, _, _, _, _, _, c7, c8⟩, ⟨t0, t1, t2, t3⟩, tf⟩ := boxRd2 a s B w hA
  rw [hWq]
  clear hWq hA
  have cS : ∀ n, Calls Tryd.prog a.g7 (#[.int .u8 (s[k]).toNat] ++ a.l7) (W.drewN n) _ := fun n => hA'.single (W.drewN n) s[k] ((Same.refl _ _).drewN n)
  rw [hsg] at cS
  have eg : ∀ args w, (callFunc a.g7 args).run Tryd.prog w = .ok (.enter a.g7 args) w := hA'.e7
  go_quiet ((go_at_fn a.g7; exact Calls.quiet_of (cS _)))
  go_wp2_with fail
  have hx : (s.extract k (k + 1)).size ≤ 281474976710656 := by simp; omega
  refine (clone_any _ _ hx).mono ?_
  rintro e w2 ⟨rfl, hb2⟩
  obtain ⟨_, s0, s1, s2, s3, sf⟩ := later4 hz (W := W) (w' := w2) ⟨hb2.os, hb2.tape, hb2.output, hb2.size, hb2.block⟩ c8 t0 t1 t2 t3 tf
  have hb3 : Below w.heap.size w w2 := hb.trans (Below.mono (B := W.heap.size) ⟨hb2.os, hb2.tape, hb2.output, hb2.size, hb2.block⟩ (by omega))
  clear c8 t0 t1 t2 t3 tf c7 hb2
  go_wp2
  generalize hWf : (((((w2).setCell ⟨w.heap.size + 1, 0, none⟩ (.int .i64 4)).setCell ⟨w.heap.size + 1, 1, none⟩ (.string (s.extract k (k + 1)))).setCell ⟨w.heap.size + 1, 2, none⟩ (.int .i64 0)).setCell ⟨w.heap.size + 1, 3, none⟩ (.int .i64 k)) = Wf
  obtain ⟨_, hw4, d0, d1, d2, d3⟩ := put4 (w.heap.size + 1) (w2) _ _ _ _ Wf s0 s1 s2 s3 hWf
  clear hWf
  exact bodyPost_ret (v := .tuple #[.agg #[.int .i64 4, .string (s.extract k (k + 1)), .int .i64 0, .int .i64 k], .int .i64 (k + 1), .bool true]) (by simp [results, Tryd.results33, go_sem, d0, d1, d2, d3]) rfl ⟨rfl, hw4 _ _ (Nat.le_succ _) hb3⟩

set_option maxHeartbeats 1000000 in
theorem mark_s1_no (a : AB) (B : Nat) (w : World) (hA : Alpha a B w) (s : ByteArray) (hs : s.size ≤ 65536) (k : Nat) (hk : k < s.size) (hsg : singleP s[k] = true) (hk2 : k + 2 ≤ s.size) (hp : pairP (s.extract k (k + 2)).toList = false) :
    Calls Tryd.prog 33 #[a.rd s, .int .i64 k] w fun e w' => e = .returned (.tuple #[tokV 4 (s.extract k (k + 1)) 0 k, .int .i64 (k + 1), .bool true]) ∧ Below w.heap.size w w' := by
  go_enter Tryd.func33, Tryd.ntmps33
  go_wp2_with fail
  obtain ⟨W, hWq, hA', hb, hz, ⟨_, _, _, _, _, _, _, c7, c8⟩, ⟨t0, t1, t2, t3⟩, tf⟩ := boxRd2 a s B w hA
  rw [hWq]
  clear hWq hA
  have cS : ∀ n, Calls Tryd.prog a.g7 (#[.int .u8 (s[k]).toNat] ++ a.l7) (W.drewN n) _ := fun n => hA'.single (W.drewN n) s[k] ((Same.refl _ _).drewN n)
  rw [hsg] at cS
  have eg : ∀ args w, (callFunc a.g7 args).run Tryd.prog w = .ok (.enter a.g7 args) w := hA'.e7
  go_quiet ((go_at_fn a.g7; exact Calls.quiet_of (cS _)))
  go_wp2_with fail
  have cP := isPair_any (s.extract k (k + 2)) (W.drewN nq)
  rw [hp] at cP
  refine cP.mono ?_
  rintro e w' ⟨rfl, rfl⟩
  go_wp2_with fail
  have hx : (s.extract k (k + 1)).size ≤ 281474976710656 := by simp; omega
  refine (clone_any _ _ hx).mono ?_
  rintro e w2 ⟨rfl, hb2⟩
  obtain ⟨_, s0, s1, s2, s3, sf⟩ := later4 hz (W := W) (w' := w2) ⟨hb2.os, hb2.tape, hb2.output, hb2.size, hb2.block⟩ c8 t0 t1 t2 t3 tf
  have hb3 : Below w.heap.size w w2 := hb.trans (Below.mono (B := W.heap.size) ⟨hb2.os, hb2.tape, hb2.output, hb2.size, hb2.block⟩ (by omega))
  clear c8 t0 t1 t2 t3 tf c7 hb2
  go_wp2
  generalize hWf : (((((w2).setCell ⟨w.heap.size + 1, 0, none⟩ (.int .i64 4)).setCell ⟨w.heap.size + 1, 1, none⟩ (.string (s.extract k (k + 1)))).setCell ⟨w.heap.size + 1, 2, none⟩ (.int .i64 0)).setCell ⟨w.heap.size + 1, 3, none⟩ (.int .i64 k)) = Wf
  obtain ⟨_, hw4, d0, d1, d2, d3⟩ := put4 (w.heap.size + 1) (w2) _ _ _ _ Wf s0 s1 s2 s3 hWf
  clear hWf
  exact bodyPost_ret (v := .tuple #[.agg #[.int .i64 4, .string (s.extract k (k + 1)), .int .i64 0, .int .i64 k], .int .i64 (k + 1), .bool true]) (by simp [results, Tryd.results33, go_sem, d0, d1, d2, d3]) rfl ⟨rfl, hw4 _ _ (Nat.le_succ _) hb3⟩

set_option maxHeartbeats 1000000 in
theorem mark_s1_yes (a : AB) (B : Nat) (w : World) (hA : Alpha a B w) (s : ByteArray) (hs : s.size ≤ 65536) (k : Nat) (hk : k < s.size) (hsg : singleP s[k] = true) (hk2 : k + 2 ≤ s.size) (hp : pairP (s.extract k (k + 2)).toList = true) :
    Calls Tryd.prog 33 #[a.rd s, .int .i64 k] w fun e w' => e = .returned (.tuple #[tokV 4 (s.extract k (k + 2)) 0 k, .int .i64 (k + 2), .bool true]) ∧ Below w.heap.size w w' := by
  go_enter Tryd.func33, Tryd.ntmps33
  go_wp2_with fail
  obtain ⟨W, hWq, hA', hb, hz, ⟨_, _, _, _, _, _, _, c7, c8⟩, ⟨t0, t1, t2, t3⟩, tf⟩ := boxRd2 a s B w hA
  rw [hWq]
  clear hWq hA
  have cS : ∀ n, Calls Tryd.prog a.g7 (#[.int .u8 (s[k]).toNat] ++ a.l7) (W.drewN n) _ := fun n => hA'.single (W.drewN n) s[k] ((Same.refl _ _).drewN n)
  rw [hsg] at cS
  have eg : ∀ args w, (callFunc a.g7 args).run Tryd.prog w = .ok (.enter a.g7 args) w := hA'.e7
  go_quiet ((go_at_fn a.g7; exact Calls.quiet_of (cS _)))
  go_wp2_with fail
  have cP := isPair_any (s.extract k (k + 2)) (W.drewN nq)
  rw [hp] at cP
  refine cP.mono ?_
  rintro e w' ⟨rfl, rfl⟩
  go_wp2_with fail
  have hx : (s.extract k (k + 2)).size ≤ 281474976710656 := by simp; omega
  refine (clone_any _ _ hx).mono ?_
  rintro e w2 ⟨rfl, hb2⟩
  obtain ⟨_, s0, s1, s2, s3, sf⟩ := later4 hz (W := W) (w' := w2) ⟨hb2.os, hb2.tape, hb2.output, hb2.size, hb2.block⟩ c8 t0 t1 t2 t3 tf
  have hb3 : Below w.heap.size w w2 := hb.trans (Below.mono (B := W.heap.size) ⟨hb2.os, hb2.tape, hb2.output, hb2.size, hb2.block⟩ (by omega))
  clear c8 t0 t1 t2 t3 tf c7 hb2
  go_wp2
  generalize hWf : (((((w2).setCell ⟨w.heap.size + 1, 0, none⟩ (.int .i64 4)).setCell ⟨w.heap.size + 1, 1, none⟩ (.string (s.extract k (k + 2)))).setCell ⟨w.heap.size + 1, 2, none⟩ (.int .i64 0)).setCell ⟨w.heap.size + 1, 3, none⟩ (.int .i64 k)) = Wf
  obtain ⟨_, hw4, d0, d1, d2, d3⟩ := put4 (w.heap.size + 1) (w2) _ _ _ _ Wf s0 s1 s2 s3 hWf
  clear hWf
  exact bodyPost_ret (v := .tuple #[.agg #[.int .i64 4, .string (s.extract k (k + 2)), .int .i64 0, .int .i64 k], .int .i64 (k + 2), .bool true]) (by simp [results, Tryd.results33, go_sem, d0, d1, d2, d3]) rfl ⟨rfl, hw4 _ _ (Nat.le_succ _) hb3⟩

end Go.Proofs.YthggaojpkfdggaaDoor
