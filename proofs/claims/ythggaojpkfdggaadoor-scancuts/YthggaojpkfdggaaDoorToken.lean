/- The reader's token. -/
import Derived.Test.YthggaojpkfdggaaDoorForm
namespace Go.Proofs.YthggaojpkfdggaaDoor
open Go.RowKit

set_option maxHeartbeats 2000000 in
theorem token_name (a : AB) (B : Nat) (w : World) (hA : Alpha a B w) (hG : Gl w) (s : ByteArray) (hs : s.size ≤ 65536) (k : Nat) (hk : k < s.size) (hf : firstP s[k] = true) :
    Calls Tryd.prog 19 #[a.rd s, .int .i64 k] w fun e w' => e = .returned (tokVal k (nameL s.data.toList k)) ∧ Below w.heap.size w w' := by
  have eg2 : ∀ args w, (callFunc a.g2 args).run Tryd.prog w = .ok (.enter a.g2 args) w := hA.e2
  have eg4 : ∀ args w, (callFunc a.g4 args).run Tryd.prog w = .ok (.enter a.g4 args) w := hA.e4
  have eg5 : ∀ args w, (callFunc a.g5 args).run Tryd.prog w = .ok (.enter a.g5 args) w := hA.e5
  go_enter Tryd.func19, Tryd.ntmps19
  go_wp2_with fail
  obtain ⟨W, hWq, hA', hb, hz, ⟨c0, c1, c2, c3, c4, c5, c6, c7, c8⟩, ⟨t0, t1, t2, t3⟩, tf⟩ := boxRd2 a s B w hA
  have hG' : Gl W := hG.later hb
  rw [hWq]
  clear hWq hA hG
  have cf0 : Calls Tryd.prog a.g2 (#[.int .u8 (s[k]).toNat] ++ a.l2) (W) _ := hA'.first (W) s[k] (Same.refl _ _)
  rw [hf] at cf0
  go_wp2_with fail
  refine cf0.mono ?_
  rintro e w' ⟨rfl, q0, rfl⟩
  go_wp2_with fail
  have cN := name_all a B (W.drewN q0) (hA'.later ((Same.refl _ _).drewN _)) s hs k hk
  cases hr : nameL s.data.toList k with
  | none =>
    rw [hr] at cN
    change Calls Tryd.prog 30 _ _ (fun e w' => e = .returned noTok ∧ _) at cN
    have HR := Lib.hid hr
    clear hr
    refine cN.mono ?_
    rintro e w3 ⟨rfl, hb3'⟩
    have hb3 : Below W.heap.size W w3 := ⟨hb3'.os, hb3'.tape, hb3'.output, hb3'.size, hb3'.block⟩
    obtain ⟨_, s0, s1, s2, s3, sf⟩ := later4 hz hb3 c8 t0 t1 t2 t3 tf
    go_wp2
    generalize hWf : (((((w3).setCell ⟨w.heap.size + 1, 0, none⟩ (.int .i64 0)).setCell ⟨w.heap.size + 1, 1, none⟩ (.string ⟨#[]⟩)).setCell ⟨w.heap.size + 1, 2, none⟩ (.int .i64 0)).setCell ⟨w.heap.size + 1, 3, none⟩ (.int .i64 0)) = Wf
    obtain ⟨_, hw4, d0, d1, d2, d3⟩ := put4 (w.heap.size + 1) (w3) _ _ _ _ Wf s0 s1 s2 s3 hWf
    clear hWf
    exact bodyPost_ret (v := .tuple #[.agg #[.int .i64 0, .string ⟨#[]⟩, .int .i64 0, .int .i64 0], .int .i64 0, .bool false]) (by simp [results, Tryd.results19, go_sem, d0, d1, d2, d3]) rfl ⟨by rw [HR.out]; rfl, hw4 _ _ (Nat.le_succ _) (hb.trans (hb3.mono (by omega)))⟩
  | some x =>
    obtain ⟨kd, tx, nu, en⟩ := x
    rw [hr] at cN
    change Calls Tryd.prog 30 _ _ (fun e w' => e = .returned (.tuple #[tokV kd ⟨tx.toArray⟩ nu k, .int .i64 en, .bool true]) ∧ _) at cN
    have HR := Lib.hid hr
    clear hr
    refine cN.mono ?_
    rintro e w3 ⟨rfl, hb3'⟩
    have hb3 : Below W.heap.size W w3 := ⟨hb3'.os, hb3'.tape, hb3'.output, hb3'.size, hb3'.block⟩
    obtain ⟨_, s0, s1, s2, s3, sf⟩ := later4 hz hb3 c8 t0 t1 t2 t3 tf
    go_wp2
    generalize hWf : (((((w3).setCell ⟨w.heap.size + 1, 0, none⟩ (.int .i64 kd)).setCell ⟨w.heap.size + 1, 1, none⟩ (.string ⟨tx.toArray⟩)).setCell ⟨w.heap.size + 1, 2, none⟩ (.int .i64 nu)).setCell ⟨w.heap.size + 1, 3, none⟩ (.int .i64 k)) = Wf
    obtain ⟨_, hw4, d0, d1, d2, d3⟩ := put4 (w.heap.size + 1) (w3) _ _ _ _ Wf s0 s1 s2 s3 hWf
    clear hWf
    exact bodyPost_ret (v := .tuple #[.agg #[.int .i64 kd, .string ⟨tx.toArray⟩, .int .i64 nu, .int .i64 k], .int .i64 en, .bool true]) (by simp [results, Tryd.results19, go_sem, d0, d1, d2, d3]) rfl ⟨by rw [HR.out]; rfl, hw4 _ _ (Nat.le_succ _) (hb.trans (hb3.mono (by omega)))⟩

set_option maxHeartbeats 2000000 in
theorem token_num (a : AB) (B : Nat) (w : World) (hA : Alpha a B w) (hG : Gl w) (s : ByteArray) (hs : s.size ≤ 65536) (k : Nat) (hk : k < s.size) (hf : firstP s[k] = false) (hd : digitP s[k] = true) :
    Calls Tryd.prog 19 #[a.rd s, .int .i64 k] w fun e w' => e = .returned (tokVal k (numL s.data.toList k)) ∧ Below w.heap.size w w' := by
  have eg2 : ∀ args w, (callFunc a.g2 args).run Tryd.prog w = .ok (.enter a.g2 args) w := hA.e2
  have eg4 : ∀ args w, (callFunc a.g4 args).run Tryd.prog w = .ok (.enter a.g4 args) w := hA.e4
  have eg5 : ∀ args w, (callFunc a.g5 args).run Tryd.prog w = .ok (.enter a.g5 args) w := hA.e5
  go_enter Tryd.func19, Tryd.ntmps19
  go_wp2_with fail
  obtain ⟨W, hWq, hA', hb, hz, ⟨c0, c1, c2, c3, c4, c5, c6, c7, c8⟩, ⟨t0, t1, t2, t3⟩, tf⟩ := boxRd2 a s B w hA
  have hG' : Gl W := hG.later hb
  rw [hWq]
  clear hWq hA hG
  have cf0 : Calls Tryd.prog a.g2 (#[.int .u8 (s[k]).toNat] ++ a.l2) (W) _ := hA'.first (W) s[k] (Same.refl _ _)
  rw [hf] at cf0
  go_wp2_with fail
  refine cf0.mono ?_
  rintro e w' ⟨rfl, q0, rfl⟩
  have cf1 : Calls Tryd.prog a.g4 (#[.int .u8 (s[k]).toNat] ++ a.l4) (W.drewN q0) _ := hA'.digit (W.drewN q0) s[k] ((Same.refl _ _).drewN _)
  rw [hd] at cf1
  go_wp2_with fail
  refine cf1.mono ?_
  rintro e w' ⟨rfl, q1, rfl⟩
  go_wp2_with fail
  have cN := number_all a B (W.drewN (q0 + q1)) (hA'.later ((Same.refl _ _).drewN _)) ⟨hG'.syn, hG'.rng, hG'.size⟩ s hs k hk hd
  cases hr : numL s.data.toList k with
  | none =>
    rw [hr] at cN
    change Calls Tryd.prog 31 _ _ (fun e w' => e = .returned noTok ∧ _) at cN
    have HR := Lib.hid hr
    clear hr
    refine cN.mono ?_
    rintro e w3 ⟨rfl, hb3'⟩
    have hb3 : Below W.heap.size W w3 := ⟨hb3'.os, hb3'.tape, hb3'.output, hb3'.size, hb3'.block⟩
    obtain ⟨_, s0, s1, s2, s3, sf⟩ := later4 hz hb3 c8 t0 t1 t2 t3 tf
    go_wp2
    generalize hWf : (((((w3).setCell ⟨w.heap.size + 1, 0, none⟩ (.int .i64 0)).setCell ⟨w.heap.size + 1, 1, none⟩ (.string ⟨#[]⟩)).setCell ⟨w.heap.size + 1, 2, none⟩ (.int .i64 0)).setCell ⟨w.heap.size + 1, 3, none⟩ (.int .i64 0)) = Wf
    obtain ⟨_, hw4, d0, d1, d2, d3⟩ := put4 (w.heap.size + 1) (w3) _ _ _ _ Wf s0 s1 s2 s3 hWf
    clear hWf
    exact bodyPost_ret (v := .tuple #[.agg #[.int .i64 0, .string ⟨#[]⟩, .int .i64 0, .int .i64 0], .int .i64 0, .bool false]) (by simp [results, Tryd.results19, go_sem, d0, d1, d2, d3]) rfl ⟨by rw [HR.out]; rfl, hw4 _ _ (Nat.le_succ _) (hb.trans (hb3.mono (by omega)))⟩
  | some x =>
    obtain ⟨kd, tx, nu, en⟩ := x
    rw [hr] at cN
    change Calls Tryd.prog 31 _ _ (fun e w' => e = .returned (.tuple #[tokV kd ⟨tx.toArray⟩ nu k, .int .i64 en, .bool true]) ∧ _) at cN
    have HR := Lib.hid hr
    clear hr
    refine cN.mono ?_
    rintro e w3 ⟨rfl, hb3'⟩
    have hb3 : Below W.heap.size W w3 := ⟨hb3'.os, hb3'.tape, hb3'.output, hb3'.size, hb3'.block⟩
    obtain ⟨_, s0, s1, s2, s3, sf⟩ := later4 hz hb3 c8 t0 t1 t2 t3 tf
    go_wp2
    generalize hWf : (((((w3).setCell ⟨w.heap.size + 1, 0, none⟩ (.int .i64 kd)).setCell ⟨w.heap.size + 1, 1, none⟩ (.string ⟨tx.toArray⟩)).setCell ⟨w.heap.size + 1, 2, none⟩ (.int .i64 nu)).setCell ⟨w.heap.size + 1, 3, none⟩ (.int .i64 k)) = Wf
    obtain ⟨_, hw4, d0, d1, d2, d3⟩ := put4 (w.heap.size + 1) (w3) _ _ _ _ Wf s0 s1 s2 s3 hWf
    clear hWf
    exact bodyPost_ret (v := .tuple #[.agg #[.int .i64 kd, .string ⟨tx.toArray⟩, .int .i64 nu, .int .i64 k], .int .i64 en, .bool true]) (by simp [results, Tryd.results19, go_sem, d0, d1, d2, d3]) rfl ⟨by rw [HR.out]; rfl, hw4 _ _ (Nat.le_succ _) (hb.trans (hb3.mono (by omega)))⟩

set_option maxHeartbeats 2000000 in
theorem token_text (a : AB) (B : Nat) (w : World) (hA : Alpha a B w) (hG : Gl w) (s : ByteArray) (hs : s.size ≤ 65536) (k : Nat) (hk : k < s.size) (hf : firstP s[k] = false) (hd : digitP s[k] = false) (hq : quoteP s[k] = true) :
    Calls Tryd.prog 19 #[a.rd s, .int .i64 k] w fun e w' => e = .returned (tokVal k (textL s.data.toList k)) ∧ Below w.heap.size w w' := by
  have eg2 : ∀ args w, (callFunc a.g2 args).run Tryd.prog w = .ok (.enter a.g2 args) w := hA.e2
  have eg4 : ∀ args w, (callFunc a.g4 args).run Tryd.prog w = .ok (.enter a.g4 args) w := hA.e4
  have eg5 : ∀ args w, (callFunc a.g5 args).run Tryd.prog w = .ok (.enter a.g5 args) w := hA.e5
  go_enter Tryd.func19, Tryd.ntmps19
  go_wp2_with fail
  obtain ⟨W, hWq, hA', hb, hz, ⟨c0, c1, c2, c3, c4, c5, c6, c7, c8⟩, ⟨t0, t1, t2, t3⟩, tf⟩ := boxRd2 a s B w hA
  have hG' : Gl W := hG.later hb
  rw [hWq]
  clear hWq hA hG
  have cf0 : Calls Tryd.prog a.g2 (#[.int .u8 (s[k]).toNat] ++ a.l2) (W) _ := hA'.first (W) s[k] (Same.refl _ _)
  rw [hf] at cf0
  go_wp2_with fail
  refine cf0.mono ?_
  rintro e w' ⟨rfl, q0, rfl⟩
  have cf1 : Calls Tryd.prog a.g4 (#[.int .u8 (s[k]).toNat] ++ a.l4) (W.drewN q0) _ := hA'.digit (W.drewN q0) s[k] ((Same.refl _ _).drewN _)
  rw [hd] at cf1
  go_wp2_with fail
  refine cf1.mono ?_
  rintro e w' ⟨rfl, q1, rfl⟩
  have cf2 : Calls Tryd.prog a.g5 (#[.int .u8 (s[k]).toNat] ++ a.l5) (W.drewN (q0 + q1)) _ := hA'.quote (W.drewN (q0 + q1)) s[k] ((Same.refl _ _).drewN _)
  rw [hq] at cf2
  go_wp2_with fail
  refine cf2.mono ?_
  rintro e w' ⟨rfl, q2, rfl⟩
  go_wp2_with fail
  have cN := text_all a B (W.drewN (q0 + q1 + q2)) (hA'.later ((Same.refl _ _).drewN _)) ⟨hG'.syn, hG'.rng, hG'.size⟩ s hs k hk
  cases hr : textL s.data.toList k with
  | none =>
    rw [hr] at cN
    change Calls Tryd.prog 32 _ _ (fun e w' => e = .returned noTok ∧ _) at cN
    have HR := Lib.hid hr
    clear hr
    refine cN.mono ?_
    rintro e w3 ⟨rfl, hb3'⟩
    have hb3 : Below W.heap.size W w3 := ⟨hb3'.os, hb3'.tape, hb3'.output, hb3'.size, hb3'.block⟩
    obtain ⟨_, s0, s1, s2, s3, sf⟩ := later4 hz hb3 c8 t0 t1 t2 t3 tf
    go_wp2
    generalize hWf : (((((w3).setCell ⟨w.heap.size + 1, 0, none⟩ (.int .i64 0)).setCell ⟨w.heap.size + 1, 1, none⟩ (.string ⟨#[]⟩)).setCell ⟨w.heap.size + 1, 2, none⟩ (.int .i64 0)).setCell ⟨w.heap.size + 1, 3, none⟩ (.int .i64 0)) = Wf
    obtain ⟨_, hw4, d0, d1, d2, d3⟩ := put4 (w.heap.size + 1) (w3) _ _ _ _ Wf s0 s1 s2 s3 hWf
    clear hWf
    exact bodyPost_ret (v := .tuple #[.agg #[.int .i64 0, .string ⟨#[]⟩, .int .i64 0, .int .i64 0], .int .i64 0, .bool false]) (by simp [results, Tryd.results19, go_sem, d0, d1, d2, d3]) rfl ⟨by rw [HR.out]; rfl, hw4 _ _ (Nat.le_succ _) (hb.trans (hb3.mono (by omega)))⟩
  | some x =>
    obtain ⟨kd, tx, nu, en⟩ := x
    rw [hr] at cN
    change Calls Tryd.prog 32 _ _ (fun e w' => e = .returned (.tuple #[tokV kd ⟨tx.toArray⟩ nu k, .int .i64 en, .bool true]) ∧ _) at cN
    have HR := Lib.hid hr
    clear hr
    refine cN.mono ?_
    rintro e w3 ⟨rfl, hb3'⟩
    have hb3 : Below W.heap.size W w3 := ⟨hb3'.os, hb3'.tape, hb3'.output, hb3'.size, hb3'.block⟩
    obtain ⟨_, s0, s1, s2, s3, sf⟩ := later4 hz hb3 c8 t0 t1 t2 t3 tf
    go_wp2
    generalize hWf : (((((w3).setCell ⟨w.heap.size + 1, 0, none⟩ (.int .i64 kd)).setCell ⟨w.heap.size + 1, 1, none⟩ (.string ⟨tx.toArray⟩)).setCell ⟨w.heap.size + 1, 2, none⟩ (.int .i64 nu)).setCell ⟨w.heap.size + 1, 3, none⟩ (.int .i64 k)) = Wf
    obtain ⟨_, hw4, d0, d1, d2, d3⟩ := put4 (w.heap.size + 1) (w3) _ _ _ _ Wf s0 s1 s2 s3 hWf
    clear hWf
    exact bodyPost_ret (v := .tuple #[.agg #[.int .i64 kd, .string ⟨tx.toArray⟩, .int .i64 nu, .int .i64 k], .int .i64 en, .bool true]) (by simp [results, Tryd.results19, go_sem, d0, d1, d2, d3]) rfl ⟨by rw [HR.out]; rfl, hw4 _ _ (Nat.le_succ _) (hb.trans (hb3.mono (by omega)))⟩

set_option maxHeartbeats 2000000 in
theorem token_mark (a : AB) (B : Nat) (w : World) (hA : Alpha a B w) (hG : Gl w) (s : ByteArray) (hs : s.size ≤ 65536) (k : Nat) (hk : k < s.size) (hf : firstP s[k] = false) (hd : digitP s[k] = false) (hq : quoteP s[k] = false) :
    Calls Tryd.prog 19 #[a.rd s, .int .i64 k] w fun e w' => e = .returned (tokVal k (markL s.data.toList k)) ∧ Below w.heap.size w w' := by
  have eg2 : ∀ args w, (callFunc a.g2 args).run Tryd.prog w = .ok (.enter a.g2 args) w := hA.e2
  have eg4 : ∀ args w, (callFunc a.g4 args).run Tryd.prog w = .ok (.enter a.g4 args) w := hA.e4
  have eg5 : ∀ args w, (callFunc a.g5 args).run Tryd.prog w = .ok (.enter a.g5 args) w := hA.e5
  go_enter Tryd.func19, Tryd.ntmps19
  go_wp2_with fail
  obtain ⟨W, hWq, hA', hb, hz, ⟨c0, c1, c2, c3, c4, c5, c6, c7, c8⟩, ⟨t0, t1, t2, t3⟩, tf⟩ := boxRd2 a s B w hA
  have hG' : Gl W := hG.later hb
  rw [hWq]
  clear hWq hA hG
  have cf0 : Calls Tryd.prog a.g2 (#[.int .u8 (s[k]).toNat] ++ a.l2) (W) _ := hA'.first (W) s[k] (Same.refl _ _)
  rw [hf] at cf0
  go_wp2_with fail
  refine cf0.mono ?_
  rintro e w' ⟨rfl, q0, rfl⟩
  have cf1 : Calls Tryd.prog a.g4 (#[.int .u8 (s[k]).toNat] ++ a.l4) (W.drewN q0) _ := hA'.digit (W.drewN q0) s[k] ((Same.refl _ _).drewN _)
  rw [hd] at cf1
  go_wp2_with fail
  refine cf1.mono ?_
  rintro e w' ⟨rfl, q1, rfl⟩
  have cf2 : Calls Tryd.prog a.g5 (#[.int .u8 (s[k]).toNat] ++ a.l5) (W.drewN (q0 + q1)) _ := hA'.quote (W.drewN (q0 + q1)) s[k] ((Same.refl _ _).drewN _)
  rw [hq] at cf2
  go_wp2_with fail
  refine cf2.mono ?_
  rintro e w' ⟨rfl, q2, rfl⟩
  go_wp2_with fail
  have cN := mark_all a B (W.drewN (q0 + q1 + q2)) (hA'.later ((Same.refl _ _).drewN _)) s hs k hk
  cases hr : markL s.data.toList k with
  | none =>
    rw [hr] at cN
    change Calls Tryd.prog 33 _ _ (fun e w' => e = .returned noTok ∧ _) at cN
    have HR := Lib.hid hr
    clear hr
    refine cN.mono ?_
    rintro e w3 ⟨rfl, hb3'⟩
    have hb3 : Below W.heap.size W w3 := ⟨hb3'.os, hb3'.tape, hb3'.output, hb3'.size, hb3'.block⟩
    obtain ⟨_, s0, s1, s2, s3, sf⟩ := later4 hz hb3 c8 t0 t1 t2 t3 tf
    go_wp2
    generalize hWf : (((((w3).setCell ⟨w.heap.size + 1, 0, none⟩ (.int .i64 0)).setCell ⟨w.heap.size + 1, 1, none⟩ (.string ⟨#[]⟩)).setCell ⟨w.heap.size + 1, 2, none⟩ (.int .i64 0)).setCell ⟨w.heap.size + 1, 3, none⟩ (.int .i64 0)) = Wf
    obtain ⟨_, hw4, d0, d1, d2, d3⟩ := put4 (w.heap.size + 1) (w3) _ _ _ _ Wf s0 s1 s2 s3 hWf
    clear hWf
    exact bodyPost_ret (v := .tuple #[.agg #[.int .i64 0, .string ⟨#[]⟩, .int .i64 0, .int .i64 0], .int .i64 0, .bool false]) (by simp [results, Tryd.results19, go_sem, d0, d1, d2, d3]) rfl ⟨by rw [HR.out]; rfl, hw4 _ _ (Nat.le_succ _) (hb.trans (hb3.mono (by omega)))⟩
  | some x =>
    obtain ⟨kd, tx, nu, en⟩ := x
    rw [hr] at cN
    change Calls Tryd.prog 33 _ _ (fun e w' => e = .returned (.tuple #[tokV kd ⟨tx.toArray⟩ nu k, .int .i64 en, .bool true]) ∧ _) at cN
    have HR := Lib.hid hr
    clear hr
    refine cN.mono ?_
    rintro e w3 ⟨rfl, hb3'⟩
    have hb3 : Below W.heap.size W w3 := ⟨hb3'.os, hb3'.tape, hb3'.output, hb3'.size, hb3'.block⟩
    obtain ⟨_, s0, s1, s2, s3, sf⟩ := later4 hz hb3 c8 t0 t1 t2 t3 tf
    go_wp2
    generalize hWf : (((((w3).setCell ⟨w.heap.size + 1, 0, none⟩ (.int .i64 kd)).setCell ⟨w.heap.size + 1, 1, none⟩ (.string ⟨tx.toArray⟩)).setCell ⟨w.heap.size + 1, 2, none⟩ (.int .i64 nu)).setCell ⟨w.heap.size + 1, 3, none⟩ (.int .i64 k)) = Wf
    obtain ⟨_, hw4, d0, d1, d2, d3⟩ := put4 (w.heap.size + 1) (w3) _ _ _ _ Wf s0 s1 s2 s3 hWf
    clear hWf
    exact bodyPost_ret (v := .tuple #[.agg #[.int .i64 kd, .string ⟨tx.toArray⟩, .int .i64 nu, .int .i64 k], .int .i64 en, .bool true]) (by simp [results, Tryd.results19, go_sem, d0, d1, d2, d3]) rfl ⟨by rw [HR.out]; rfl, hw4 _ _ (Nat.le_succ _) (hb.trans (hb3.mono (by omega)))⟩

theorem token_all (a : AB) (B : Nat) (w : World) (hA : Alpha a B w) (hG : Gl w) (s : ByteArray) (hs : s.size ≤ 65536) (k : Nat) (hk : k < s.size) :
    Calls Tryd.prog 19 #[a.rd s, .int .i64 k] w fun e w' => e = .returned (tokVal k (tokL s.data.toList k)) ∧ Below w.heap.size w w' := by
  unfold tokL
  rw [atP_lt hk, atP_lt hk, atP_lt hk]
  cases hf : firstP s[k]
  · cases hd : digitP s[k]
    · cases hq : quoteP s[k]
      · exact token_mark a B w hA hG s hs k hk hf hd hq
      · exact token_text a B w hA hG s hs k hk hf hd hq
    · exact token_num a B w hA hG s hs k hk hf hd
  · exact token_name a B w hA hG s hs k hk hf

end Go.Proofs.YthggaojpkfdggaaDoor
