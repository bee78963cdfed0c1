/- The reader's token. -/
import Derived.Test.YtffnaknidofobaaGreatDoorTextJt
import Derived.Deep.Onto
namespace Go.Proofs.YtffnaknidofobaaGreatDoor
open Go.RowKit
set_option maxRecDepth 20000 in
set_option maxHeartbeats 2000000 in
theorem token_name (a : AB) (B : Nat) (w : World) (hA : Alpha a B w) (hG : Gl w) (s : ByteArray) (hs : s.size ≤ 65536) (k : Nat) (hk : k < s.size) (hf : firstP s[k] = true) :
    Calls Tryz.prog 57 #[a.rd s,.int .i64 k] w fun e w' => e = .returned (tokVal k (nameL s.data.toList k)) ∧ Below w.heap.size w w':=by
  have eg2 : ∀ args w,(callFunc a.g2 args).run Tryz.prog w = .ok (.enter a.g2 args) w:=hA.e2
  have eg4 : ∀ args w,(callFunc a.g4 args).run Tryz.prog w = .ok (.enter a.g4 args) w:=hA.e4
  have eg5 : ∀ args w,(callFunc a.g5 args).run Tryz.prog w = .ok (.enter a.g5 args) w:=hA.e5
  go_enter Tryz.func57,Tryz.ntmps57
  go_wp2_with fail
  obtain ⟨W,hWq,hA',hb,hz,⟨c0,c1,c2,c3,c4,c5,c6,c7,c8⟩,⟨t0,t1,t2,t3⟩,tf⟩:=boxRd2 a s B w hA
  have hG' : Gl W:=hG.later hb
  rw [hWq]
  clear hWq hA hG
  have cf0 : Calls Tryz.prog a.g2 (#[.int .u8 (s[k]).toNat] ++ a.l2) (W) _:=hA'.first (W) s[k] (Same.refl _ _)
  rw [hf] at cf0
  go_wp2_with fail
  refine cf0.mono ?_
  rintro e w' ⟨rfl,q0,rfl⟩
  go_wp2_with fail
  have cN:=name_all a B (W.drewN q0) (hA'.later ((Same.refl _ _).drewN _)) s hs k hk
  cases hr : nameL s.data.toList k with
  | none =>
   rw [hr] at cN
   change Calls Tryz.prog 91 _ _ (fun e w' => e = .returned noTok ∧ _) at cN
   have HR:=Lib.hid hr
   clear hr
   refine cN.mono ?_
   rintro e w3 ⟨rfl,hb3'⟩
   have hb3 : Below W.heap.size W w3:=⟨hb3'.os,hb3'.tape,hb3'.output,hb3'.size,hb3'.block⟩
   obtain ⟨_,s0,s1,s2,s3,sf⟩:=later4 hz hb3 c8 t0 t1 t2 t3 tf
   go_wp2
   generalize hWf : (((((w3).setCell ⟨w.heap.size + 1,0,none⟩ (.int .i64 0)).setCell ⟨w.heap.size + 1,1,none⟩ (.string ⟨#[]⟩)).setCell ⟨w.heap.size + 1,2,none⟩ (.int .i64 0)).setCell ⟨w.heap.size + 1,3,none⟩ (.int .i64 0)) = Wf
   obtain ⟨_,hw4,d0,d1,d2,d3⟩:=put4 (w.heap.size + 1) (w3) _ _ _ _ Wf s0 s1 s2 s3 hWf
   clear hWf
   exact bodyPost_ret (v:=.tuple #[.agg #[.int .i64 0,.string ⟨#[]⟩,.int .i64 0,.int .i64 0],.int .i64 0,.bool false]) (by simp [results,Tryz.results57,go_sem,d0,d1,d2,d3]) rfl ⟨by rw [HR.out]; rfl,hw4 _ _ (Nat.le_succ _) (hb.trans (hb3.mono (by omega)))⟩
  | some x =>
   obtain ⟨kd,tx,nu,en⟩:=x
   rw [hr] at cN
   change Calls Tryz.prog 91 _ _ (fun e w' => e = .returned (.tuple #[tokV kd ⟨tx.toArray⟩ nu k,.int .i64 en,.bool true]) ∧ _) at cN
   have HR:=Lib.hid hr
   clear hr
   refine cN.mono ?_
   rintro e w3 ⟨rfl,hb3'⟩
   have hb3 : Below W.heap.size W w3:=⟨hb3'.os,hb3'.tape,hb3'.output,hb3'.size,hb3'.block⟩
   obtain ⟨_,s0,s1,s2,s3,sf⟩:=later4 hz hb3 c8 t0 t1 t2 t3 tf
   go_wp2
   generalize hWf : (((((w3).setCell ⟨w.heap.size + 1,0,none⟩ (.int .i64 kd)).setCell ⟨w.heap.size + 1,1,none⟩ (.string ⟨tx.toArray⟩)).setCell ⟨w.heap.size + 1,2,none⟩ (.int .i64 nu)).setCell ⟨w.heap.size + 1,3,none⟩ (.int .i64 k)) = Wf
   obtain ⟨_,hw4,d0,d1,d2,d3⟩:=put4 (w.heap.size + 1) (w3) _ _ _ _ Wf s0 s1 s2 s3 hWf
   clear hWf
   exact bodyPost_ret (v:=.tuple #[.agg #[.int .i64 kd,.string ⟨tx.toArray⟩,.int .i64 nu,.int .i64 k],.int .i64 en,.bool true]) (by simp [results,Tryz.results57,go_sem,d0,d1,d2,d3]) rfl ⟨by rw [HR.out]; rfl,hw4 _ _ (Nat.le_succ _) (hb.trans (hb3.mono (by omega)))⟩
set_option maxRecDepth 20000 in
set_option maxHeartbeats 2000000 in
theorem token_num (a : AB) (B : Nat) (w : World) (hA : Alpha a B w) (hG : Gl w) (s : ByteArray) (hs : s.size ≤ 65536) (k : Nat) (hk : k < s.size) (hf : firstP s[k] = false) (hd : digitP s[k] = true) :
    Calls Tryz.prog 57 #[a.rd s,.int .i64 k] w fun e w' => e = .returned (tokVal k (numL s.data.toList k)) ∧ Below w.heap.size w w':=by
  have eg2 : ∀ args w,(callFunc a.g2 args).run Tryz.prog w = .ok (.enter a.g2 args) w:=hA.e2
  have eg4 : ∀ args w,(callFunc a.g4 args).run Tryz.prog w = .ok (.enter a.g4 args) w:=hA.e4
  have eg5 : ∀ args w,(callFunc a.g5 args).run Tryz.prog w = .ok (.enter a.g5 args) w:=hA.e5
  go_enter Tryz.func57,Tryz.ntmps57
  go_wp2_with fail
  obtain ⟨W,hWq,hA',hb,hz,⟨c0,c1,c2,c3,c4,c5,c6,c7,c8⟩,⟨t0,t1,t2,t3⟩,tf⟩:=boxRd2 a s B w hA
  have hG' : Gl W:=hG.later hb
  rw [hWq]
  clear hWq hA hG
  have cf0 : Calls Tryz.prog a.g2 (#[.int .u8 (s[k]).toNat] ++ a.l2) (W) _:=hA'.first (W) s[k] (Same.refl _ _)
  rw [hf] at cf0
  go_wp2_with fail
  refine cf0.mono ?_
  rintro e w' ⟨rfl,q0,rfl⟩
  have cf1 : Calls Tryz.prog a.g4 (#[.int .u8 (s[k]).toNat] ++ a.l4) (W.drewN q0) _:=hA'.digit (W.drewN q0) s[k] ((Same.refl _ _).drewN _)
  rw [hd] at cf1
  go_wp2_with fail
  refine cf1.mono ?_
  rintro e w' ⟨rfl,q1,rfl⟩
  go_wp2_with fail
  have cN:=number_all a B (W.drewN (q0 + q1)) (hA'.later ((Same.refl _ _).drewN _)) ⟨hG'.syn,hG'.rng,hG'.size⟩ s hs k hk hd
  cases hr : numL s.data.toList k with
  | none =>
   rw [hr] at cN
   change Calls Tryz.prog 92 _ _ (fun e w' => e = .returned noTok ∧ _) at cN
   have HR:=Lib.hid hr
   clear hr
   refine cN.mono ?_
   rintro e w3 ⟨rfl,hb3'⟩
   have hb3 : Below W.heap.size W w3:=⟨hb3'.os,hb3'.tape,hb3'.output,hb3'.size,hb3'.block⟩
   obtain ⟨_,s0,s1,s2,s3,sf⟩:=later4 hz hb3 c8 t0 t1 t2 t3 tf
   go_wp2
   generalize hWf : (((((w3).setCell ⟨w.heap.size + 1,0,none⟩ (.int .i64 0)).setCell ⟨w.heap.size + 1,1,none⟩ (.string ⟨#[]⟩)).setCell ⟨w.heap.size + 1,2,none⟩ (.int .i64 0)).setCell ⟨w.heap.size + 1,3,none⟩ (.int .i64 0)) = Wf
   obtain ⟨_,hw4,d0,d1,d2,d3⟩:=put4 (w.heap.size + 1) (w3) _ _ _ _ Wf s0 s1 s2 s3 hWf
   clear hWf
   exact bodyPost_ret (v:=.tuple #[.agg #[.int .i64 0,.string ⟨#[]⟩,.int .i64 0,.int .i64 0],.int .i64 0,.bool false]) (by simp [results,Tryz.results57,go_sem,d0,d1,d2,d3]) rfl ⟨by rw [HR.out]; rfl,hw4 _ _ (Nat.le_succ _) (hb.trans (hb3.mono (by omega)))⟩
  | some x =>
   obtain ⟨kd,tx,nu,en⟩:=x
   rw [hr] at cN
   change Calls Tryz.prog 92 _ _ (fun e w' => e = .returned (.tuple #[tokV kd ⟨tx.toArray⟩ nu k,.int .i64 en,.bool true]) ∧ _) at cN
   have HR:=Lib.hid hr
   clear hr
   refine cN.mono ?_
   rintro e w3 ⟨rfl,hb3'⟩
   have hb3 : Below W.heap.size W w3:=⟨hb3'.os,hb3'.tape,hb3'.output,hb3'.size,hb3'.block⟩
   obtain ⟨_,s0,s1,s2,s3,sf⟩:=later4 hz hb3 c8 t0 t1 t2 t3 tf
   go_wp2
   generalize hWf : (((((w3).setCell ⟨w.heap.size + 1,0,none⟩ (.int .i64 kd)).setCell ⟨w.heap.size + 1,1,none⟩ (.string ⟨tx.toArray⟩)).setCell ⟨w.heap.size + 1,2,none⟩ (.int .i64 nu)).setCell ⟨w.heap.size + 1,3,none⟩ (.int .i64 k)) = Wf
   obtain ⟨_,hw4,d0,d1,d2,d3⟩:=put4 (w.heap.size + 1) (w3) _ _ _ _ Wf s0 s1 s2 s3 hWf
   clear hWf
   exact bodyPost_ret (v:=.tuple #[.agg #[.int .i64 kd,.string ⟨tx.toArray⟩,.int .i64 nu,.int .i64 k],.int .i64 en,.bool true]) (by simp [results,Tryz.results57,go_sem,d0,d1,d2,d3]) rfl ⟨by rw [HR.out]; rfl,hw4 _ _ (Nat.le_succ _) (hb.trans (hb3.mono (by omega)))⟩
set_option maxRecDepth 20000 in
set_option maxHeartbeats 2000000 in
theorem token_text (a : AB) (B : Nat) (w : World) (hA : Alpha a B w) (hG : Gl w) (s : ByteArray) (hs : s.size ≤ 65536) (k : Nat) (hk : k < s.size) (hf : firstP s[k] = false) (hd : digitP s[k] = false) (hq : quoteP s[k] = true) :
    Calls Tryz.prog 57 #[a.rd s,.int .i64 k] w fun e w' => e = .returned (tokVal k (textL s.data.toList k)) ∧ Below w.heap.size w w':=by
  have eg2 : ∀ args w,(callFunc a.g2 args).run Tryz.prog w = .ok (.enter a.g2 args) w:=hA.e2
  have eg4 : ∀ args w,(callFunc a.g4 args).run Tryz.prog w = .ok (.enter a.g4 args) w:=hA.e4
  have eg5 : ∀ args w,(callFunc a.g5 args).run Tryz.prog w = .ok (.enter a.g5 args) w:=hA.e5
  go_enter Tryz.func57,Tryz.ntmps57
  go_wp2_with fail
  obtain ⟨W,hWq,hA',hb,hz,⟨c0,c1,c2,c3,c4,c5,c6,c7,c8⟩,⟨t0,t1,t2,t3⟩,tf⟩:=boxRd2 a s B w hA
  have hG' : Gl W:=hG.later hb
  rw [hWq]
  clear hWq hA hG
  have cf0 : Calls Tryz.prog a.g2 (#[.int .u8 (s[k]).toNat] ++ a.l2) (W) _:=hA'.first (W) s[k] (Same.refl _ _)
  rw [hf] at cf0
  go_wp2_with fail
  refine cf0.mono ?_
  rintro e w' ⟨rfl,q0,rfl⟩
  have cf1 : Calls Tryz.prog a.g4 (#[.int .u8 (s[k]).toNat] ++ a.l4) (W.drewN q0) _:=hA'.digit (W.drewN q0) s[k] ((Same.refl _ _).drewN _)
  rw [hd] at cf1
  go_wp2_with fail
  refine cf1.mono ?_
  rintro e w' ⟨rfl,q1,rfl⟩
  have cf2 : Calls Tryz.prog a.g5 (#[.int .u8 (s[k]).toNat] ++ a.l5) (W.drewN (q0 + q1)) _:=hA'.quote (W.drewN (q0 + q1)) s[k] ((Same.refl _ _).drewN _)
  rw [hq] at cf2
  go_wp2_with fail
  refine cf2.mono ?_
  rintro e w' ⟨rfl,q2,rfl⟩
  go_wp2_with fail
  have cN:=text_all a B (W.drewN (q0 + q1 + q2)) (hA'.later ((Same.refl _ _).drewN _)) ⟨hG'.syn,hG'.rng,hG'.size⟩ s hs k hk
  cases hr : textL s.data.toList k with
  | none =>
   rw [hr] at cN
   change Calls Tryz.prog 93 _ _ (fun e w' => e = .returned noTok ∧ _) at cN
   have HR:=Lib.hid hr
   clear hr
   refine cN.mono ?_
   rintro e w3 ⟨rfl,hb3'⟩
   have hb3 : Below W.heap.size W w3:=⟨hb3'.os,hb3'.tape,hb3'.output,hb3'.size,hb3'.block⟩
   obtain ⟨_,s0,s1,s2,s3,sf⟩:=later4 hz hb3 c8 t0 t1 t2 t3 tf
   go_wp2
   generalize hWf : (((((w3).setCell ⟨w.heap.size + 1,0,none⟩ (.int .i64 0)).setCell ⟨w.heap.size + 1,1,none⟩ (.string ⟨#[]⟩)).setCell ⟨w.heap.size + 1,2,none⟩ (.int .i64 0)).setCell ⟨w.heap.size + 1,3,none⟩ (.int .i64 0)) = Wf
   obtain ⟨_,hw4,d0,d1,d2,d3⟩:=put4 (w.heap.size + 1) (w3) _ _ _ _ Wf s0 s1 s2 s3 hWf
   clear hWf
   exact bodyPost_ret (v:=.tuple #[.agg #[.int .i64 0,.string ⟨#[]⟩,.int .i64 0,.int .i64 0],.int .i64 0,.bool false]) (by simp [results,Tryz.results57,go_sem,d0,d1,d2,d3]) rfl ⟨by rw [HR.out]; rfl,hw4 _ _ (Nat.le_succ _) (hb.trans (hb3.mono (by omega)))⟩
  | some x =>
   obtain ⟨kd,tx,nu,en⟩:=x
   rw [hr] at cN
   change Calls Tryz.prog 93 _ _ (fun e w' => e = .returned (.tuple #[tokV kd ⟨tx.toArray⟩ nu k,.int .i64 en,.bool true]) ∧ _) at cN
   have HR:=Lib.hid hr
   clear hr
   refine cN.mono ?_
   rintro e w3 ⟨rfl,hb3'⟩
   have hb3 : Below W.heap.size W w3:=⟨hb3'.os,hb3'.tape,hb3'.output,hb3'.size,hb3'.block⟩
   obtain ⟨_,s0,s1,s2,s3,sf⟩:=later4 hz hb3 c8 t0 t1 t2 t3 tf
   go_wp2
   generalize hWf : (((((w3).setCell ⟨w.heap.size + 1,0,none⟩ (.int .i64 kd)).setCell ⟨w.heap.size + 1,1,none⟩ (.string ⟨tx.toArray⟩)).setCell ⟨w.heap.size + 1,2,none⟩ (.int .i64 nu)).setCell ⟨w.heap.size + 1,3,none⟩ (.int .i64 k)) = Wf
   obtain ⟨_,hw4,d0,d1,d2,d3⟩:=put4 (w.heap.size + 1) (w3) _ _ _ _ Wf s0 s1 s2 s3 hWf
   clear hWf
   exact bodyPost_ret (v:=.tuple #[.agg #[.int .i64 kd,.string ⟨tx.toArray⟩,.int .i64 nu,.int .i64 k],.int .i64 en,.bool true]) (by simp [results,Tryz.results57,go_sem,d0,d1,d2,d3]) rfl ⟨by rw [HR.out]; rfl,hw4 _ _ (Nat.le_succ _) (hb.trans (hb3.mono (by omega)))⟩
set_option maxRecDepth 20000 in
set_option maxHeartbeats 2000000 in
theorem token_mark (a : AB) (B : Nat) (w : World) (hA : Alpha a B w) (hG : Gl w) (s : ByteArray) (hs : s.size ≤ 65536) (k : Nat) (hk : k < s.size) (hf : firstP s[k] = false) (hd : digitP s[k] = false) (hq : quoteP s[k] = false) :
    Calls Tryz.prog 57 #[a.rd s,.int .i64 k] w fun e w' => e = .returned (tokVal k (markL s.data.toList k)) ∧ Below w.heap.size w w':=by
  have eg2 : ∀ args w,(callFunc a.g2 args).run Tryz.prog w = .ok (.enter a.g2 args) w:=hA.e2
  have eg4 : ∀ args w,(callFunc a.g4 args).run Tryz.prog w = .ok (.enter a.g4 args) w:=hA.e4
  have eg5 : ∀ args w,(callFunc a.g5 args).run Tryz.prog w = .ok (.enter a.g5 args) w:=hA.e5
  go_enter Tryz.func57,Tryz.ntmps57
  go_wp2_with fail
  obtain ⟨W,hWq,hA',hb,hz,⟨c0,c1,c2,c3,c4,c5,c6,c7,c8⟩,⟨t0,t1,t2,t3⟩,tf⟩:=boxRd2 a s B w hA
  have hG' : Gl W:=hG.later hb
  rw [hWq]
  clear hWq hA hG
  have cf0 : Calls Tryz.prog a.g2 (#[.int .u8 (s[k]).toNat] ++ a.l2) (W) _:=hA'.first (W) s[k] (Same.refl _ _)
  rw [hf] at cf0
  go_wp2_with fail
  refine cf0.mono ?_
  rintro e w' ⟨rfl,q0,rfl⟩
  have cf1 : Calls Tryz.prog a.g4 (#[.int .u8 (s[k]).toNat] ++ a.l4) (W.drewN q0) _:=hA'.digit (W.drewN q0) s[k] ((Same.refl _ _).drewN _)
  rw [hd] at cf1
  go_wp2_with fail
  refine cf1.mono ?_
  rintro e w' ⟨rfl,q1,rfl⟩
  have cf2 : Calls Tryz.prog a.g5 (#[.int .u8 (s[k]).toNat] ++ a.l5) (W.drewN (q0 + q1)) _:=hA'.quote (W.drewN (q0 + q1)) s[k] ((Same.refl _ _).drewN _)
  rw [hq] at cf2
  go_wp2_with fail
  refine cf2.mono ?_
  rintro e w' ⟨rfl,q2,rfl⟩
  go_wp2_with fail
  have cN:=mark_all a B (W.drewN (q0 + q1 + q2)) (hA'.later ((Same.refl _ _).drewN _)) s hs k hk
  cases hr : markL s.data.toList k with
  | none =>
   rw [hr] at cN
   change Calls Tryz.prog 94 _ _ (fun e w' => e = .returned noTok ∧ _) at cN
   have HR:=Lib.hid hr
   clear hr
   refine cN.mono ?_
   rintro e w3 ⟨rfl,hb3'⟩
   have hb3 : Below W.heap.size W w3:=⟨hb3'.os,hb3'.tape,hb3'.output,hb3'.size,hb3'.block⟩
   obtain ⟨_,s0,s1,s2,s3,sf⟩:=later4 hz hb3 c8 t0 t1 t2 t3 tf
   go_wp2
   generalize hWf : (((((w3).setCell ⟨w.heap.size + 1,0,none⟩ (.int .i64 0)).setCell ⟨w.heap.size + 1,1,none⟩ (.string ⟨#[]⟩)).setCell ⟨w.heap.size + 1,2,none⟩ (.int .i64 0)).setCell ⟨w.heap.size + 1,3,none⟩ (.int .i64 0)) = Wf
   obtain ⟨_,hw4,d0,d1,d2,d3⟩:=put4 (w.heap.size + 1) (w3) _ _ _ _ Wf s0 s1 s2 s3 hWf
   clear hWf
   exact bodyPost_ret (v:=.tuple #[.agg #[.int .i64 0,.string ⟨#[]⟩,.int .i64 0,.int .i64 0],.int .i64 0,.bool false]) (by simp [results,Tryz.results57,go_sem,d0,d1,d2,d3]) rfl ⟨by rw [HR.out]; rfl,hw4 _ _ (Nat.le_succ _) (hb.trans (hb3.mono (by omega)))⟩
  | some x =>
   obtain ⟨kd,tx,nu,en⟩:=x
   rw [hr] at cN
   change Calls Tryz.prog 94 _ _ (fun e w' => e = .returned (.tuple #[tokV kd ⟨tx.toArray⟩ nu k,.int .i64 en,.bool true]) ∧ _) at cN
   have HR:=Lib.hid hr
   clear hr
   refine cN.mono ?_
   rintro e w3 ⟨rfl,hb3'⟩
   have hb3 : Below W.heap.size W w3:=⟨hb3'.os,hb3'.tape,hb3'.output,hb3'.size,hb3'.block⟩
   obtain ⟨_,s0,s1,s2,s3,sf⟩:=later4 hz hb3 c8 t0 t1 t2 t3 tf
   go_wp2
   generalize hWf : (((((w3).setCell ⟨w.heap.size + 1,0,none⟩ (.int .i64 kd)).setCell ⟨w.heap.size + 1,1,none⟩ (.string ⟨tx.toArray⟩)).setCell ⟨w.heap.size + 1,2,none⟩ (.int .i64 nu)).setCell ⟨w.heap.size + 1,3,none⟩ (.int .i64 k)) = Wf
   obtain ⟨_,hw4,d0,d1,d2,d3⟩:=put4 (w.heap.size + 1) (w3) _ _ _ _ Wf s0 s1 s2 s3 hWf
   clear hWf
   exact bodyPost_ret (v:=.tuple #[.agg #[.int .i64 kd,.string ⟨tx.toArray⟩,.int .i64 nu,.int .i64 k],.int .i64 en,.bool true]) (by simp [results,Tryz.results57,go_sem,d0,d1,d2,d3]) rfl ⟨by rw [HR.out]; rfl,hw4 _ _ (Nat.le_succ _) (hb.trans (hb3.mono (by omega)))⟩
set_option maxRecDepth 20000 in
theorem token_all (a : AB) (B : Nat) (w : World) (hA : Alpha a B w) (hG : Gl w) (s : ByteArray) (hs : s.size ≤ 65536) (k : Nat) (hk : k < s.size) :
    Calls Tryz.prog 57 #[a.rd s,.int .i64 k] w fun e w' => e = .returned (tokVal k (tokL s.data.toList k)) ∧ Below w.heap.size w w':=by
  unfold tokL
  rw [atP_lt hk,atP_lt hk,atP_lt hk]
  cases hf : firstP s[k]
  · cases hd : digitP s[k]
    · cases hq : quoteP s[k]
      · exact token_mark a B w hA hG s hs k hk hf hd hq
      · exact token_text a B w hA hG s hs k hk hf hd hq
    · exact token_num a B w hA hG s hs k hk hf hd
  · exact token_name a B w hA hG s hs k hk hf
end Go.Proofs.YtffnaknidofobaaGreatDoor

namespace Go.Proofs.YtffnaknidofobaaGreatDoor
open Go.RowKit
/-- A token: kind, text, number, place. -/
abbrev TkA:=Int × List UInt8 × Int × Nat
def tkCells (t : TkA) : List Value:=[.int .i64 t.1,.string ⟨t.2.1.toArray⟩,.int .i64 t.2.2.1,.int .i64 t.2.2.2]
def tksCells (ts : List TkA) : List Value:=ts.flatMap tkCells
def scanF (l : List UInt8) : Nat → Nat → List TkA → List TkA × Nat × Int
  | 0,_,acc => (acc,0,0)
  | f + 1,a,acc => if a < l.length then
      (if acc.length = 20000 then ([],a,4) else match tokL l a with
        | none => ([],a,3)
        | some (kd,t,n,e) => scanF l f (skipTo l e) (acc ++ [(kd,t,n,a)]))
    else (acc,0,0)
def scanRes (l : List UInt8) : List TkA × Nat × Int:=if 65536 < l.length then ([],0,13) else scanF l (l.length + 1) (skipTo l 0) []
set_option maxRecDepth 20000 in
theorem tksCells_length (ts : List TkA) : (tksCells ts).length = ts.length * 4:=by
 induction ts with
 | nil => rfl
 | cons t r ih => simp [tksCells,tkCells] at ih ⊢; omega
set_option maxRecDepth 20000 in
theorem first_inner : ∀ c : UInt8,firstP c = true → innerP c = true:=byte_all (by decide +kernel)
set_option maxRecDepth 20000 in
theorem endOf_gt {p : UInt8 → Bool} {l : List UInt8} {k : Nat} (h : atP p l k = true) : k < endOf p l k:=by
 have:=endOf_yes h
 have:=endOf_ge p l (k + 1)
 omega
set_option maxRecDepth 20000 in
theorem at_mono {p q : UInt8 → Bool} (hpq : ∀ c,p c = true → q c = true) {l : List UInt8} {k : Nat} (h : atP p l k = true) : atP q l k = true:=by
 unfold atP at h ⊢
 cases hk : l[k]? with
 | none => rw [hk] at h; cases h
 | some c => rw [hk] at h; exact hpq c h
set_option maxRecDepth 20000 in
theorem strF_len : ∀ (f : Nat) (l t : List UInt8) (n : Nat),strF f l = some (t,n) → 1 ≤ n ∧ n ≤ l.length:=by
 intro f
 induction f with
 | zero => intro l t n h; cases h
 | succ f ih =>
  intro l t n h
  match l with
  | [] => cases h
  | c :: r =>
   simp only [strF] at h
   split at h
   · cases h; simp
   · split at h
     · cases hs : strF f r with
       | none => rw [hs] at h; cases h
       | some x =>
        obtain ⟨t',n'⟩:=x
        rw [hs] at h
        cases h
        have:=ih r t' n' hs
        simp; omega
     · split at h
       · rename_i b m he
         have hm:=escL_len _ _ _ he
         cases hs : strF f ((c :: r).drop m) with
         | none => rw [hs] at h; cases h
         | some x =>
          obtain ⟨t',n'⟩:=x
          rw [hs] at h
          cases h
          have:=ih _ t' n' hs
          rw [List.length_drop] at this
          omega
       · cases h
set_option maxRecDepth 20000 in
theorem tokL_end {l : List UInt8} {k : Nat} {kd : Int} {t : List UInt8} {n : Int} {e : Nat} (hk : k < l.length) (h : tokL l k = some (kd,t,n,e)) : k < e ∧ e ≤ l.length:=by
 unfold tokL at h
 split at h
 · rename_i hf
   unfold nameL at h
   split at h
   · cases h
   · cases h
     exact ⟨endOf_gt (at_mono first_inner hf),endOf_le _ _ _ (by omega)⟩
 · split at h
   · rename_i hd
     unfold numL at h
     split at h
     · cases h
     · split at h
       · cases h
       · split at h
         · cases h
         · cases h
           exact ⟨endOf_gt hd,endOf_le _ _ _ (by omega)⟩
   · split at h
     · unfold textL at h
       split at h
       · rename_i t' e' hr
         cases h
         unfold textRes at hr
         split at hr
         · rename_i t2 n2 hs
           split at hr
           · cases hr
             have:=strF_len _ _ _ _ hs
             rw [List.length_drop] at this
             omega
           · cases hr
         · cases hr
       · cases h
     · unfold markL at h
       split at h
       · cases h; omega
       · split at h
         · cases h; omega
         · cases h
set_option maxRecDepth 20000 in
theorem scanF_end {l : List UInt8} {f a : Nat} {acc : List TkA} (hf : 0 < f) (h : ¬ a < l.length) : scanF l f a acc = (acc,0,0):=by
 match f,hf with
 | f + 1,_ => simp only [scanF]; rw [if_neg h]
set_option maxRecDepth 20000 in
theorem scanF_large {l : List UInt8} {f a : Nat} {acc : List TkA} (hf : 0 < f) (h : a < l.length) (hl : acc.length = 20000) : scanF l f a acc = ([],a,4):=by
 match f,hf with
 | f + 1,_ => simp only [scanF]; rw [if_pos h,if_pos hl]
set_option maxRecDepth 20000 in
theorem scanF_fault {l : List UInt8} {f a : Nat} {acc : List TkA} (hf : 0 < f) (h : a < l.length) (hl : ¬ acc.length = 20000) (ht : tokL l a = none) : scanF l f a acc = ([],a,3):=by
 match f,hf with
 | f + 1,_ => simp only [scanF]; rw [if_pos h,if_neg hl,ht]
set_option maxRecDepth 20000 in
theorem scanF_step {l : List UInt8} {f a : Nat} {acc : List TkA} {kd : Int} {t : List UInt8} {n : Int} {e : Nat} (h : a < l.length) (hl : ¬ acc.length = 20000) (ht : tokL l a = some (kd,t,n,e)) : scanF l (f + 1) a acc = scanF l f (skipTo l e) (acc ++ [(kd,t,n,a)]):=by
 simp only [scanF]; rw [if_pos h,if_neg hl,ht]
end Go.Proofs.YtffnaknidofobaaGreatDoor

namespace Go.Proofs.YtffnaknidofobaaGreatDoor
open Go.RowKit
set_option maxRecDepth 20000 in
theorem Tryz.info56 : (Tryz.prog.info? 56).map (fun i => (i.zero,i.size,i.bytes)) = some (some (.agg #[.int .i64 0,.string ⟨#[]⟩,.int .i64 0,.int .i64 0]),4,40):=by kernel_rfl
/-- What a call of Scan leaves: the tokens, the place and the error. -/
def Scanned (r : List TkA × Nat × Int) (w : World) (e : Ending) (w' : World) : Prop :=
  ∃ v,e = .returned (.tuple #[v,.int .i64 r.2.1,.int .i64 r.2.2]) ∧ w'.ownsRow w.heap.size 56 4 v r.1.length (tksCells r.1) ∧ Below w.heap.size w w'
set_option maxRecDepth 20000 in
theorem owns_form {w : World} {base : Nat} {e : TypeId} {size : Nat} {v : Value} {n : Nat} {xs : List Value} (h : w.ownsRow base e size v n xs) : ∃ ao cap,v = .slice ao n cap:=by
 rcases h.2 with ⟨rfl,rfl⟩ | ⟨g,cap,cur,rfl,_⟩
 · exact ⟨none,0,rfl⟩
 · exact ⟨_,cap,rfl⟩
/-- The reader lies in block n. -/
structure RdIn (a : AB) (s : ByteArray) (n : Nat) (W : World) : Prop where
  c0 : W.cell? ⟨n,0,none⟩ = some (.func (.func a.g0) #[] a.l0)
  c1 : W.cell? ⟨n,1,none⟩ = some (.func (.func a.g1) #[] a.l1)
  c2 : W.cell? ⟨n,2,none⟩ = some (.func (.func a.g2) #[] a.l2)
  c3 : W.cell? ⟨n,3,none⟩ = some (.func (.func a.g3) #[] a.l3)
  c4 : W.cell? ⟨n,4,none⟩ = some (.func (.func a.g4) #[] a.l4)
  c5 : W.cell? ⟨n,5,none⟩ = some (.func (.func a.g5) #[] a.l5)
  c6 : W.cell? ⟨n,6,none⟩ = some (.func (.func a.g6) #[] a.l6)
  c7 : W.cell? ⟨n,7,none⟩ = some (.func (.func a.g7) #[] a.l7)
  c8 : W.cell? ⟨n,8,none⟩ = some (.string s)
set_option maxRecDepth 20000 in
theorem RdIn.later {a : AB} {s : ByteArray} {n B : Nat} {W w' : World} (h : RdIn a s n W) (hb : Below B W w') (hn : n < B) : RdIn a s n w' :=
  have r : ∀ j,w'.cell? ⟨n,j,none⟩ = W.cell? ⟨n,j,none⟩:=fun j => hb.cell (p:=⟨n,j,none⟩) hn
  ⟨(r 0).trans h.c0,(r 1).trans h.c1,(r 2).trans h.c2,(r 3).trans h.c3,(r 4).trans h.c4,(r 5).trans h.c5,(r 6).trans h.c6,(r 7).trans h.c7,(r 8).trans h.c8⟩
set_option maxRecDepth 20000 in
set_option maxHeartbeats 4000000 in
theorem scan_any (s : ByteArray) (hs : s.size ≤ maxLen) (w : World) (hG : Gl w) : Calls Tryz.prog 26 #[.string s] w (Scanned (scanRes s.data.toList) w):=by
 have hll : s.data.toList.length = s.size:=by simp
 by_cases hlong : 65536 < s.size
 · have HR : Hid (scanRes s.data.toList = ([],0,13)):=by unfold scanRes; rw [hll]; exact if_pos hlong
   unfold maxLen at hs
   clear hll
   go_enter Tryz.func26,Tryz.ntmps26
   go_wp2
   go_ret3
   exact ⟨_,by rw [HR.out]; rfl,by rw [HR.out]; exact World.ownsRow_nil _ _ _ _,Below.refl _ _⟩
 · have HR : Hid (scanRes s.data.toList = scanF s.data.toList (s.data.toList.length + 1) (skipTo s.data.toList 0) []):=by unfold scanRes; rw [hll]; exact if_neg hlong
   have HL : Hid (s.data.toList.length = s.size):=hll
   clear hll
   have hs':=hs
   unfold maxLen at hs'
   have hle : s.size ≤ 65536:=by omega
   have hd : decide (65536 < (s.size : Int)) = false:=by simp; omega
   clear hlong
   go_enter Tryz.func26,Tryz.ntmps26
   go_wp2_with fail
   refine (newReader_any _ _).mono ?_
   rintro e w1 ⟨a,rfl,hA1,b1⟩
   go_wp2_with fail
   obtain ⟨W,hWq,hA,hbW,hz,c0,c1,c2,c3,c4,c5,c6,c7,c8⟩:=boxRd a s w.heap.size w1 hA1
   rw [hWq]
   clear hWq hA1
   have hRd : RdIn a s w1.heap.size W:=⟨c0,c1,c2,c3,c4,c5,c6,c7,c8⟩
   have hb0 : Below w.heap.size w W:=b1.trans (hbW.mono b1.size)
   have hG0 : Gl W:=hG.later hb0
   have hzW : w.heap.size ≤ W.heap.size:=hb0.size
   have cK : Calls Tryz.prog 56 #[a.rd s,.int .i64 0] W _:=skip_any a w.heap.size W hA s hs 0 (Nat.zero_le _)
   refine cK.mono ?_
   rintro e w2 ⟨rfl,hb2⟩
   clear cK c0 c1 c2 c3 c4 c5 c6 c7 c8
   have hk0:=skipTo_le s.data.toList 0 (Nat.zero_le _)
   rw [HL.out] at hk0
   have HS : Hid (scanRes s.data.toList = scanF s.data.toList (s.size + 1) (skipTo s.data.toList 0) []):=by rw [HR.out,HL.out]; rfl
   clear HR
   generalize skipTo s.data.toList 0 = k0 at *
   go_wp2_with fail
   go_loopw [2,3] (fun v i wr => ∃ (k f : Nat) (acc : List TkA) (ao : Option Addr) (cv : Nat),k ≤ s.size ∧ i = .int .i64 k ∧ v = .slice ao acc.length cv ∧ wr.ownsRow W.heap.size 56 4 (.slice ao acc.length cv) acc.length (tksCells acc) ∧ Below W.heap.size W wr ∧ acc.length ≤ 20000 ∧ Hid (s.size - k < f ∧ scanRes s.data.toList = scanF s.data.toList f k acc)) (fun _ i _ => s.size - (intOf i).toNat)
   case atStart => exact ⟨k0,s.size + 1,[],none,0,hk0,rfl,rfl,World.ownsRow_nil _ _ _ _,hb2,Nat.zero_le _,by omega,HS.out⟩
   case round =>
    obtain ⟨k,f,acc,ao,cv,hk,rfl,rfl,hown,hbr,hacc,HF⟩:=hrel
    clear HS hk0 hb2
    have hzr:=hbr.size
    obtain ⟨r0,r1,r2,r3,r4,r5,r6,r7,r8⟩:=hRd.later hbr (by rw [hz]; exact Nat.lt_succ_self _)
    have hA' : Alpha a w.heap.size wr:=hA.later (Same.of_below hbr)
    have hG' : Gl wr:=hG0.later hbr
    have hbw : Below w.heap.size w wr:=hb0.trans (hbr.mono hzW)
    by_cases hlt : k < s.size
    · by_cases h20 : acc.length = 20000
      · have h20' : ((acc.length : Int) == 20000) = true:=by rw [h20]; rfl
        have HX : Hid (scanRes s.data.toList = ([],k,4)):=HF.out.2.trans (scanF_large (by have:=HF.out.1; omega) (by rw [HL.out]; exact hlt) h20)
        clear h20
        go_wp2
        go_ret3
        exact ⟨_,by rw [HX.out]; rfl,by rw [HX.out]; exact World.ownsRow_nil _ _ _ _,hbw⟩
      · have h20' : ((acc.length : Int) == 20000) = false:=by rw [beq_eq_false_iff_ne]; omega
        have cT:=token_all a w.heap.size wr hA' hG' s hle k hlt
        cases ht : tokL s.data.toList k with
        | none =>
         rw [ht] at cT
         have HX : Hid (scanRes s.data.toList = ([],k,3)):=HF.out.2.trans (scanF_fault (by have:=HF.out.1; omega) (by rw [HL.out]; exact hlt) h20 ht)
         change Calls Tryz.prog 57 _ _ (fun e w' => e = .returned noTok ∧ _) at cT
         clear ht h20
         go_wp2_with fail
         refine cT.mono ?_
         rintro e w3 ⟨rfl,hb3⟩
         go_wp2
         go_ret3
         exact ⟨_,by rw [HX.out]; rfl,by rw [HX.out]; exact World.ownsRow_nil _ _ _ _,(hbw.trans (hb3.mono (by omega))).alloc (by have:=hb3.size; omega) _⟩
        | some x =>
         obtain ⟨kd,tx,nu,en⟩:=x
         rw [ht] at cT
         have hen:=tokL_end (by rw [HL.out]; exact hlt) ht
         rw [HL.out] at hen
         obtain ⟨hen1,hen2⟩:=hen
         have HX : Hid (∃ g,f = g + 1 ∧ scanRes s.data.toList = scanF s.data.toList g (skipTo s.data.toList en) (acc ++ [(kd,tx,nu,k)])):=by
          obtain ⟨h1,h2⟩:=HF.out
          match f,h1,h2 with
          | g + 1,_,h2 => exact ⟨g,rfl,h2.trans (scanF_step (by rw [HL.out]; exact hlt) h20 ht)⟩
         change Calls Tryz.prog 57 _ _ (fun e w' => e = .returned (.tuple #[tokV kd ⟨tx.toArray⟩ nu k,.int .i64 en,.bool true]) ∧ _) at cT
         clear ht
         go_wp2_with fail
         refine cT.mono ?_
         rintro e w3 ⟨rfl,hb3⟩
         have hown2 : ((w3.alloc (.cells #[.int .i64 kd,.string ⟨tx.toArray⟩,.int .i64 nu,.int .i64 k] 56)).alloc (.cells #[.int .i64 kd,.string ⟨tx.toArray⟩,.int .i64 nu,.int .i64 k] 56)).ownsRow W.heap.size 56 4 (.slice ao acc.length cv) acc.length (tksCells acc):=((ownsRow_later hb3 hown).alloc _).alloc _
         have hb4 : Below W.heap.size W ((w3.alloc (.cells #[.int .i64 kd,.string ⟨tx.toArray⟩,.int .i64 nu,.int .i64 k] 56)).alloc (.cells #[.int .i64 kd,.string ⟨tx.toArray⟩,.int .i64 nu,.int .i64 k] 56)):=((hbr.trans (hb3.mono hzr)).alloc (by have:=hb3.size; omega) _).alloc (by have:=hb3.size; simp; omega) _
         have hlw:=hown2.lt
         have hz3:=hb3.size
         clear hown cT
         obtain ⟨i0,hi,hz0,hz1,hz2⟩:=info_parts Tryz.info56
         go_wp2_with (at_builtin; refine wpList_append_own _ rfl _ _ 48 rfl W.heap.size 56 i0 _ 4 40 Tryz.underlying48 hi hz0 hz1 hz2 rfl (by decide) _ _ _ rfl hown2 ⟨w3.heap.size + 1,0,none⟩ 1 1 [.int .i64 kd,.string ⟨tx.toArray⟩,.int .i64 nu,.int .i64 k] rfl rfl ?c1 ?c2 ?c3 ?c4 ?c5 ?_)
         case c1 =>
          intro j u hj
          match j,hj with
          | 0,hj => simp at hj; subst hj; simp [Addr.add]
          | 1,hj => simp at hj; subst hj; simp [Addr.add]
          | 2,hj => simp at hj; subst hj; simp [Addr.add]
          | 3,hj => simp at hj; subst hj; simp [Addr.add]
         case c2 => intro u hu; simp at hu; rcases hu with rfl | rfl | rfl | rfl <;> rfl
         case c3 => unfold maxLen; omega
         case c4 => omega
         case c5 => simp; omega
         intro v5 w5 hown5 hgr5 _
         have hb5 : Below W.heap.size W w5:=hb4.grown hgr5 (by simp; omega) (fun k hk => (hlw k hk).1)
         clear hown2 hb4 hgr5 hlw hi hz0 hz1 hz2 i0
         obtain ⟨ao5,cv5,hv5⟩:=owns_form hown5
         rw [hv5]
         rw [hv5] at hown5
         clear hv5
         have hcells : tksCells acc ++ [.int .i64 kd,.string ⟨tx.toArray⟩,.int .i64 nu,.int .i64 k] = tksCells (acc ++ [(kd,tx,nu,k)]):=by simp [tksCells,tkCells]
         rw [hcells] at hown5
         clear hcells r0 r1 r2 r3 r4 r5 r6 r7 r8
         have hz5:=hb5.size
         rw [← hz] at hown5
         obtain ⟨r0,r1,r2,r3,r4,r5,r6,r7,r8⟩:=hRd.later hb5 (by rw [hz]; exact Nat.lt_succ_self _)
         have cK:=skip_any a w.heap.size w5 (hA.later (Same.of_below hb5)) s hs en hen2
         have hk5:=skipTo_le s.data.toList en (by rw [HL.out]; exact hen2)
         rw [HL.out] at hk5
         have hk6:=skipTo_ge s.data.toList en
         have HN : Hid (∃ g,s.size - skipTo s.data.toList en < g ∧ scanRes s.data.toList = scanF s.data.toList g (skipTo s.data.toList en) (acc ++ [(kd,tx,nu,k)])):=by
          obtain ⟨g,h1,h2⟩:=HX.out
          exact ⟨g,by have:=HF.out.1; omega,h2⟩
         clear HX
         generalize skipTo s.data.toList en = k5 at *
         go_wp2_with fail
         refine cK.mono ?_
         rintro e w6 ⟨rfl,hb6⟩
         have hown6:=ownsRow_later hb6 hown5
         have hb7 : Below W.heap.size W w6:=hb5.trans (hb6.mono hz5)
         clear hown5 cK hb6
         obtain ⟨g,hg1,hg2⟩:=HN.out
         have HG : Hid (s.size - k5 < g ∧ scanRes s.data.toList = scanF s.data.toList g k5 (acc ++ [(kd,tx,nu,k)])):=⟨hg1,hg2⟩
         clear hg1 hg2 HN
         go_wp2
         go_roundw
         case rel => exact ⟨k5,g,acc ++ [(kd,tx,nu,k)],ao5,cv5,hk5,rfl,by simp,by simpa using hown6,hb7,by simp; omega,HG⟩
         case measure => simp [intOf]; omega
    · have HX : Hid (scanRes s.data.toList = (acc,0,0)):=HF.out.2.trans (scanF_end (by have:=HF.out.1; omega) (by rw [HL.out]; exact hlt))
      go_wp2
      go_ret3
      exact ⟨_,by rw [HX.out]; rfl,by rw [HX.out]; exact hown.mono hzW,hbw⟩
end Go.Proofs.YtffnaknidofobaaGreatDoor
