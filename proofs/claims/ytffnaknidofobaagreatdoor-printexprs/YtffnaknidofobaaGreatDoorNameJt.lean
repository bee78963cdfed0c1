/- The reader's names. -/
import Derived.Test.YtffnaknidofobaaGreatDoorSkipJt
namespace Go.Proofs.YtffnaknidofobaaGreatDoor
open Go.RowKit
abbrev tokV (kind : Int) (text : ByteArray) (num : Int) (at_ : Int) : Value:=.agg #[.int .i64 kind,.string text,.int .i64 num,.int .i64 at_]
abbrev noTok : Value:=.tuple #[tokV 0 ⟨#[]⟩ 0 0,.int .i64 0,.bool false]
set_option maxRecDepth 20000 in
theorem boxRd2 (a : AB) (s : ByteArray) (B : Nat) (w : World) (hA : Alpha a B w) :
    ∃ W,(w.alloc (Obj.cells #[.func (.func a.g0) #[] a.l0,.func (.func a.g1) #[] a.l1,.func (.func a.g2) #[] a.l2,.func (.func a.g3) #[] a.l3,.func (.func a.g4) #[] a.l4,.func (.func a.g5) #[] a.l5,.func (.func a.g6) #[] a.l6,.func (.func a.g7) #[] a.l7,.string s] 79)).alloc (Obj.cells #[.int .i64 0,.string ⟨#[]⟩,.int .i64 0,.int .i64 0] 56) = W ∧
      Alpha a B W ∧ Below w.heap.size w W ∧ W.heap.size = w.heap.size + 2 ∧
      (W.cell? ⟨w.heap.size,0,none⟩ = some (.func (.func a.g0) #[] a.l0) ∧ W.cell? ⟨w.heap.size,1,none⟩ = some (.func (.func a.g1) #[] a.l1) ∧ W.cell? ⟨w.heap.size,2,none⟩ = some (.func (.func a.g2) #[] a.l2) ∧
      W.cell? ⟨w.heap.size,3,none⟩ = some (.func (.func a.g3) #[] a.l3) ∧ W.cell? ⟨w.heap.size,4,none⟩ = some (.func (.func a.g4) #[] a.l4) ∧ W.cell? ⟨w.heap.size,5,none⟩ = some (.func (.func a.g5) #[] a.l5) ∧
      W.cell? ⟨w.heap.size,6,none⟩ = some (.func (.func a.g6) #[] a.l6) ∧ W.cell? ⟨w.heap.size,7,none⟩ = some (.func (.func a.g7) #[] a.l7) ∧ W.cell? ⟨w.heap.size,8,none⟩ = some (.string s)) ∧
      (W.cell? ⟨w.heap.size + 1,0,none⟩ = some (.int .i64 0) ∧ W.cell? ⟨w.heap.size + 1,1,none⟩ = some (.string ⟨#[]⟩) ∧ W.cell? ⟨w.heap.size + 1,2,none⟩ = some (.int .i64 0) ∧ W.cell? ⟨w.heap.size + 1,3,none⟩ = some (.int .i64 0)) ∧
      (∀ o,W.frozen? ⟨w.heap.size + 1,o,none⟩ = false):=by
  obtain ⟨W1,h1,hA1,hb1,hz1,c⟩:=boxRd a s B w hA
  rw [h1]
  have hb2 : Below W1.heap.size W1 (W1.alloc (Obj.cells #[.int .i64 0,.string ⟨#[]⟩,.int .i64 0,.int .i64 0] 56)):=(Below.refl _ _).alloc (Nat.le_refl _) _
  have hc : ∀ j,(W1.alloc (Obj.cells #[.int .i64 0,.string ⟨#[]⟩,.int .i64 0,.int .i64 0] 56)).cell? ⟨w.heap.size,j,none⟩ = W1.cell? ⟨w.heap.size,j,none⟩:=fun j => hb2.cell (p:=⟨w.heap.size,j,none⟩) (by rw [hz1]; exact Nat.lt_succ_self _)
  refine ⟨_,rfl,hA1.later (Same.of_below hb2),hb1.trans (hb2.mono (by omega)),by simp [hz1],?_,?_,?_⟩
  · simp only [hc]; exact c
  · rw [← hz1]; simp
  · intro o; rw [← hz1]; simp
set_option maxRecDepth 20000 in
theorem put4 (b : Nat) (w : World) (v0 v1 v2 v3 : Value) (W : World) {u0 u1 u2 u3 : Value}
    (c0 : w.cell? ⟨b,0,none⟩ = some u0) (c1 : w.cell? ⟨b,1,none⟩ = some u1) (c2 : w.cell? ⟨b,2,none⟩ = some u2) (c3 : w.cell? ⟨b,3,none⟩ = some u3)
    (hW : ((((w.setCell ⟨b,0,none⟩ v0).setCell ⟨b,1,none⟩ v1).setCell ⟨b,2,none⟩ v2).setCell ⟨b,3,none⟩ v3) = W) :
    Same (b + 1) w W ∧ (∀ B a,B ≤ b → Below B a w → Below B a W) ∧
    (W.cell? ⟨b,0,none⟩ = some v0 ∧ W.cell? ⟨b,1,none⟩ = some v1 ∧ W.cell? ⟨b,2,none⟩ = some v2 ∧ W.cell? ⟨b,3,none⟩ = some v3):=by
  subst hW
  refine ⟨?_,?_,?_⟩
  · have key : ∀ (a : World) (j : Nat) (v : Value),Same (b + 1) w a → Same (b + 1) w (a.setCell ⟨b,j,none⟩ v):=fun a j v h => h.setCell (p:=⟨b,j,none⟩) (Nat.lt_succ_self b) v
    exact key _ _ _ (key _ _ _ (key _ _ _ (key _ _ _ (Same.refl _ w))))
  · intro B a hB hw
    have key : ∀ (x : World) (j : Nat) (v : Value),Below B a x → Below B a (x.setCell ⟨b,j,none⟩ v):=fun x j v h => h.setCell (p:=⟨b,j,none⟩) hB v
    exact key _ _ _ (key _ _ _ (key _ _ _ (key _ _ _ hw)))
  · refine ⟨?_,?_,?_,?_⟩ <;> simp [go_sem,c0,c1,c2,c3]
def kindOf (l : List UInt8) : Int:=if wordP l then 5 else 1
set_option maxRecDepth 20000 in
theorem kindOf_word {l : List UInt8} (h : wordP l = true) : kindOf l = 5:=by simp [kindOf,h]
set_option maxRecDepth 20000 in
theorem kindOf_name {l : List UInt8} (h : wordP l = false) : kindOf l = 1:=by simp [kindOf,h]
/-- The facts on the two blocks of a form's call carry over to a later world. -/
theorem later4 {n : Nat} {s : ByteArray} {W w' : World} (hz : W.heap.size = n + 2) (hb : Below W.heap.size W w') (c8 : W.cell? ⟨n,8,none⟩ = some (.string s))
    (t0 : W.cell? ⟨n + 1,0,none⟩ = some (.int .i64 0)) (t1 : W.cell? ⟨n + 1,1,none⟩ = some (.string ⟨#[]⟩)) (t2 : W.cell? ⟨n + 1,2,none⟩ = some (.int .i64 0)) (t3 : W.cell? ⟨n + 1,3,none⟩ = some (.int .i64 0)) (tf : ∀ o,W.frozen? ⟨n + 1,o,none⟩ = false) :
    w'.cell? ⟨n,8,none⟩ = some (.string s) ∧ w'.cell? ⟨n + 1,0,none⟩ = some (.int .i64 0) ∧ w'.cell? ⟨n + 1,1,none⟩ = some (.string ⟨#[]⟩) ∧ w'.cell? ⟨n + 1,2,none⟩ = some (.int .i64 0) ∧ w'.cell? ⟨n + 1,3,none⟩ = some (.int .i64 0) ∧ (∀ o,w'.frozen? ⟨n + 1,o,none⟩ = false):=by
  have a1 : n < W.heap.size:=by omega
  have a2 : n + 1 < W.heap.size:=by omega
  exact ⟨(hb.cell (p:=⟨n,8,none⟩) a1).trans c8,(hb.cell (p:=⟨n + 1,0,none⟩) a2).trans t0,(hb.cell (p:=⟨n + 1,1,none⟩) a2).trans t1,(hb.cell (p:=⟨n + 1,2,none⟩) a2).trans t2,(hb.cell (p:=⟨n + 1,3,none⟩) a2).trans t3,fun o => (hb.frozen (p:=⟨n + 1,o,none⟩) a2).trans (tf o)⟩
set_option maxRecDepth 20000 in
set_option maxHeartbeats 1000000 in
theorem name_long (a : AB) (B : Nat) (w : World) (hA : Alpha a B w) (s : ByteArray) (hs : s.size ≤ 65536) (k : Nat) (hk : k < s.size) (hlong : 64 < endOf innerP s.data.toList k - k) :
    Calls Tryz.prog 91 #[a.rd s,.int .i64 k] w fun e w' => e = .returned noTok ∧ Below w.heap.size w w':=by
  have hll : s.data.toList.length = s.size:=by simp
  have h2:=endOf_le innerP s.data.toList k (by omega)
  rw [hll] at h2
  clear hll
  go_enter Tryz.func91,Tryz.ntmps91
  go_wp2_with fail
  obtain ⟨W,hWq,hA',hb,hz,⟨_,_,_,c3,_,_,_,_,c8⟩,⟨t0,t1,t2,t3⟩,tf⟩:=boxRd2 a s B w hA
  rw [hWq]
  clear hWq hA
  have cE:=end_any a.g3 a.l3 innerP B W W hA'.e3 hA'.inner (Same.refl _ _) s (by unfold maxLen; omega) k (by omega)
  generalize endOf innerP s.data.toList k = e1 at *
  refine cE.mono ?_
  rintro e w' ⟨rfl,q,rfl⟩
  go_wp2
  generalize hWf : (((((W.drewN q).setCell ⟨w.heap.size + 1,0,none⟩ (.int .i64 0)).setCell ⟨w.heap.size + 1,1,none⟩ (.string ⟨#[]⟩)).setCell ⟨w.heap.size + 1,2,none⟩ (.int .i64 0)).setCell ⟨w.heap.size + 1,3,none⟩ (.int .i64 0)) = Wf
  obtain ⟨_,hw4,d0,d1,d2,d3⟩:=put4 (w.heap.size + 1) (W.drewN q) _ _ _ _ Wf t0 t1 t2 t3 hWf
  clear hWf
  exact bodyPost_ret (v:=.tuple #[.agg #[.int .i64 0,.string ⟨#[]⟩,.int .i64 0,.int .i64 0],.int .i64 0,.bool false]) (by simp [results,Tryz.results91,go_sem,d0,d1,d2,d3]) rfl ⟨rfl,hw4 _ _ (Nat.le_succ _) (below_drewN hb _)⟩
set_option maxRecDepth 20000 in
set_option maxHeartbeats 1000000 in
theorem name_ok (a : AB) (B : Nat) (w : World) (hA : Alpha a B w) (s : ByteArray) (hs : s.size ≤ 65536) (k : Nat) (hk : k < s.size) (e1 : Nat) (he1 : endOf innerP s.data.toList k = e1) (hshort : ¬ 64 < e1 - k) :
    Calls Tryz.prog 91 #[a.rd s,.int .i64 k] w fun e w' => e = .returned (.tuple #[tokV (kindOf (s.extract k e1).toList) (s.extract k e1) 0 k,.int .i64 e1,.bool true]) ∧ Below w.heap.size w w':=by
  have hll : s.data.toList.length = s.size:=by simp
  have h1:=endOf_ge innerP s.data.toList k
  have h2:=endOf_le innerP s.data.toList k (by omega)
  rw [hll,he1] at h2
  rw [he1] at h1
  clear hll
  go_enter Tryz.func91,Tryz.ntmps91
  go_wp2_with fail
  obtain ⟨W,hWq,hA',hb,hz,⟨_,_,_,c3,_,_,_,_,c8⟩,⟨t0,t1,t2,t3⟩,tf⟩:=boxRd2 a s B w hA
  rw [hWq]
  clear hWq hA
  have cE:=end_any a.g3 a.l3 innerP B W W hA'.e3 hA'.inner (Same.refl _ _) s (by unfold maxLen; omega) k (by omega)
  rw [he1] at cE
  clear he1
  refine cE.mono ?_
  rintro e w' ⟨rfl,q,rfl⟩
  go_wp2_with fail
  have hx : (s.extract k e1).size ≤ 281474976710656:=by simp; omega
  refine (clone_any _ _ hx).mono ?_
  rintro e w2 ⟨rfl,hb2⟩
  obtain ⟨_,s0,s1,s2,s3,sf⟩:=later4 hz (W:=W) (w':=w2) ⟨hb2.os,hb2.tape,hb2.output,hb2.size,hb2.block⟩ c8 t0 t1 t2 t3 tf
  have hb3 : Below w.heap.size w w2:=hb.trans (Below.mono (B:=W.heap.size) ⟨hb2.os,hb2.tape,hb2.output,hb2.size,hb2.block⟩ (by omega))
  clear c8 t0 t1 t2 t3 tf c3 hb2
  have cW:=isWord_any (s.extract k e1) w2
  cases hw : wordP (s.extract k e1).toList <;> rw [hw] at cW
  · have HK : Hid (kindOf (s.extract k e1).toList = 1):=kindOf_name hw
    clear hw
    go_wp2_with fail
    refine cW.mono ?_
    rintro e w' ⟨rfl,rfl⟩
    go_wp2
    generalize hWf : (((((w').setCell ⟨w.heap.size + 1,0,none⟩ (.int .i64 1)).setCell ⟨w.heap.size + 1,1,none⟩ (.string (s.extract k e1))).setCell ⟨w.heap.size + 1,2,none⟩ (.int .i64 0)).setCell ⟨w.heap.size + 1,3,none⟩ (.int .i64 k)) = Wf
    obtain ⟨_,hw4,d0,d1,d2,d3⟩:=put4 (w.heap.size + 1) (w') _ _ _ _ Wf s0 s1 s2 s3 hWf
    clear hWf
    exact bodyPost_ret (v:=.tuple #[.agg #[.int .i64 1,.string (s.extract k e1),.int .i64 0,.int .i64 k],.int .i64 e1,.bool true]) (by simp [results,Tryz.results91,go_sem,d0,d1,d2,d3]) rfl ⟨by rw [HK.out],hw4 _ _ (Nat.le_succ _) hb3⟩
  · have HK : Hid (kindOf (s.extract k e1).toList = 5):=kindOf_word hw
    clear hw
    go_wp2_with fail
    refine cW.mono ?_
    rintro e w' ⟨rfl,rfl⟩
    go_wp2
    generalize hWf : (((((w').setCell ⟨w.heap.size + 1,0,none⟩ (.int .i64 5)).setCell ⟨w.heap.size + 1,1,none⟩ (.string (s.extract k e1))).setCell ⟨w.heap.size + 1,2,none⟩ (.int .i64 0)).setCell ⟨w.heap.size + 1,3,none⟩ (.int .i64 k)) = Wf
    obtain ⟨_,hw4,d0,d1,d2,d3⟩:=put4 (w.heap.size + 1) (w') _ _ _ _ Wf s0 s1 s2 s3 hWf
    clear hWf
    exact bodyPost_ret (v:=.tuple #[.agg #[.int .i64 5,.string (s.extract k e1),.int .i64 0,.int .i64 k],.int .i64 e1,.bool true]) (by simp [results,Tryz.results91,go_sem,d0,d1,d2,d3]) rfl ⟨by rw [HK.out],hw4 _ _ (Nat.le_succ _) hb3⟩
end Go.Proofs.YtffnaknidofobaaGreatDoor

namespace Go.Proofs.YtffnaknidofobaaGreatDoor
open Go.RowKit
set_option maxRecDepth 20000 in
set_option maxHeartbeats 1000000 in
theorem mark_s0_end (a : AB) (B : Nat) (w : World) (hA : Alpha a B w) (s : ByteArray) (hs : s.size ≤ 65536) (k : Nat) (hk : k < s.size) (hsg : singleP s[k] = false) (hk2 : ¬ k + 2 ≤ s.size) :
    Calls Tryz.prog 94 #[a.rd s,.int .i64 k] w fun e w' => e = .returned noTok ∧ Below w.heap.size w w':=by
  go_enter Tryz.func94,Tryz.ntmps94
  go_wp2_with fail
  obtain ⟨W,hWq,hA',hb,hz,⟨_,_,_,_,_,_,_,c7,c8⟩,⟨t0,t1,t2,t3⟩,tf⟩:=boxRd2 a s B w hA
  rw [hWq]
  clear hWq hA
  have cS : ∀ n,Calls Tryz.prog a.g7 (#[.int .u8 (s[k]).toNat] ++ a.l7) (W.drewN n) _:=fun n => hA'.single (W.drewN n) s[k] ((Same.refl _ _).drewN n)
  rw [hsg] at cS
  have eg : ∀ args w,(callFunc a.g7 args).run Tryz.prog w = .ok (.enter a.g7 args) w:=hA'.e7
  go_quiet ((go_at_fn a.g7; exact Calls.quiet_of (cS _)))
  go_wp2
  generalize hWf : (((((W.drewN nq).setCell ⟨w.heap.size + 1,0,none⟩ (.int .i64 0)).setCell ⟨w.heap.size + 1,1,none⟩ (.string ⟨#[]⟩)).setCell ⟨w.heap.size + 1,2,none⟩ (.int .i64 0)).setCell ⟨w.heap.size + 1,3,none⟩ (.int .i64 0)) = Wf
  obtain ⟨_,hw4,d0,d1,d2,d3⟩:=put4 (w.heap.size + 1) (W.drewN nq) _ _ _ _ Wf t0 t1 t2 t3 hWf
  clear hWf
  exact bodyPost_ret (v:=.tuple #[.agg #[.int .i64 0,.string ⟨#[]⟩,.int .i64 0,.int .i64 0],.int .i64 0,.bool false]) (by simp [results,Tryz.results94,go_sem,d0,d1,d2,d3]) rfl ⟨rfl,hw4 _ _ (Nat.le_succ _) (below_drewN hb _)⟩
set_option maxRecDepth 20000 in
set_option maxHeartbeats 1000000 in
theorem mark_s0_no (a : AB) (B : Nat) (w : World) (hA : Alpha a B w) (s : ByteArray) (hs : s.size ≤ 65536) (k : Nat) (hk : k < s.size) (hsg : singleP s[k] = false) (hk2 : k + 2 ≤ s.size) (hp : pairP (s.extract k (k + 2)).toList = false) :
    Calls Tryz.prog 94 #[a.rd s,.int .i64 k] w fun e w' => e = .returned noTok ∧ Below w.heap.size w w':=by
  go_enter Tryz.func94,Tryz.ntmps94
  go_wp2_with fail
  obtain ⟨W,hWq,hA',hb,hz,⟨_,_,_,_,_,_,_,c7,c8⟩,⟨t0,t1,t2,t3⟩,tf⟩:=boxRd2 a s B w hA
  rw [hWq]
  clear hWq hA
  have cS : ∀ n,Calls Tryz.prog a.g7 (#[.int .u8 (s[k]).toNat] ++ a.l7) (W.drewN n) _:=fun n => hA'.single (W.drewN n) s[k] ((Same.refl _ _).drewN n)
  rw [hsg] at cS
  have eg : ∀ args w,(callFunc a.g7 args).run Tryz.prog w = .ok (.enter a.g7 args) w:=hA'.e7
  go_quiet ((go_at_fn a.g7; exact Calls.quiet_of (cS _)))
  go_wp2_with fail
  have cP:=isPair_any (s.extract k (k + 2)) (W.drewN nq)
  rw [hp] at cP
  refine cP.mono ?_
  rintro e w' ⟨rfl,rfl⟩
  go_wp2
  generalize hWf : (((((W.drewN nq).setCell ⟨w.heap.size + 1,0,none⟩ (.int .i64 0)).setCell ⟨w.heap.size + 1,1,none⟩ (.string ⟨#[]⟩)).setCell ⟨w.heap.size + 1,2,none⟩ (.int .i64 0)).setCell ⟨w.heap.size + 1,3,none⟩ (.int .i64 0)) = Wf
  obtain ⟨_,hw4,d0,d1,d2,d3⟩:=put4 (w.heap.size + 1) (W.drewN nq) _ _ _ _ Wf t0 t1 t2 t3 hWf
  clear hWf
  exact bodyPost_ret (v:=.tuple #[.agg #[.int .i64 0,.string ⟨#[]⟩,.int .i64 0,.int .i64 0],.int .i64 0,.bool false]) (by simp [results,Tryz.results94,go_sem,d0,d1,d2,d3]) rfl ⟨rfl,hw4 _ _ (Nat.le_succ _) (below_drewN hb _)⟩
set_option maxRecDepth 20000 in
set_option maxHeartbeats 1000000 in
theorem mark_s0_yes (a : AB) (B : Nat) (w : World) (hA : Alpha a B w) (s : ByteArray) (hs : s.size ≤ 65536) (k : Nat) (hk : k < s.size) (hsg : singleP s[k] = false) (hk2 : k + 2 ≤ s.size) (hp : pairP (s.extract k (k + 2)).toList = true) :
    Calls Tryz.prog 94 #[a.rd s,.int .i64 k] w fun e w' => e = .returned (.tuple #[tokV 4 (s.extract k (k + 2)) 0 k,.int .i64 (k + 2),.bool true]) ∧ Below w.heap.size w w':=by
  go_enter Tryz.func94,Tryz.ntmps94
  go_wp2_with fail
  obtain ⟨W,hWq,hA',hb,hz,⟨_,_,_,_,_,_,_,c7,c8⟩,⟨t0,t1,t2,t3⟩,tf⟩:=boxRd2 a s B w hA
  rw [hWq]
  clear hWq hA
  have cS : ∀ n,Calls Tryz.prog a.g7 (#[.int .u8 (s[k]).toNat] ++ a.l7) (W.drewN n) _:=fun n => hA'.single (W.drewN n) s[k] ((Same.refl _ _).drewN n)
  rw [hsg] at cS
  have eg : ∀ args w,(callFunc a.g7 args).run Tryz.prog w = .ok (.enter a.g7 args) w:=hA'.e7
  go_quiet ((go_at_fn a.g7; exact Calls.quiet_of (cS _)))
  go_wp2_with fail
  have cP:=isPair_any (s.extract k (k + 2)) (W.drewN nq)
  rw [hp] at cP
  refine cP.mono ?_
  rintro e w' ⟨rfl,rfl⟩
  go_wp2_with fail
  have hx : (s.extract k (k + 2)).size ≤ 281474976710656:=by simp; omega
  refine (clone_any _ _ hx).mono ?_
  rintro e w2 ⟨rfl,hb2⟩
  obtain ⟨_,s0,s1,s2,s3,sf⟩:=later4 hz (W:=W) (w':=w2) ⟨hb2.os,hb2.tape,hb2.output,hb2.size,hb2.block⟩ c8 t0 t1 t2 t3 tf
  have hb3 : Below w.heap.size w w2:=hb.trans (Below.mono (B:=W.heap.size) ⟨hb2.os,hb2.tape,hb2.output,hb2.size,hb2.block⟩ (by omega))
  clear c8 t0 t1 t2 t3 tf c7 hb2
  go_wp2
  generalize hWf : (((((w2).setCell ⟨w.heap.size + 1,0,none⟩ (.int .i64 4)).setCell ⟨w.heap.size + 1,1,none⟩ (.string (s.extract k (k + 2)))).setCell ⟨w.heap.size + 1,2,none⟩ (.int .i64 0)).setCell ⟨w.heap.size + 1,3,none⟩ (.int .i64 k)) = Wf
  obtain ⟨_,hw4,d0,d1,d2,d3⟩:=put4 (w.heap.size + 1) (w2) _ _ _ _ Wf s0 s1 s2 s3 hWf
  clear hWf
  exact bodyPost_ret (v:=.tuple #[.agg #[.int .i64 4,.string (s.extract k (k + 2)),.int .i64 0,.int .i64 k],.int .i64 (k + 2),.bool true]) (by simp [results,Tryz.results94,go_sem,d0,d1,d2,d3]) rfl ⟨rfl,hw4 _ _ (Nat.le_succ _) hb3⟩
set_option maxRecDepth 20000 in
set_option maxHeartbeats 1000000 in
theorem mark_s1_end (a : AB) (B : Nat) (w : World) (hA : Alpha a B w) (s : ByteArray) (hs : s.size ≤ 65536) (k : Nat) (hk : k < s.size) (hsg : singleP s[k] = true) (hk2 : ¬ k + 2 ≤ s.size) :
    Calls Tryz.prog 94 #[a.rd s,.int .i64 k] w fun e w' => e = .returned (.tuple #[tokV 4 (s.extract k (k + 1)) 0 k,.int .i64 (k + 1),.bool true]) ∧ Below w.heap.size w w':=by
  go_enter Tryz.func94,Tryz.ntmps94
  go_wp2_with fail
  obtain ⟨W,hWq,hA',hb,hz,⟨_,_,_,_,_,_,_,c7,c8⟩,⟨t0,t1,t2,t3⟩,tf⟩:=boxRd2 a s B w hA
  rw [hWq]
  clear hWq hA
  have cS : ∀ n,Calls Tryz.prog a.g7 (#[.int .u8 (s[k]).toNat] ++ a.l7) (W.drewN n) _:=fun n => hA'.single (W.drewN n) s[k] ((Same.refl _ _).drewN n)
  rw [hsg] at cS
  have eg : ∀ args w,(callFunc a.g7 args).run Tryz.prog w = .ok (.enter a.g7 args) w:=hA'.e7
  go_quiet ((go_at_fn a.g7; exact Calls.quiet_of (cS _)))
  go_wp2_with fail
  have hx : (s.extract k (k + 1)).size ≤ 281474976710656:=by simp; omega
  refine (clone_any _ _ hx).mono ?_
  rintro e w2 ⟨rfl,hb2⟩
  obtain ⟨_,s0,s1,s2,s3,sf⟩:=later4 hz (W:=W) (w':=w2) ⟨hb2.os,hb2.tape,hb2.output,hb2.size,hb2.block⟩ c8 t0 t1 t2 t3 tf
  have hb3 : Below w.heap.size w w2:=hb.trans (Below.mono (B:=W.heap.size) ⟨hb2.os,hb2.tape,hb2.output,hb2.size,hb2.block⟩ (by omega))
  clear c8 t0 t1 t2 t3 tf c7 hb2
  go_wp2
  generalize hWf : (((((w2).setCell ⟨w.heap.size + 1,0,none⟩ (.int .i64 4)).setCell ⟨w.heap.size + 1,1,none⟩ (.string (s.extract k (k + 1)))).setCell ⟨w.heap.size + 1,2,none⟩ (.int .i64 0)).setCell ⟨w.heap.size + 1,3,none⟩ (.int .i64 k)) = Wf
  obtain ⟨_,hw4,d0,d1,d2,d3⟩:=put4 (w.heap.size + 1) (w2) _ _ _ _ Wf s0 s1 s2 s3 hWf
  clear hWf
  exact bodyPost_ret (v:=.tuple #[.agg #[.int .i64 4,.string (s.extract k (k + 1)),.int .i64 0,.int .i64 k],.int .i64 (k + 1),.bool true]) (by simp [results,Tryz.results94,go_sem,d0,d1,d2,d3]) rfl ⟨rfl,hw4 _ _ (Nat.le_succ _) hb3⟩
set_option maxRecDepth 20000 in
set_option maxHeartbeats 1000000 in
theorem mark_s1_no (a : AB) (B : Nat) (w : World) (hA : Alpha a B w) (s : ByteArray) (hs : s.size ≤ 65536) (k : Nat) (hk : k < s.size) (hsg : singleP s[k] = true) (hk2 : k + 2 ≤ s.size) (hp : pairP (s.extract k (k + 2)).toList = false) :
    Calls Tryz.prog 94 #[a.rd s,.int .i64 k] w fun e w' => e = .returned (.tuple #[tokV 4 (s.extract k (k + 1)) 0 k,.int .i64 (k + 1),.bool true]) ∧ Below w.heap.size w w':=by
  go_enter Tryz.func94,Tryz.ntmps94
  go_wp2_with fail
  obtain ⟨W,hWq,hA',hb,hz,⟨_,_,_,_,_,_,_,c7,c8⟩,⟨t0,t1,t2,t3⟩,tf⟩:=boxRd2 a s B w hA
  rw [hWq]
  clear hWq hA
  have cS : ∀ n,Calls Tryz.prog a.g7 (#[.int .u8 (s[k]).toNat] ++ a.l7) (W.drewN n) _:=fun n => hA'.single (W.drewN n) s[k] ((Same.refl _ _).drewN n)
  rw [hsg] at cS
  have eg : ∀ args w,(callFunc a.g7 args).run Tryz.prog w = .ok (.enter a.g7 args) w:=hA'.e7
  go_quiet ((go_at_fn a.g7; exact Calls.quiet_of (cS _)))
  go_wp2_with fail
  have cP:=isPair_any (s.extract k (k + 2)) (W.drewN nq)
  rw [hp] at cP
  refine cP.mono ?_
  rintro e w' ⟨rfl,rfl⟩
  go_wp2_with fail
  have hx : (s.extract k (k + 1)).size ≤ 281474976710656:=by simp; omega
  refine (clone_any _ _ hx).mono ?_
  rintro e w2 ⟨rfl,hb2⟩
  obtain ⟨_,s0,s1,s2,s3,sf⟩:=later4 hz (W:=W) (w':=w2) ⟨hb2.os,hb2.tape,hb2.output,hb2.size,hb2.block⟩ c8 t0 t1 t2 t3 tf
  have hb3 : Below w.heap.size w w2:=hb.trans (Below.mono (B:=W.heap.size) ⟨hb2.os,hb2.tape,hb2.output,hb2.size,hb2.block⟩ (by omega))
  clear c8 t0 t1 t2 t3 tf c7 hb2
  go_wp2
  generalize hWf : (((((w2).setCell ⟨w.heap.size + 1,0,none⟩ (.int .i64 4)).setCell ⟨w.heap.size + 1,1,none⟩ (.string (s.extract k (k + 1)))).setCell ⟨w.heap.size + 1,2,none⟩ (.int .i64 0)).setCell ⟨w.heap.size + 1,3,none⟩ (.int .i64 k)) = Wf
  obtain ⟨_,hw4,d0,d1,d2,d3⟩:=put4 (w.heap.size + 1) (w2) _ _ _ _ Wf s0 s1 s2 s3 hWf
  clear hWf
  exact bodyPost_ret (v:=.tuple #[.agg #[.int .i64 4,.string (s.extract k (k + 1)),.int .i64 0,.int .i64 k],.int .i64 (k + 1),.bool true]) (by simp [results,Tryz.results94,go_sem,d0,d1,d2,d3]) rfl ⟨rfl,hw4 _ _ (Nat.le_succ _) hb3⟩
set_option maxRecDepth 20000 in
set_option maxHeartbeats 1000000 in
theorem mark_s1_yes (a : AB) (B : Nat) (w : World) (hA : Alpha a B w) (s : ByteArray) (hs : s.size ≤ 65536) (k : Nat) (hk : k < s.size) (hsg : singleP s[k] = true) (hk2 : k + 2 ≤ s.size) (hp : pairP (s.extract k (k + 2)).toList = true) :
    Calls Tryz.prog 94 #[a.rd s,.int .i64 k] w fun e w' => e = .returned (.tuple #[tokV 4 (s.extract k (k + 2)) 0 k,.int .i64 (k + 2),.bool true]) ∧ Below w.heap.size w w':=by
  go_enter Tryz.func94,Tryz.ntmps94
  go_wp2_with fail
  obtain ⟨W,hWq,hA',hb,hz,⟨_,_,_,_,_,_,_,c7,c8⟩,⟨t0,t1,t2,t3⟩,tf⟩:=boxRd2 a s B w hA
  rw [hWq]
  clear hWq hA
  have cS : ∀ n,Calls Tryz.prog a.g7 (#[.int .u8 (s[k]).toNat] ++ a.l7) (W.drewN n) _:=fun n => hA'.single (W.drewN n) s[k] ((Same.refl _ _).drewN n)
  rw [hsg] at cS
  have eg : ∀ args w,(callFunc a.g7 args).run Tryz.prog w = .ok (.enter a.g7 args) w:=hA'.e7
  go_quiet ((go_at_fn a.g7; exact Calls.quiet_of (cS _)))
  go_wp2_with fail
  have cP:=isPair_any (s.extract k (k + 2)) (W.drewN nq)
  rw [hp] at cP
  refine cP.mono ?_
  rintro e w' ⟨rfl,rfl⟩
  go_wp2_with fail
  have hx : (s.extract k (k + 2)).size ≤ 281474976710656:=by simp; omega
  refine (clone_any _ _ hx).mono ?_
  rintro e w2 ⟨rfl,hb2⟩
  obtain ⟨_,s0,s1,s2,s3,sf⟩:=later4 hz (W:=W) (w':=w2) ⟨hb2.os,hb2.tape,hb2.output,hb2.size,hb2.block⟩ c8 t0 t1 t2 t3 tf
  have hb3 : Below w.heap.size w w2:=hb.trans (Below.mono (B:=W.heap.size) ⟨hb2.os,hb2.tape,hb2.output,hb2.size,hb2.block⟩ (by omega))
  clear c8 t0 t1 t2 t3 tf c7 hb2
  go_wp2
  generalize hWf : (((((w2).setCell ⟨w.heap.size + 1,0,none⟩ (.int .i64 4)).setCell ⟨w.heap.size + 1,1,none⟩ (.string (s.extract k (k + 2)))).setCell ⟨w.heap.size + 1,2,none⟩ (.int .i64 0)).setCell ⟨w.heap.size + 1,3,none⟩ (.int .i64 k)) = Wf
  obtain ⟨_,hw4,d0,d1,d2,d3⟩:=put4 (w.heap.size + 1) (w2) _ _ _ _ Wf s0 s1 s2 s3 hWf
  clear hWf
  exact bodyPost_ret (v:=.tuple #[.agg #[.int .i64 4,.string (s.extract k (k + 2)),.int .i64 0,.int .i64 k],.int .i64 (k + 2),.bool true]) (by simp [results,Tryz.results94,go_sem,d0,d1,d2,d3]) rfl ⟨rfl,hw4 _ _ (Nat.le_succ _) hb3⟩
end Go.Proofs.YtffnaknidofobaaGreatDoor
