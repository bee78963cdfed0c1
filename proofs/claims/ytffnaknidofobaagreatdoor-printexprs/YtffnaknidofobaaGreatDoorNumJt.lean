/- The reader's numbers. -/
import Derived.Test.YtffnaknidofobaaGreatDoorNameJt
import Derived.Lib.AtoiErrMem
namespace Go.Proofs.YtffnaknidofobaaGreatDoor
open Go.RowKit
def numFrom (acc : Nat) : List UInt8 → Nat
  | [] => acc
  | c :: r => numFrom (acc * 10 + (c.toNat - 48)) r
def numOf (l : List UInt8) : Nat:=numFrom 0 l
set_option maxRecDepth 20000 in
theorem numFrom_ge (l : List UInt8) (acc : Nat) : acc ≤ numFrom acc l:=by
 induction l generalizing acc with
 | nil => exact Nat.le_refl _
 | cons c r ih => exact Nat.le_trans (by omega) (ih _)
set_option maxRecDepth 20000 in
theorem digit_iff (c : UInt8) : digitP c = true ↔ 48 ≤ c.toNat ∧ c.toNat ≤ 57:=by
 simp [digitP,betweenP]; omega
set_option maxRecDepth 20000 in
theorem parseUintM_digits (M : Nat) (hM : M < 18446744073709551620) (l : List UInt8) (acc : Nat) (h : l.all digitP = true) (ha : acc ≤ M) :
    (M < numFrom acc l → Lib.parseUintM M acc l = .range) ∧ (¬ M < numFrom acc l → Lib.parseUintM M acc l = .ok (numFrom acc l)):=by
  induction l generalizing acc with
  | nil => exact ⟨fun h => absurd h (Nat.not_lt.2 ha),fun _ => rfl⟩
  | cons c r ih =>
   rw [List.all_cons,Bool.and_eq_true] at h
   have hd:=(digit_iff c).1 h.1
   have hg:=numFrom_ge r (acc * 10 + (c.toNat - 48))
   have e : numFrom acc (c :: r) = numFrom (acc * 10 + (c.toNat - 48)) r:=rfl
   have e2 : Lib.parseUintM M acc (c :: r) = if 1844674407370955162 ≤ acc then .range else if M < acc * 10 + (c.toNat - 48) then .range else Lib.parseUintM M (acc * 10 + (c.toNat - 48)) r:=by
    simp only [Lib.parseUintM]
    rw [if_pos hd]
   rw [e,e2]
   by_cases h1 : 1844674407370955162 ≤ acc
   · rw [if_pos h1]; exact ⟨fun _ => rfl,fun hn => absurd (show M < _ by omega) hn⟩
   · rw [if_neg h1]
     by_cases h2 : M < acc * 10 + (c.toNat - 48)
     · rw [if_pos h2]; exact ⟨fun _ => rfl,fun hn => absurd (show M < _ by omega) hn⟩
     · rw [if_neg h2]; exact ih _ h.2 (by omega)
set_option maxRecDepth 20000 in
theorem parseInt_digits (l : List UInt8) (h : l.all digitP = true) (hne : l ≠ []) :
    (9223372036854775808 ≤ numOf l → Lib.parseIntB 64 l = .range) ∧ (¬ 9223372036854775808 ≤ numOf l → Lib.parseIntB 64 l = .ok (numOf l : Int)):=by
  match l,hne with
  | c :: r,_ =>
   have hd:=(digit_iff c).1 (by rw [List.all_cons,Bool.and_eq_true] at h; exact h.1)
   have hp:=parseUintM_digits (2 ^ 64 - 1) (by decide) (c :: r) 0 h (Nat.zero_le _)
   have e1 : (2 ^ 64 - 1 : Nat) = 18446744073709551615:=rfl
   have e2 : (2 ^ (64 - 1) : Nat) = 9223372036854775808:=rfl
   have hn : ¬ c.toNat = 45:=by omega
   have hr : Lib.parseUintM (2 ^ 64 - 1) 0 (c :: r) = .range → Lib.parseIntB 64 (c :: r) = .range:=by
    intro hu
    simp only [Lib.parseIntB,Lib.parseUintB]
    rw [if_neg (by omega : ¬ (c.toNat = 43 ∨ c.toNat = 45)),if_neg (by simp : ¬ c :: r = []),hu]
   have hk : ∀ u,Lib.parseUintM (2 ^ 64 - 1) 0 (c :: r) = .ok u → Lib.parseIntB 64 (c :: r) = if ¬ c.toNat = 45 ∧ 2 ^ (64 - 1) ≤ u then .range else if c.toNat = 45 ∧ 2 ^ (64 - 1) < u then .range else .ok (if c.toNat = 45 then -(u : Int) else u):=by
    intro u hu
    simp only [Lib.parseIntB,Lib.parseUintB]
    rw [if_neg (by omega : ¬ (c.toNat = 43 ∨ c.toNat = 45)),if_neg (by simp : ¬ c :: r = []),hu]
   rw [e1] at hp hr hk
   rw [e2] at hk
   unfold numOf
   generalize numFrom 0 (c :: r) = n at *
   constructor
   · intro h2
     by_cases h1 : 18446744073709551615 < n
     · exact hr (hp.1 h1)
     · rw [hk n (hp.2 h1),if_pos ⟨hn,h2⟩]
   · intro h2
     rw [hk n (hp.2 (by omega)),if_neg (by omega),if_neg (by omega),if_neg hn]
/-- The two sentinel errors of strconv lie where they lie. -/
structure Gl (w : World) : Prop where
  syn : ∃ te pe,w.cell? ⟨1,0,none⟩ = some (.iface te pe)
  rng : ∃ te pe,w.cell? ⟨2,0,none⟩ = some (.iface te pe)
  size : 3 ≤ w.heap.size
set_option maxRecDepth 20000 in
theorem Gl.later {w W : World} (h : Gl w) (hb : Below w.heap.size w W) : Gl W:=by
 obtain ⟨⟨t1,p1,h1⟩,⟨t2,p2,h2⟩,hz⟩:=h
 exact ⟨⟨t1,p1,(hb.cell (p:=⟨1,0,none⟩) (by show 1 < _; omega)).trans h1⟩,⟨t2,p2,(hb.cell (p:=⟨2,0,none⟩) (by show 2 < _; omega)).trans h2⟩,Nat.le_trans hz hb.size⟩
set_option maxRecDepth 20000 in
set_option maxHeartbeats 1000000 in
theorem number_nought (a : AB) (B : Nat) (w : World) (hA : Alpha a B w) (s : ByteArray) (hs : s.size ≤ 65536) (k : Nat) (hk : k < s.size) (e1 : Nat) (he1 : endOf digitP s.data.toList k = e1) (hz0 : ((s[k].toNat : Int) == 48) = true) (hz1 : k + 1 < e1) :
    Calls Tryz.prog 92 #[a.rd s,.int .i64 k] w fun e w' => e = .returned noTok ∧ Below w.heap.size w w':=by
  have hll : s.data.toList.length = s.size:=by simp
  have h1:=endOf_ge digitP s.data.toList k
  have h2:=endOf_le digitP s.data.toList k (by omega)
  rw [hll,he1] at h2
  rw [he1] at h1
  clear hll
  go_enter Tryz.func92,Tryz.ntmps92
  go_wp2_with fail
  obtain ⟨W,hWq,hA',hb,hz,⟨_,_,c2,_,c4,_,_,_,c8⟩,⟨t0,t1,t2,t3⟩,tf⟩:=boxRd2 a s B w hA
  rw [hWq]
  clear hWq hA
  have cE:=end_any a.g4 a.l4 digitP B W W hA'.e4 hA'.digit (Same.refl _ _) s (by unfold maxLen; omega) k (by omega)
  rw [he1] at cE
  clear he1
  refine cE.mono ?_
  rintro e w' ⟨rfl,q,rfl⟩
  go_wp2
  generalize hWf : (((((W.drewN q).setCell ⟨w.heap.size + 1,0,none⟩ (.int .i64 0)).setCell ⟨w.heap.size + 1,1,none⟩ (.string ⟨#[]⟩)).setCell ⟨w.heap.size + 1,2,none⟩ (.int .i64 0)).setCell ⟨w.heap.size + 1,3,none⟩ (.int .i64 0)) = Wf
  obtain ⟨_,hw4,d0,d1,d2,d3⟩:=put4 (w.heap.size + 1) (W.drewN q) _ _ _ _ Wf t0 t1 t2 t3 hWf
  clear hWf
  exact bodyPost_ret (v:=.tuple #[.agg #[.int .i64 0,.string ⟨#[]⟩,.int .i64 0,.int .i64 0],.int .i64 0,.bool false]) (by simp [results,Tryz.results92,go_sem,d0,d1,d2,d3]) rfl ⟨rfl,hw4 _ _ (Nat.le_succ _) (below_drewN hb _)⟩
set_option maxRecDepth 20000 in
set_option maxHeartbeats 1000000 in
theorem number_letter_a (a : AB) (B : Nat) (w : World) (hA : Alpha a B w) (s : ByteArray) (hs : s.size ≤ 65536) (k : Nat) (hk : k < s.size) (e1 : Nat) (he1 : endOf digitP s.data.toList k = e1) (hz0 : ((s[k].toNat : Int) == 48) = false) (hfst : atP firstP s.data.toList e1 = true) :
    Calls Tryz.prog 92 #[a.rd s,.int .i64 k] w fun e w' => e = .returned noTok ∧ Below w.heap.size w w':=by
  have hll : s.data.toList.length = s.size:=by simp
  have h1:=endOf_ge digitP s.data.toList k
  have h2:=endOf_le digitP s.data.toList k (by omega)
  rw [hll,he1] at h2
  rw [he1] at h1
  clear hll
  go_enter Tryz.func92,Tryz.ntmps92
  go_wp2_with fail
  obtain ⟨W,hWq,hA',hb,hz,⟨_,_,c2,_,c4,_,_,_,c8⟩,⟨t0,t1,t2,t3⟩,tf⟩:=boxRd2 a s B w hA
  rw [hWq]
  clear hWq hA
  have cE:=end_any a.g4 a.l4 digitP B W W hA'.e4 hA'.digit (Same.refl _ _) s (by unfold maxLen; omega) k (by omega)
  rw [he1] at cE
  clear he1
  refine cE.mono ?_
  rintro e w' ⟨rfl,q,rfl⟩
  have cA:=at_any a.g2 a.l2 firstP B W (W.drewN q) hA'.e2 hA'.first ((Same.refl _ _).drewN q) s (by unfold maxLen; omega) e1 h2
  rw [hfst] at cA
  go_wp2_with fail
  refine cA.mono ?_
  rintro e w' ⟨rfl,q2,rfl⟩
  go_wp2
  generalize hWf : (((((W.drewN (q + q2)).setCell ⟨w.heap.size + 1,0,none⟩ (.int .i64 0)).setCell ⟨w.heap.size + 1,1,none⟩ (.string ⟨#[]⟩)).setCell ⟨w.heap.size + 1,2,none⟩ (.int .i64 0)).setCell ⟨w.heap.size + 1,3,none⟩ (.int .i64 0)) = Wf
  obtain ⟨_,hw4,d0,d1,d2,d3⟩:=put4 (w.heap.size + 1) (W.drewN (q + q2)) _ _ _ _ Wf t0 t1 t2 t3 hWf
  clear hWf
  exact bodyPost_ret (v:=.tuple #[.agg #[.int .i64 0,.string ⟨#[]⟩,.int .i64 0,.int .i64 0],.int .i64 0,.bool false]) (by simp [results,Tryz.results92,go_sem,d0,d1,d2,d3]) rfl ⟨rfl,hw4 _ _ (Nat.le_succ _) (below_drewN hb _)⟩
set_option maxRecDepth 20000 in
set_option maxHeartbeats 1000000 in
theorem number_ok_a (a : AB) (B : Nat) (w : World) (hA : Alpha a B w) (s : ByteArray) (hs : s.size ≤ 65536) (k : Nat) (hk : k < s.size) (e1 : Nat) (he1 : endOf digitP s.data.toList k = e1) (hz0 : ((s[k].toNat : Int) == 48) = false) (hfst : atP firstP s.data.toList e1 = false) (v : Int) (hv : Lib.parseIntB 64 (s.extract k e1).data.toList = .ok v) :
    Calls Tryz.prog 92 #[a.rd s,.int .i64 k] w fun e w' => e = .returned (.tuple #[tokV 2 ⟨#[]⟩ v k,.int .i64 e1,.bool true]) ∧ Below w.heap.size w w':=by
  have hll : s.data.toList.length = s.size:=by simp
  have h1:=endOf_ge digitP s.data.toList k
  have h2:=endOf_le digitP s.data.toList k (by omega)
  rw [hll,he1] at h2
  rw [he1] at h1
  clear hll
  go_enter Tryz.func92,Tryz.ntmps92
  go_wp2_with fail
  obtain ⟨W,hWq,hA',hb,hz,⟨_,_,c2,_,c4,_,_,_,c8⟩,⟨t0,t1,t2,t3⟩,tf⟩:=boxRd2 a s B w hA
  rw [hWq]
  clear hWq hA
  have cE:=end_any a.g4 a.l4 digitP B W W hA'.e4 hA'.digit (Same.refl _ _) s (by unfold maxLen; omega) k (by omega)
  rw [he1] at cE
  clear he1
  refine cE.mono ?_
  rintro e w' ⟨rfl,q,rfl⟩
  have cA:=at_any a.g2 a.l2 firstP B W (W.drewN q) hA'.e2 hA'.first ((Same.refl _ _).drewN q) s (by unfold maxLen; omega) e1 h2
  rw [hfst] at cA
  go_wp2_with fail
  refine cA.mono ?_
  rintro e w' ⟨rfl,q2,rfl⟩
  go_wp2_with fail
  have cP:=Tryz.strconv_ParseInt_10_at64_ok (s.extract k e1) (by simp; omega) v hv (W.drewN (q + q2))
  refine cP.mono ?_
  rintro e w2 ⟨rfl,hw2⟩
  have hb2 : Below W.heap.size W w2:=by
   rcases hw2 with rfl | ⟨tt,rfl⟩
   · exact below_drewN (Below.refl _ _) _
   · exact (below_drewN (Below.refl _ _) _).trans (Lib.bytesWorld_below (W.drewN (q + q2)) 5 tt)
  obtain ⟨_,s0,s1,s2,s3,sf⟩:=later4 hz (W:=W) (w':=w2) hb2 c8 t0 t1 t2 t3 tf
  have hb3 : Below w.heap.size w w2:=hb.trans (hb2.mono (by omega))
  clear c8 t0 t1 t2 t3 tf c2 c4 hb2
  go_wp2
  generalize hWf : (((((w2).setCell ⟨w.heap.size + 1,0,none⟩ (.int .i64 2)).setCell ⟨w.heap.size + 1,1,none⟩ (.string ⟨#[]⟩)).setCell ⟨w.heap.size + 1,2,none⟩ (.int .i64 v)).setCell ⟨w.heap.size + 1,3,none⟩ (.int .i64 k)) = Wf
  obtain ⟨_,hw4,d0,d1,d2,d3⟩:=put4 (w.heap.size + 1) (w2) _ _ _ _ Wf s0 s1 s2 s3 hWf
  clear hWf
  exact bodyPost_ret (v:=.tuple #[.agg #[.int .i64 2,.string ⟨#[]⟩,.int .i64 v,.int .i64 k],.int .i64 e1,.bool true]) (by simp [results,Tryz.results92,go_sem,d0,d1,d2,d3]) rfl ⟨rfl,hw4 _ _ (Nat.le_succ _) hb3⟩
set_option maxRecDepth 20000 in
set_option maxHeartbeats 1000000 in
theorem number_range_a (a : AB) (B : Nat) (w : World) (hA : Alpha a B w) (s : ByteArray) (hs : s.size ≤ 65536) (k : Nat) (hk : k < s.size) (e1 : Nat) (he1 : endOf digitP s.data.toList k = e1) (hz0 : ((s[k].toNat : Int) == 48) = false) (hfst : atP firstP s.data.toList e1 = false) (hG : Gl w) (hv : Lib.parseIntB 64 (s.extract k e1).data.toList = .range) :
    Calls Tryz.prog 92 #[a.rd s,.int .i64 k] w fun e w' => e = .returned noTok ∧ Below w.heap.size w w':=by
  have hll : s.data.toList.length = s.size:=by simp
  have h1:=endOf_ge digitP s.data.toList k
  have h2:=endOf_le digitP s.data.toList k (by omega)
  rw [hll,he1] at h2
  rw [he1] at h1
  clear hll
  go_enter Tryz.func92,Tryz.ntmps92
  go_wp2_with fail
  obtain ⟨W,hWq,hA',hb,hz,⟨_,_,c2,_,c4,_,_,_,c8⟩,⟨t0,t1,t2,t3⟩,tf⟩:=boxRd2 a s B w hA
  rw [hWq]
  clear hWq hA
  have cE:=end_any a.g4 a.l4 digitP B W W hA'.e4 hA'.digit (Same.refl _ _) s (by unfold maxLen; omega) k (by omega)
  rw [he1] at cE
  clear he1
  refine cE.mono ?_
  rintro e w' ⟨rfl,q,rfl⟩
  have cA:=at_any a.g2 a.l2 firstP B W (W.drewN q) hA'.e2 hA'.first ((Same.refl _ _).drewN q) s (by unfold maxLen; omega) e1 h2
  rw [hfst] at cA
  go_wp2_with fail
  refine cA.mono ?_
  rintro e w' ⟨rfl,q2,rfl⟩
  go_wp2_with fail
  obtain ⟨te,pe,hg1⟩:=(hG.later hb).rng
  have cP:=Tryz.strconv_ParseInt_10_at64_range (s.extract k e1) (by simp; omega) hv (.iface te pe) (W.drewN (q + q2)) hg1 (Or.inr ⟨te,pe,rfl⟩)
  generalize Lib.intSat 64 (s.extract k e1).data.toList = sat at cP
  refine cP.mono ?_
  rintro e w2 ⟨N,rfl,_,_,hw2⟩
  have hb2 : Below W.heap.size W w2:=(below_drewN (Below.refl _ _) _).trans hw2
  clear hg1
  obtain ⟨_,s0,s1,s2,s3,sf⟩:=later4 hz (W:=W) (w':=w2) hb2 c8 t0 t1 t2 t3 tf
  have hb3 : Below w.heap.size w w2:=hb.trans (hb2.mono (by omega))
  clear c8 t0 t1 t2 t3 tf c2 c4 hb2
  go_wp2
  generalize hWf : (((((w2).setCell ⟨w.heap.size + 1,0,none⟩ (.int .i64 0)).setCell ⟨w.heap.size + 1,1,none⟩ (.string ⟨#[]⟩)).setCell ⟨w.heap.size + 1,2,none⟩ (.int .i64 0)).setCell ⟨w.heap.size + 1,3,none⟩ (.int .i64 0)) = Wf
  obtain ⟨_,hw4,d0,d1,d2,d3⟩:=put4 (w.heap.size + 1) (w2) _ _ _ _ Wf s0 s1 s2 s3 hWf
  clear hWf
  exact bodyPost_ret (v:=.tuple #[.agg #[.int .i64 0,.string ⟨#[]⟩,.int .i64 0,.int .i64 0],.int .i64 0,.bool false]) (by simp [results,Tryz.results92,go_sem,d0,d1,d2,d3]) rfl ⟨rfl,hw4 _ _ (Nat.le_succ _) hb3⟩
set_option maxRecDepth 20000 in
set_option maxHeartbeats 1000000 in
theorem number_letter_b (a : AB) (B : Nat) (w : World) (hA : Alpha a B w) (s : ByteArray) (hs : s.size ≤ 65536) (k : Nat) (hk : k < s.size) (e1 : Nat) (he1 : endOf digitP s.data.toList k = e1) (hz0 : ((s[k].toNat : Int) == 48) = true) (hz1 : ¬ k + 1 < e1) (hfst : atP firstP s.data.toList e1 = true) :
    Calls Tryz.prog 92 #[a.rd s,.int .i64 k] w fun e w' => e = .returned noTok ∧ Below w.heap.size w w':=by
  have hll : s.data.toList.length = s.size:=by simp
  have h1:=endOf_ge digitP s.data.toList k
  have h2:=endOf_le digitP s.data.toList k (by omega)
  rw [hll,he1] at h2
  rw [he1] at h1
  clear hll
  go_enter Tryz.func92,Tryz.ntmps92
  go_wp2_with fail
  obtain ⟨W,hWq,hA',hb,hz,⟨_,_,c2,_,c4,_,_,_,c8⟩,⟨t0,t1,t2,t3⟩,tf⟩:=boxRd2 a s B w hA
  rw [hWq]
  clear hWq hA
  have cE:=end_any a.g4 a.l4 digitP B W W hA'.e4 hA'.digit (Same.refl _ _) s (by unfold maxLen; omega) k (by omega)
  rw [he1] at cE
  clear he1
  refine cE.mono ?_
  rintro e w' ⟨rfl,q,rfl⟩
  have cA:=at_any a.g2 a.l2 firstP B W (W.drewN q) hA'.e2 hA'.first ((Same.refl _ _).drewN q) s (by unfold maxLen; omega) e1 h2
  rw [hfst] at cA
  go_wp2_with fail
  refine cA.mono ?_
  rintro e w' ⟨rfl,q2,rfl⟩
  go_wp2
  generalize hWf : (((((W.drewN (q + q2)).setCell ⟨w.heap.size + 1,0,none⟩ (.int .i64 0)).setCell ⟨w.heap.size + 1,1,none⟩ (.string ⟨#[]⟩)).setCell ⟨w.heap.size + 1,2,none⟩ (.int .i64 0)).setCell ⟨w.heap.size + 1,3,none⟩ (.int .i64 0)) = Wf
  obtain ⟨_,hw4,d0,d1,d2,d3⟩:=put4 (w.heap.size + 1) (W.drewN (q + q2)) _ _ _ _ Wf t0 t1 t2 t3 hWf
  clear hWf
  exact bodyPost_ret (v:=.tuple #[.agg #[.int .i64 0,.string ⟨#[]⟩,.int .i64 0,.int .i64 0],.int .i64 0,.bool false]) (by simp [results,Tryz.results92,go_sem,d0,d1,d2,d3]) rfl ⟨rfl,hw4 _ _ (Nat.le_succ _) (below_drewN hb _)⟩
set_option maxRecDepth 20000 in
set_option maxHeartbeats 1000000 in
theorem number_ok_b (a : AB) (B : Nat) (w : World) (hA : Alpha a B w) (s : ByteArray) (hs : s.size ≤ 65536) (k : Nat) (hk : k < s.size) (e1 : Nat) (he1 : endOf digitP s.data.toList k = e1) (hz0 : ((s[k].toNat : Int) == 48) = true) (hz1 : ¬ k + 1 < e1) (hfst : atP firstP s.data.toList e1 = false) (v : Int) (hv : Lib.parseIntB 64 (s.extract k e1).data.toList = .ok v) :
    Calls Tryz.prog 92 #[a.rd s,.int .i64 k] w fun e w' => e = .returned (.tuple #[tokV 2 ⟨#[]⟩ v k,.int .i64 e1,.bool true]) ∧ Below w.heap.size w w':=by
  have hll : s.data.toList.length = s.size:=by simp
  have h1:=endOf_ge digitP s.data.toList k
  have h2:=endOf_le digitP s.data.toList k (by omega)
  rw [hll,he1] at h2
  rw [he1] at h1
  clear hll
  go_enter Tryz.func92,Tryz.ntmps92
  go_wp2_with fail
  obtain ⟨W,hWq,hA',hb,hz,⟨_,_,c2,_,c4,_,_,_,c8⟩,⟨t0,t1,t2,t3⟩,tf⟩:=boxRd2 a s B w hA
  rw [hWq]
  clear hWq hA
  have cE:=end_any a.g4 a.l4 digitP B W W hA'.e4 hA'.digit (Same.refl _ _) s (by unfold maxLen; omega) k (by omega)
  rw [he1] at cE
  clear he1
  refine cE.mono ?_
  rintro e w' ⟨rfl,q,rfl⟩
  have cA:=at_any a.g2 a.l2 firstP B W (W.drewN q) hA'.e2 hA'.first ((Same.refl _ _).drewN q) s (by unfold maxLen; omega) e1 h2
  rw [hfst] at cA
  go_wp2_with fail
  refine cA.mono ?_
  rintro e w' ⟨rfl,q2,rfl⟩
  go_wp2_with fail
  have cP:=Tryz.strconv_ParseInt_10_at64_ok (s.extract k e1) (by simp; omega) v hv (W.drewN (q + q2))
  refine cP.mono ?_
  rintro e w2 ⟨rfl,hw2⟩
  have hb2 : Below W.heap.size W w2:=by
   rcases hw2 with rfl | ⟨tt,rfl⟩
   · exact below_drewN (Below.refl _ _) _
   · exact (below_drewN (Below.refl _ _) _).trans (Lib.bytesWorld_below (W.drewN (q + q2)) 5 tt)
  obtain ⟨_,s0,s1,s2,s3,sf⟩:=later4 hz (W:=W) (w':=w2) hb2 c8 t0 t1 t2 t3 tf
  have hb3 : Below w.heap.size w w2:=hb.trans (hb2.mono (by omega))
  clear c8 t0 t1 t2 t3 tf c2 c4 hb2
  go_wp2
  generalize hWf : (((((w2).setCell ⟨w.heap.size + 1,0,none⟩ (.int .i64 2)).setCell ⟨w.heap.size + 1,1,none⟩ (.string ⟨#[]⟩)).setCell ⟨w.heap.size + 1,2,none⟩ (.int .i64 v)).setCell ⟨w.heap.size + 1,3,none⟩ (.int .i64 k)) = Wf
  obtain ⟨_,hw4,d0,d1,d2,d3⟩:=put4 (w.heap.size + 1) (w2) _ _ _ _ Wf s0 s1 s2 s3 hWf
  clear hWf
  exact bodyPost_ret (v:=.tuple #[.agg #[.int .i64 2,.string ⟨#[]⟩,.int .i64 v,.int .i64 k],.int .i64 e1,.bool true]) (by simp [results,Tryz.results92,go_sem,d0,d1,d2,d3]) rfl ⟨rfl,hw4 _ _ (Nat.le_succ _) hb3⟩
set_option maxRecDepth 20000 in
set_option maxHeartbeats 1000000 in
theorem number_range_b (a : AB) (B : Nat) (w : World) (hA : Alpha a B w) (s : ByteArray) (hs : s.size ≤ 65536) (k : Nat) (hk : k < s.size) (e1 : Nat) (he1 : endOf digitP s.data.toList k = e1) (hz0 : ((s[k].toNat : Int) == 48) = true) (hz1 : ¬ k + 1 < e1) (hfst : atP firstP s.data.toList e1 = false) (hG : Gl w) (hv : Lib.parseIntB 64 (s.extract k e1).data.toList = .range) :
    Calls Tryz.prog 92 #[a.rd s,.int .i64 k] w fun e w' => e = .returned noTok ∧ Below w.heap.size w w':=by
  have hll : s.data.toList.length = s.size:=by simp
  have h1:=endOf_ge digitP s.data.toList k
  have h2:=endOf_le digitP s.data.toList k (by omega)
  rw [hll,he1] at h2
  rw [he1] at h1
  clear hll
  go_enter Tryz.func92,Tryz.ntmps92
  go_wp2_with fail
  obtain ⟨W,hWq,hA',hb,hz,⟨_,_,c2,_,c4,_,_,_,c8⟩,⟨t0,t1,t2,t3⟩,tf⟩:=boxRd2 a s B w hA
  rw [hWq]
  clear hWq hA
  have cE:=end_any a.g4 a.l4 digitP B W W hA'.e4 hA'.digit (Same.refl _ _) s (by unfold maxLen; omega) k (by omega)
  rw [he1] at cE
  clear he1
  refine cE.mono ?_
  rintro e w' ⟨rfl,q,rfl⟩
  have cA:=at_any a.g2 a.l2 firstP B W (W.drewN q) hA'.e2 hA'.first ((Same.refl _ _).drewN q) s (by unfold maxLen; omega) e1 h2
  rw [hfst] at cA
  go_wp2_with fail
  refine cA.mono ?_
  rintro e w' ⟨rfl,q2,rfl⟩
  go_wp2_with fail
  obtain ⟨te,pe,hg1⟩:=(hG.later hb).rng
  have cP:=Tryz.strconv_ParseInt_10_at64_range (s.extract k e1) (by simp; omega) hv (.iface te pe) (W.drewN (q + q2)) hg1 (Or.inr ⟨te,pe,rfl⟩)
  generalize Lib.intSat 64 (s.extract k e1).data.toList = sat at cP
  refine cP.mono ?_
  rintro e w2 ⟨N,rfl,_,_,hw2⟩
  have hb2 : Below W.heap.size W w2:=(below_drewN (Below.refl _ _) _).trans hw2
  clear hg1
  obtain ⟨_,s0,s1,s2,s3,sf⟩:=later4 hz (W:=W) (w':=w2) hb2 c8 t0 t1 t2 t3 tf
  have hb3 : Below w.heap.size w w2:=hb.trans (hb2.mono (by omega))
  clear c8 t0 t1 t2 t3 tf c2 c4 hb2
  go_wp2
  generalize hWf : (((((w2).setCell ⟨w.heap.size + 1,0,none⟩ (.int .i64 0)).setCell ⟨w.heap.size + 1,1,none⟩ (.string ⟨#[]⟩)).setCell ⟨w.heap.size + 1,2,none⟩ (.int .i64 0)).setCell ⟨w.heap.size + 1,3,none⟩ (.int .i64 0)) = Wf
  obtain ⟨_,hw4,d0,d1,d2,d3⟩:=put4 (w.heap.size + 1) (w2) _ _ _ _ Wf s0 s1 s2 s3 hWf
  clear hWf
  exact bodyPost_ret (v:=.tuple #[.agg #[.int .i64 0,.string ⟨#[]⟩,.int .i64 0,.int .i64 0],.int .i64 0,.bool false]) (by simp [results,Tryz.results92,go_sem,d0,d1,d2,d3]) rfl ⟨rfl,hw4 _ _ (Nat.le_succ _) hb3⟩
end Go.Proofs.YtffnaknidofobaaGreatDoor
