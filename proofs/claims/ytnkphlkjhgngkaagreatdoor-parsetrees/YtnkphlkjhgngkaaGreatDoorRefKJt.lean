/- The document's token. -/
import Derived.Test.YtnkphlkjhgngkaaGreatDoorRefTJt
import Derived.Test.YtnkphlkjhgngkaaGreatDoorRef6Jt
namespace Go.Proofs.YtnkphlkjhgngkaaGreatDoor
open Go.RowKit
/-- What the document's token answers; at a fault what it hands back is some token. -/
def TokR (k : Nat) (o : Option Tok) (e : Ending) : Prop:=match o with
  | some (kd,t,n,j) => e = .returned (.tuple #[tokV kd ⟨t.toArray⟩ n k,.int .i64 j])
  | none => ∃ kd t n,e = .returned (.tuple #[tokV kd t n k,.int .i64 (-1)])
/-- The two blocks of a call of token, in a later world. -/
theorem two_later {w w1 : World} {z0 z1 z2 z3 b0 b1 b2 b3 : Value} (hb : Below ((w.alloc (.cells #[z0,z1,z2,z3] 46)).alloc (.cells #[b0,b1,b2,b3] 46)).heap.size ((w.alloc (.cells #[z0,z1,z2,z3] 46)).alloc (.cells #[b0,b1,b2,b3] 46)) w1) :
    (w1.cell? ⟨w.heap.size,0,none⟩ = some z0 ∧ w1.cell? ⟨w.heap.size,1,none⟩ = some z1 ∧ w1.cell? ⟨w.heap.size,2,none⟩ = some z2 ∧ w1.cell? ⟨w.heap.size,3,none⟩ = some z3) ∧
    (w1.cell? ⟨w.heap.size + 1,0,none⟩ = some b0 ∧ w1.cell? ⟨w.heap.size + 1,1,none⟩ = some b1 ∧ w1.cell? ⟨w.heap.size + 1,2,none⟩ = some b2 ∧ w1.cell? ⟨w.heap.size + 1,3,none⟩ = some b3) ∧
    (∀ o,w1.frozen? ⟨w.heap.size,o,none⟩ = false) ∧ (∀ o,w1.frozen? ⟨w.heap.size + 1,o,none⟩ = false) ∧ Below w.heap.size w w1:=by
  have hz : ((w.alloc (.cells #[z0,z1,z2,z3] 46)).alloc (.cells #[b0,b1,b2,b3] 46)).heap.size = w.heap.size + 2:=by simp
  have h1 : Below w.heap.size w ((w.alloc (.cells #[z0,z1,z2,z3] 46)).alloc (.cells #[b0,b1,b2,b3] 46)):=((Below.refl _ _).alloc (Nat.le_refl _) _).alloc (by simp) _
  have c : ∀ b o,b < w.heap.size + 2 → w1.cell? ⟨b,o,none⟩ = ((w.alloc (.cells #[z0,z1,z2,z3] 46)).alloc (.cells #[b0,b1,b2,b3] 46)).cell? ⟨b,o,none⟩:=fun b o h => hb.cell (p:=⟨b,o,none⟩) (by rw [hz]; exact h)
  have f : ∀ b o,b < w.heap.size + 2 → w1.frozen? ⟨b,o,none⟩ = ((w.alloc (.cells #[z0,z1,z2,z3] 46)).alloc (.cells #[b0,b1,b2,b3] 46)).frozen? ⟨b,o,none⟩:=fun b o h => hb.frozen (p:=⟨b,o,none⟩) (by rw [hz]; exact h)
  have l0 : w.heap.size < w.heap.size + 2:=by omega
  have l1 : w.heap.size + 1 < w.heap.size + 2:=by omega
  refine ⟨⟨?_,?_,?_,?_⟩,⟨?_,?_,?_,?_⟩,?_,?_,h1.trans (hb.mono (by omega))⟩
  · rw [c _ _ l0]; simp
  · rw [c _ _ l0]; simp
  · rw [c _ _ l0]; simp
  · rw [c _ _ l0]; simp
  · rw [c _ _ l1]; simp
  · rw [c _ _ l1]; simp
  · rw [c _ _ l1]; simp
  · rw [c _ _ l1]; simp
  · intro o; rw [f _ _ l0]; simp
  · intro o; rw [f _ _ l1]; simp
set_option maxRecDepth 20000 in
theorem numL_form {l : List UInt8} {k : Nat} {kd : Int} {t : List UInt8} {n : Int} {j : Nat} (h : numL l k = some (kd,t,n,j)) : kd = 2 ∧ t = []:=by
 unfold numL at h
 split at h
 · cases h
 · split at h
   · cases h
   · split at h
     · cases h
     · cases h; exact ⟨rfl,rfl⟩
set_option maxRecDepth 20000 in
theorem markL_form {l : List UInt8} {k : Nat} {kd : Int} {t : List UInt8} {n : Int} {j : Nat} (hk : k < l.length) (h : markL l k = some (kd,t,n,j)) : kd = 4 ∧ n = 0 ∧ j = k + t.length ∧ t ≠ [] ∧ t.length ≤ 2:=by
 have key : ∀ e,k < e → e ≤ l.length → (seg l k e).length = e - k:=fun e h1 h2 => by
  unfold seg
  rw [List.length_take,List.length_drop]; omega
 unfold markL at h
 split at h
 · rename_i h2
   cases h
   have:=key (k + 2) (by omega) h2.1
   exact ⟨rfl,rfl,by omega,fun h0 => by rw [h0] at this; simp at this,by omega⟩
 · split at h
   · cases h
     have:=key (k + 1) (by omega) (by omega)
     exact ⟨rfl,rfl,by omega,fun h0 => by rw [h0] at this; simp at this,by omega⟩
   · cases h
set_option maxRecDepth 20000 in
set_option maxHeartbeats 4000000 in
theorem tokR_mark (s : ByteArray) (hs : s.size ≤ 65536) (k : Nat) (hk : k < s.size) (hf : firstP s[k] = false) (hd : digitP s[k] = false) (hq : quoteP s[k] = false) (w : World) :
    Calls Tryz.prog 38 #[.string s,.int .i64 k] w fun e w' => TokR k (markL s.data.toList k) e ∧ Below w.heap.size w w':=by
  have cL : ∀ W,Calls Tryz.prog 67 #[.int .u8 s[k].toNat] W _:=fun W => letterR_any s[k] W
  have cD : ∀ W,Calls Tryz.prog 68 #[.int .u8 s[k].toNat] W _:=fun W => digitR_any s[k] W
  rw [hf] at cL
  rw [hd] at cD
  have e34 : ((s[k].toNat : Int) == 34) = false:=by
   apply beqF (d:=34) rfl
   intro h
   rw [h] at hq
   exact absurd hq (by decide)
  clear hf hd hq
  have cM : ∀ W,Calls Tryz.prog 72 #[.string s,.int .i64 k] W _:=fun W => markR_any s hs k hk W
  cases hm : markL s.data.toList k with
  | none =>
   have hmt : markT s.data.toList k = []:=by unfold markT; rw [hm]
   rw [hmt] at cM
   clear hm hmt
   go_enter Tryz.func38,Tryz.ntmps38
   go_wp2_with fail
   refine (cL _).mono ?_
   rintro e w1 ⟨rfl,hw⟩
   subst hw
   go_wp2_with fail
   refine (cD _).mono ?_
   rintro e w1 ⟨rfl,hw⟩
   subst hw
   go_wp2_with fail
   refine (cM _).mono ?_
   rintro e w1 ⟨rfl,hb⟩
   obtain ⟨⟨z0,z1,z2,z3⟩,⟨t0,t1,t2,t3⟩,zf,tf,hbw⟩:=two_later hb
   clear hb
   go_wp2_with fail
   generalize hWB : (w1.setCell ⟨w.heap.size + 1,0,none⟩ (.int .i64 4)).setCell ⟨w.heap.size + 1,1,none⟩ (.string ⟨#[]⟩) = WB
   have y0 : WB.cell? ⟨w.heap.size,0,none⟩ = some (.int .i64 0):=by rw [← hWB]; simp [go_sem,z0]
   have y1 : WB.cell? ⟨w.heap.size,1,none⟩ = some (.string ⟨#[]⟩):=by rw [← hWB]; simp [go_sem,z1]
   have y2 : WB.cell? ⟨w.heap.size,2,none⟩ = some (.int .i64 0):=by rw [← hWB]; simp [go_sem,z2]
   have y3 : WB.cell? ⟨w.heap.size,3,none⟩ = some (.int .i64 0):=by rw [← hWB]; simp [go_sem,z3]
   have yb : Below w.heap.size w WB:=by rw [← hWB]; exact (hbw.setCell (p:=⟨w.heap.size + 1,0,none⟩) (Nat.le_succ _) _).setCell (p:=⟨w.heap.size + 1,1,none⟩) (Nat.le_succ _) _
   clear hWB
   generalize hWf : (((WB.setCell ⟨w.heap.size,0,none⟩ (.int .i64 4)).setCell ⟨w.heap.size,1,none⟩ (.string ⟨#[]⟩)).setCell ⟨w.heap.size,2,none⟩ (.int .i64 0)).setCell ⟨w.heap.size,3,none⟩ (.int .i64 k) = Wf
   obtain ⟨_,hw4,d0,d1,d2,d3⟩:=put4 w.heap.size WB _ _ _ _ Wf y0 y1 y2 y3 hWf
   clear hWf
   exact bodyPost_ret (v:=.tuple #[.agg #[.int .i64 4,.string ⟨#[]⟩,.int .i64 0,.int .i64 k],.int .i64 (-1)]) (by simp [results,Tryz.results38,go_sem,d0,d1,d2,d3]) rfl ⟨⟨_,_,_,rfl⟩,hw4 _ _ (Nat.le_refl _) yb⟩
  | some x =>
   obtain ⟨kd,t,n,j⟩:=x
   have hmt : markT s.data.toList k = t:=by unfold markT; rw [hm]
   rw [hmt] at cM
   have hll : s.data.toList.length = s.size:=by simp
   obtain ⟨rfl,rfl,rfl,hne,ht2⟩:=markL_form (by rw [hll]; exact hk) hm
   have hsz : (⟨t.toArray⟩ : ByteArray).size = t.length:=by show t.toArray.size = _; simp
   have hemp : (⟨t.toArray⟩ : ByteArray).toList.isEmpty = false:=by
    rw [Lib.toList_data]
    cases t with
    | nil => exact absurd rfl hne
    | cons a b => rfl
   clear hm hmt hll hne
   have HM : Hid (TokR k (some (4,t,0,k + t.length)) (.returned (.tuple #[.agg #[.int .i64 4,.string ⟨t.toArray⟩,.int .i64 0,.int .i64 k],.int .i64 ((k + t.length : Nat) : Int)]))):=rfl
   generalize (⟨t.toArray⟩ : ByteArray) = mb at *
   go_enter Tryz.func38,Tryz.ntmps38
   go_wp2_with fail
   refine (cL _).mono ?_
   rintro e w1 ⟨rfl,hw⟩
   subst hw
   go_wp2_with fail
   refine (cD _).mono ?_
   rintro e w1 ⟨rfl,hw⟩
   subst hw
   go_wp2_with fail
   refine (cM _).mono ?_
   rintro e w1 ⟨rfl,hb⟩
   obtain ⟨⟨z0,z1,z2,z3⟩,⟨t0,t1,t2,t3⟩,zf,tf,hbw⟩:=two_later hb
   clear hb
   go_wp2_with fail
   generalize hWB : (w1.setCell ⟨w.heap.size + 1,0,none⟩ (.int .i64 4)).setCell ⟨w.heap.size + 1,1,none⟩ (.string mb) = WB
   have y0 : WB.cell? ⟨w.heap.size,0,none⟩ = some (.int .i64 0):=by rw [← hWB]; simp [go_sem,z0]
   have y1 : WB.cell? ⟨w.heap.size,1,none⟩ = some (.string ⟨#[]⟩):=by rw [← hWB]; simp [go_sem,z1]
   have y2 : WB.cell? ⟨w.heap.size,2,none⟩ = some (.int .i64 0):=by rw [← hWB]; simp [go_sem,z2]
   have y3 : WB.cell? ⟨w.heap.size,3,none⟩ = some (.int .i64 0):=by rw [← hWB]; simp [go_sem,z3]
   have yb : Below w.heap.size w WB:=by rw [← hWB]; exact (hbw.setCell (p:=⟨w.heap.size + 1,0,none⟩) (Nat.le_succ _) _).setCell (p:=⟨w.heap.size + 1,1,none⟩) (Nat.le_succ _) _
   clear hWB
   generalize hWf : (((WB.setCell ⟨w.heap.size,0,none⟩ (.int .i64 4)).setCell ⟨w.heap.size,1,none⟩ (.string mb)).setCell ⟨w.heap.size,2,none⟩ (.int .i64 0)).setCell ⟨w.heap.size,3,none⟩ (.int .i64 k) = Wf
   obtain ⟨_,hw4,d0,d1,d2,d3⟩:=put4 w.heap.size WB _ _ _ _ Wf y0 y1 y2 y3 hWf
   clear hWf
   exact bodyPost_ret (v:=.tuple #[.agg #[.int .i64 4,.string mb,.int .i64 0,.int .i64 k],.int .i64 (((k + t.length : Nat) : Int))]) (by simp [results,Tryz.results38,go_sem,d0,d1,d2,d3]) rfl ⟨HM.out,hw4 _ _ (Nat.le_refl _) yb⟩
set_option maxRecDepth 20000 in
set_option maxHeartbeats 4000000 in
theorem tokR_num (s : ByteArray) (hs : s.size ≤ 65536) (k : Nat) (hk : k < s.size) (hf : firstP s[k] = false) (hd : digitP s[k] = true) (w : World) :
    Calls Tryz.prog 38 #[.string s,.int .i64 k] w fun e w' => TokR k (numL s.data.toList k) e ∧ Below w.heap.size w w':=by
  have cL : ∀ W,Calls Tryz.prog 67 #[.int .u8 s[k].toNat] W _:=fun W => letterR_any s[k] W
  have cD : ∀ W,Calls Tryz.prog 68 #[.int .u8 s[k].toNat] W _:=fun W => digitR_any s[k] W
  have cN : ∀ W,Calls Tryz.prog 70 #[.string s,.int .i64 k] W _:=fun W => numberR_any s hs k hk hd W
  rw [hf] at cL
  rw [hd] at cD
  clear hf hd
  cases hn : numL s.data.toList k with
  | none =>
   rw [hn] at cN
   change ∀ W,Calls Tryz.prog 70 _ W (fun e w' => e = .returned (.tuple #[.int .i64 0,.int .i64 (-1)]) ∧ w' = W) at cN
   clear hn
   go_enter Tryz.func38,Tryz.ntmps38
   go_wp2_with fail
   refine (cL _).mono ?_
   rintro e w1 ⟨rfl,hw⟩
   subst hw
   go_wp2_with fail
   refine (cD _).mono ?_
   rintro e w1 ⟨rfl,hw⟩
   subst hw
   go_wp2_with fail
   refine (cN _).mono ?_
   rintro e w1 ⟨rfl,hw⟩
   subst hw
   go_wp2_with fail
   exact bodyPost_ret (v:=.tuple #[.agg #[.int .i64 2,.string ⟨#[]⟩,.int .i64 0,.int .i64 k],.int .i64 (-1)]) (by simp [results,Tryz.results38,go_sem]) rfl ⟨⟨_,_,_,rfl⟩,((Below.refl _ _).alloc (Nat.le_refl _) _).alloc (by simp) _⟩
  | some x =>
   obtain ⟨kd,t,n,j⟩:=x
   rw [hn] at cN
   obtain ⟨rfl,rfl⟩:=numL_form hn
   change ∀ W,Calls Tryz.prog 70 _ W (fun e w' => e = .returned (.tuple #[.int .i64 n,.int .i64 j]) ∧ w' = W) at cN
   clear hn
   go_enter Tryz.func38,Tryz.ntmps38
   go_wp2_with fail
   refine (cL _).mono ?_
   rintro e w1 ⟨rfl,hw⟩
   subst hw
   go_wp2_with fail
   refine (cD _).mono ?_
   rintro e w1 ⟨rfl,hw⟩
   subst hw
   go_wp2_with fail
   refine (cN _).mono ?_
   rintro e w1 ⟨rfl,hw⟩
   subst hw
   go_wp2_with fail
   exact bodyPost_ret (v:=.tuple #[.agg #[.int .i64 2,.string ⟨#[]⟩,.int .i64 n,.int .i64 k],.int .i64 j]) (by simp [results,Tryz.results38,go_sem]) rfl ⟨rfl,((Below.refl _ _).alloc (Nat.le_refl _) _).alloc (by simp) _⟩
end Go.Proofs.YtnkphlkjhgngkaaGreatDoor

namespace Go.Proofs.YtnkphlkjhgngkaaGreatDoor
open Go.RowKit
set_option maxRecDepth 20000 in
set_option maxHeartbeats 4000000 in
theorem tokR_text (s : ByteArray) (hs : s.size ≤ 65536) (k : Nat) (hk : k < s.size) (hf : firstP s[k] = false) (hd : digitP s[k] = false) (hq : quoteP s[k] = true) (w : World) :
    Calls Tryz.prog 38 #[.string s,.int .i64 k] w fun e w' => TokR k (textL s.data.toList k) e ∧ Below w.heap.size w w':=by
  have cL : ∀ W,Calls Tryz.prog 67 #[.int .u8 s[k].toNat] W _:=fun W => letterR_any s[k] W
  have cD : ∀ W,Calls Tryz.prog 68 #[.int .u8 s[k].toNat] W _:=fun W => digitR_any s[k] W
  rw [hf] at cL
  rw [hd] at cD
  have e34 : ((s[k].toNat : Int) == 34) = true:=beqT (d:=34) rfl (quote34 _ hq)
  clear hf hd hq
  have cS : ∀ W,Calls Tryz.prog 71 #[.string s,.int .i64 k] W _:=fun W => strR_any s hs k hk W
  unfold textL
  cases hm : textRes s.data.toList k with
  | none =>
   rw [hm] at cS
   change ∀ W,Calls Tryz.prog 71 _ W (fun e w' => e = .returned (.tuple #[.string ⟨#[]⟩,.int .i64 (-1)]) ∧ _) at cS
   clear hm
   go_enter Tryz.func38,Tryz.ntmps38
   go_wp2_with fail
   refine (cL _).mono ?_
   rintro e w1 ⟨rfl,hw⟩
   subst hw
   go_wp2_with fail
   refine (cD _).mono ?_
   rintro e w1 ⟨rfl,hw⟩
   subst hw
   go_wp2_with fail
   refine (cS _).mono ?_
   rintro e w1 ⟨rfl,hb⟩
   obtain ⟨⟨z0,z1,z2,z3⟩,⟨t0,t1,t2,t3⟩,zf,tf,hbw⟩:=two_later hb
   clear hb
   go_wp2_with fail
   generalize hWB : (w1.setCell ⟨w.heap.size + 1,1,none⟩ (.string ⟨#[]⟩)) = WB
   have y0 : WB.cell? ⟨w.heap.size,0,none⟩ = some (.int .i64 0):=by rw [← hWB]; simp [go_sem,z0]
   have y1 : WB.cell? ⟨w.heap.size,1,none⟩ = some (.string ⟨#[]⟩):=by rw [← hWB]; simp [go_sem,z1]
   have y2 : WB.cell? ⟨w.heap.size,2,none⟩ = some (.int .i64 0):=by rw [← hWB]; simp [go_sem,z2]
   have y3 : WB.cell? ⟨w.heap.size,3,none⟩ = some (.int .i64 0):=by rw [← hWB]; simp [go_sem,z3]
   have yb : Below w.heap.size w WB:=by rw [← hWB]; exact hbw.setCell (p:=⟨w.heap.size + 1,1,none⟩) (Nat.le_succ _) _
   clear hWB
   generalize hWf : (((WB.setCell ⟨w.heap.size,0,none⟩ (.int .i64 3)).setCell ⟨w.heap.size,1,none⟩ (.string ⟨#[]⟩)).setCell ⟨w.heap.size,2,none⟩ (.int .i64 0)).setCell ⟨w.heap.size,3,none⟩ (.int .i64 k) = Wf
   obtain ⟨_,hw4,d0,d1,d2,d3⟩:=put4 w.heap.size WB _ _ _ _ Wf y0 y1 y2 y3 hWf
   clear hWf
   exact bodyPost_ret (v:=.tuple #[.agg #[.int .i64 3,.string ⟨#[]⟩,.int .i64 0,.int .i64 k],.int .i64 (-1)]) (by simp [results,Tryz.results38,go_sem,d0,d1,d2,d3]) rfl ⟨⟨_,_,_,rfl⟩,hw4 _ _ (Nat.le_refl _) yb⟩
  | some x =>
   obtain ⟨t,j⟩:=x
   rw [hm] at cS
   change ∀ W,Calls Tryz.prog 71 _ W (fun e w' => e = .returned (.tuple #[.string ⟨t.toArray⟩,.int .i64 j]) ∧ _) at cS
   clear hm
   have HM : Hid (TokR k (some (3,t,0,j)) (.returned (.tuple #[.agg #[.int .i64 3,.string ⟨t.toArray⟩,.int .i64 0,.int .i64 k],.int .i64 (j : Int)]))):=rfl
   dsimp only
   generalize (⟨t.toArray⟩ : ByteArray) = mb at *
   go_enter Tryz.func38,Tryz.ntmps38
   go_wp2_with fail
   refine (cL _).mono ?_
   rintro e w1 ⟨rfl,hw⟩
   subst hw
   go_wp2_with fail
   refine (cD _).mono ?_
   rintro e w1 ⟨rfl,hw⟩
   subst hw
   go_wp2_with fail
   refine (cS _).mono ?_
   rintro e w1 ⟨rfl,hb⟩
   obtain ⟨⟨z0,z1,z2,z3⟩,⟨t0,t1,t2,t3⟩,zf,tf,hbw⟩:=two_later hb
   clear hb
   go_wp2_with fail
   generalize hWB : (w1.setCell ⟨w.heap.size + 1,1,none⟩ (.string mb)) = WB
   have y0 : WB.cell? ⟨w.heap.size,0,none⟩ = some (.int .i64 0):=by rw [← hWB]; simp [go_sem,z0]
   have y1 : WB.cell? ⟨w.heap.size,1,none⟩ = some (.string ⟨#[]⟩):=by rw [← hWB]; simp [go_sem,z1]
   have y2 : WB.cell? ⟨w.heap.size,2,none⟩ = some (.int .i64 0):=by rw [← hWB]; simp [go_sem,z2]
   have y3 : WB.cell? ⟨w.heap.size,3,none⟩ = some (.int .i64 0):=by rw [← hWB]; simp [go_sem,z3]
   have yb : Below w.heap.size w WB:=by rw [← hWB]; exact hbw.setCell (p:=⟨w.heap.size + 1,1,none⟩) (Nat.le_succ _) _
   clear hWB
   generalize hWf : (((WB.setCell ⟨w.heap.size,0,none⟩ (.int .i64 3)).setCell ⟨w.heap.size,1,none⟩ (.string mb)).setCell ⟨w.heap.size,2,none⟩ (.int .i64 0)).setCell ⟨w.heap.size,3,none⟩ (.int .i64 k) = Wf
   obtain ⟨_,hw4,d0,d1,d2,d3⟩:=put4 w.heap.size WB _ _ _ _ Wf y0 y1 y2 y3 hWf
   clear hWf
   exact bodyPost_ret (v:=.tuple #[.agg #[.int .i64 3,.string mb,.int .i64 0,.int .i64 k],.int .i64 (j)]) (by simp [results,Tryz.results38,go_sem,d0,d1,d2,d3]) rfl ⟨HM.out,hw4 _ _ (Nat.le_refl _) yb⟩
set_option maxRecDepth 20000 in
theorem mk_toList (s : ByteArray) : (⟨s.toList.toArray⟩ : ByteArray) = s:=by
 rw [Lib.toList_data]
set_option maxRecDepth 20000 in
theorem inner_or : ∀ c : UInt8,innerP c = (firstP c || digitP c):=byte_all (by decide +kernel)
set_option maxRecDepth 20000 in
set_option maxHeartbeats 4000000 in
theorem tokR_name (s : ByteArray) (hs : s.size ≤ 65536) (k : Nat) (hk : k < s.size) (hf : firstP s[k] = true) (w : World) :
    Calls Tryz.prog 38 #[.string s,.int .i64 k] w fun e w' => TokR k (nameL s.data.toList k) e ∧ Below w.heap.size w w':=by
  have cL : ∀ W,Calls Tryz.prog 67 #[.int .u8 s[k].toNat] W _:=fun W => letterR_any s[k] W
  rw [hf] at cL
  clear hf
  go_enter Tryz.func38,Tryz.ntmps38
  go_wp2_with fail
  refine (cL _).mono ?_
  rintro e w1 ⟨rfl,hw⟩
  subst hw
  go_wp2_with fail
  have HE0 : Hid (k ≤ endOf innerP s.data.toList k ∧ endOf innerP s.data.toList k ≤ s.data.toList.length):=⟨endOf_ge _ _ _,endOf_le _ _ _ (by simp; omega)⟩
  go_loop [7] (fun x => ∃ m : Nat,k ≤ m ∧ m ≤ s.size ∧ x = .int .i64 m ∧ Hid (endOf innerP s.data.toList m = endOf innerP s.data.toList k)) (fun x => s.size - (intOf x).toNat)
  case atStart => exact ⟨k,Nat.le_refl _,by omega,rfl,rfl⟩
  case round =>
   obtain ⟨m,hkm,hms,rfl,HE⟩:=hrel
   by_cases hgo : ∃ h : m < s.size,innerP s[m] = true
   · obtain ⟨hlt,hin⟩:=hgo
     have HN : Hid (endOf innerP s.data.toList (m + 1) = endOf innerP s.data.toList k):=((endOf_yes (by rw [atP_lt hlt]; exact hin)).2).trans HE.out
     have cM : ∀ W,Calls Tryz.prog 67 #[.int .u8 s[m].toNat] W _:=fun W => letterR_any s[m] W
     have cE : ∀ W,Calls Tryz.prog 68 #[.int .u8 s[m].toNat] W _:=fun W => digitR_any s[m] W
     rw [inner_or] at hin
     cases hf : firstP s[m]
     · have hdg : digitP s[m] = true:=by rw [hf] at hin; simpa using hin
       rw [hf] at cM
       rw [hdg] at cE
       clear hin hf hdg
       go_wp2_with fail
       refine (cM _).mono ?_
       rintro e w1 ⟨rfl,hw⟩
       subst hw
       go_wp2_with fail
       refine (cE _).mono ?_
       rintro e w1 ⟨rfl,hw⟩
       subst hw
       go_wp2
       go_round
       case rel => exact ⟨m + 1,by omega,hlt,by go_num,HN⟩
       case measure => simp [intOf]; omega
     · rw [hf] at cM
       clear hin hf
       go_wp2_with fail
       refine (cM _).mono ?_
       rintro e w1 ⟨rfl,hw⟩
       subst hw
       go_wp2
       go_round
       case rel => exact ⟨m + 1,by omega,hlt,by go_num,HN⟩
       case measure => simp [intOf]; omega
   · have HM : Hid (endOf innerP s.data.toList k = m):=by
      refine HE.out.symm.trans ?_
      apply endOf_no
      by_cases hlt : m < s.size
      · rw [atP_lt hlt]
        cases hin : innerP s[m]
        · rfl
        · exact absurd ⟨hlt,hin⟩ hgo
      · exact atP_ge hlt
     clear HE
     by_cases h64 : 64 < m - k
     · have HX : Hid (nameL s.data.toList k = none):=by
        show _ = _
        unfold nameL
        rw [HM.out,if_pos h64]
       have h64' : (64 : Int) < (m : Int) - (k : Int):=by omega
       by_cases hlt : m < s.size
       · have hin : innerP s[m] = false:=by
          cases hin : innerP s[m]
          · rfl
          · exact absurd ⟨hlt,hin⟩ hgo
         rw [inner_or,Bool.or_eq_false_iff] at hin
         have cM : ∀ W,Calls Tryz.prog 67 #[.int .u8 s[m].toNat] W _:=fun W => letterR_any s[m] W
         have cE : ∀ W,Calls Tryz.prog 68 #[.int .u8 s[m].toNat] W _:=fun W => digitR_any s[m] W
         rw [hin.1] at cM
         rw [hin.2] at cE
         clear hin hgo h64
         go_wp2_with fail
         refine (cM _).mono ?_
         rintro e w1 ⟨rfl,hw⟩
         subst hw
         go_wp2_with fail
         refine (cE _).mono ?_
         rintro e w1 ⟨rfl,hw⟩
         subst hw
         go_wp2_with fail
         exact bodyPost_ret (v:=.tuple #[.agg #[.int .i64 0,.string ⟨#[]⟩,.int .i64 0,.int .i64 k],.int .i64 (-1)]) (by simp [results,Tryz.results38,go_sem]) rfl ⟨by rw [HX.out]; exact ⟨_,_,_,rfl⟩,((Below.refl _ _).alloc (Nat.le_refl _) _).alloc (by simp) _⟩
       · clear hgo h64
         go_wp2_with fail
         exact bodyPost_ret (v:=.tuple #[.agg #[.int .i64 0,.string ⟨#[]⟩,.int .i64 0,.int .i64 k],.int .i64 (-1)]) (by simp [results,Tryz.results38,go_sem]) rfl ⟨by rw [HX.out]; exact ⟨_,_,_,rfl⟩,((Below.refl _ _).alloc (Nat.le_refl _) _).alloc (by simp) _⟩
     · have HX : Hid (nameL s.data.toList k = some (kindOf (s.extract k m).toList,(s.extract k m).toList,0,m)):=by
        show _ = _
        unfold nameL
        rw [HM.out,if_neg h64,extract_toList]
       have HT : Hid (∀ kd,kindOf (s.extract k m).toList = kd → TokR k (nameL s.data.toList k) (.returned (.tuple #[.agg #[.int .i64 kd,.string (s.extract k m),.int .i64 0,.int .i64 k],.int .i64 m]))):=by
        intro kd h
        rw [HX.out,h]
        show _ = _
        rw [mk_toList]
       have h64' : ¬ (64 : Int) < (m : Int) - (k : Int):=by omega
       by_cases hlt : m < s.size
       · have hin : innerP s[m] = false:=by
          cases hin : innerP s[m]
          · rfl
          · exact absurd ⟨hlt,hin⟩ hgo
         rw [inner_or,Bool.or_eq_false_iff] at hin
         have cM : ∀ W,Calls Tryz.prog 67 #[.int .u8 s[m].toNat] W _:=fun W => letterR_any s[m] W
         have cE : ∀ W,Calls Tryz.prog 68 #[.int .u8 s[m].toNat] W _:=fun W => digitR_any s[m] W
         rw [hin.1] at cM
         rw [hin.2] at cE
         clear hin hgo h64
         go_wp2_with fail
         refine (cM _).mono ?_
         rintro e w1 ⟨rfl,hw⟩
         subst hw
         go_wp2_with fail
         refine (cE _).mono ?_
         rintro e w1 ⟨rfl,hw⟩
         subst hw
         go_wp2_with fail
         have hkm' : (k : Int) ≤ (m : Int):=by omega
         have hms' : (m : Int) ≤ (s.size : Int):=by omega
         have h0' : (0 : Int) ≤ (k : Int):=by omega
         have cR : ∀ W,Calls Tryz.prog 69 #[.string (s.extract k m)] W _:=fun W => reservedR_any (s.extract k m) W
         cases hwd : wordP (s.extract k m).toList
         · rw [hwd] at cR
           have HK:=Lib.hid (HT.out _ (kindOf_name hwd))
           clear hwd
           go_region_held3 (fun _ => True) (trivial) (fail)
           generalize s.extract k m = sx at *
           go_wp2_with fail
           refine (cR _).mono ?_
           rintro e w1 ⟨rfl,hb⟩
           obtain ⟨⟨z0,z1,z2,z3⟩,⟨t0,t1,t2,t3⟩,zf,tf,hbw⟩:=two_later (w:=w) (w1:=w1) (z0:=.int .i64 0) (z1:=.string ⟨#[]⟩) (z2:=.int .i64 0) (z3:=.int .i64 0) (b0:=.int .i64 1) (b1:=.string sx) (b2:=.int .i64 0) (b3:=.int .i64 k) ⟨hb.os,hb.tape,hb.output,hb.size,hb.block⟩
           clear hb
           go_wp2_with fail
           generalize hWB : w1 = WB
           have y0 : WB.cell? ⟨w.heap.size,0,none⟩ = some (.int .i64 0):=by rw [← hWB]; simp [go_sem,z0]
           have y1 : WB.cell? ⟨w.heap.size,1,none⟩ = some (.string ⟨#[]⟩):=by rw [← hWB]; simp [go_sem,z1]
           have y2 : WB.cell? ⟨w.heap.size,2,none⟩ = some (.int .i64 0):=by rw [← hWB]; simp [go_sem,z2]
           have y3 : WB.cell? ⟨w.heap.size,3,none⟩ = some (.int .i64 0):=by rw [← hWB]; simp [go_sem,z3]
           have yb : Below w.heap.size w WB:=by rw [← hWB]; exact hbw
           clear hWB
           generalize hWf : (((WB.setCell ⟨w.heap.size,0,none⟩ (.int .i64 1)).setCell ⟨w.heap.size,1,none⟩ (.string sx)).setCell ⟨w.heap.size,2,none⟩ (.int .i64 0)).setCell ⟨w.heap.size,3,none⟩ (.int .i64 k) = Wf
           obtain ⟨_,hw4,d0,d1,d2,d3⟩:=put4 w.heap.size WB _ _ _ _ Wf y0 y1 y2 y3 hWf
           clear hWf
           exact bodyPost_ret (v:=.tuple #[.agg #[.int .i64 1,.string sx,.int .i64 0,.int .i64 k],.int .i64 (m)]) (by simp [results,Tryz.results38,go_sem,d0,d1,d2,d3]) rfl ⟨HK.out,hw4 _ _ (Nat.le_refl _) yb⟩
         · rw [hwd] at cR
           have HK:=Lib.hid (HT.out _ (kindOf_word hwd))
           clear hwd
           go_region_held3 (fun _ => True) (trivial) (fail)
           generalize s.extract k m = sx at *
           go_wp2_with fail
           refine (cR _).mono ?_
           rintro e w1 ⟨rfl,hb⟩
           obtain ⟨⟨z0,z1,z2,z3⟩,⟨t0,t1,t2,t3⟩,zf,tf,hbw⟩:=two_later (w:=w) (w1:=w1) (z0:=.int .i64 0) (z1:=.string ⟨#[]⟩) (z2:=.int .i64 0) (z3:=.int .i64 0) (b0:=.int .i64 1) (b1:=.string sx) (b2:=.int .i64 0) (b3:=.int .i64 k) ⟨hb.os,hb.tape,hb.output,hb.size,hb.block⟩
           clear hb
           go_wp2_with fail
           generalize hWB : (w1.setCell ⟨w.heap.size + 1,0,none⟩ (.int .i64 5)) = WB
           have y0 : WB.cell? ⟨w.heap.size,0,none⟩ = some (.int .i64 0):=by rw [← hWB]; simp [go_sem,z0]
           have y1 : WB.cell? ⟨w.heap.size,1,none⟩ = some (.string ⟨#[]⟩):=by rw [← hWB]; simp [go_sem,z1]
           have y2 : WB.cell? ⟨w.heap.size,2,none⟩ = some (.int .i64 0):=by rw [← hWB]; simp [go_sem,z2]
           have y3 : WB.cell? ⟨w.heap.size,3,none⟩ = some (.int .i64 0):=by rw [← hWB]; simp [go_sem,z3]
           have yb : Below w.heap.size w WB:=by rw [← hWB]; exact hbw.setCell (p:=⟨w.heap.size + 1,0,none⟩) (Nat.le_succ _) _
           clear hWB
           generalize hWf : (((WB.setCell ⟨w.heap.size,0,none⟩ (.int .i64 5)).setCell ⟨w.heap.size,1,none⟩ (.string sx)).setCell ⟨w.heap.size,2,none⟩ (.int .i64 0)).setCell ⟨w.heap.size,3,none⟩ (.int .i64 k) = Wf
           obtain ⟨_,hw4,d0,d1,d2,d3⟩:=put4 w.heap.size WB _ _ _ _ Wf y0 y1 y2 y3 hWf
           clear hWf
           exact bodyPost_ret (v:=.tuple #[.agg #[.int .i64 5,.string sx,.int .i64 0,.int .i64 k],.int .i64 (m)]) (by simp [results,Tryz.results38,go_sem,d0,d1,d2,d3]) rfl ⟨HK.out,hw4 _ _ (Nat.le_refl _) yb⟩
       · clear hgo h64
         go_wp2_with fail
         have hkm' : (k : Int) ≤ (m : Int):=by omega
         have hms' : (m : Int) ≤ (s.size : Int):=by omega
         have h0' : (0 : Int) ≤ (k : Int):=by omega
         have cR : ∀ W,Calls Tryz.prog 69 #[.string (s.extract k m)] W _:=fun W => reservedR_any (s.extract k m) W
         cases hwd : wordP (s.extract k m).toList
         · rw [hwd] at cR
           have HK:=Lib.hid (HT.out _ (kindOf_name hwd))
           clear hwd
           go_region_held3 (fun _ => True) (trivial) (fail)
           generalize s.extract k m = sx at *
           go_wp2_with fail
           refine (cR _).mono ?_
           rintro e w1 ⟨rfl,hb⟩
           obtain ⟨⟨z0,z1,z2,z3⟩,⟨t0,t1,t2,t3⟩,zf,tf,hbw⟩:=two_later (w:=w) (w1:=w1) (z0:=.int .i64 0) (z1:=.string ⟨#[]⟩) (z2:=.int .i64 0) (z3:=.int .i64 0) (b0:=.int .i64 1) (b1:=.string sx) (b2:=.int .i64 0) (b3:=.int .i64 k) ⟨hb.os,hb.tape,hb.output,hb.size,hb.block⟩
           clear hb
           go_wp2_with fail
           generalize hWB : w1 = WB
           have y0 : WB.cell? ⟨w.heap.size,0,none⟩ = some (.int .i64 0):=by rw [← hWB]; simp [go_sem,z0]
           have y1 : WB.cell? ⟨w.heap.size,1,none⟩ = some (.string ⟨#[]⟩):=by rw [← hWB]; simp [go_sem,z1]
           have y2 : WB.cell? ⟨w.heap.size,2,none⟩ = some (.int .i64 0):=by rw [← hWB]; simp [go_sem,z2]
           have y3 : WB.cell? ⟨w.heap.size,3,none⟩ = some (.int .i64 0):=by rw [← hWB]; simp [go_sem,z3]
           have yb : Below w.heap.size w WB:=by rw [← hWB]; exact hbw
           clear hWB
           generalize hWf : (((WB.setCell ⟨w.heap.size,0,none⟩ (.int .i64 1)).setCell ⟨w.heap.size,1,none⟩ (.string sx)).setCell ⟨w.heap.size,2,none⟩ (.int .i64 0)).setCell ⟨w.heap.size,3,none⟩ (.int .i64 k) = Wf
           obtain ⟨_,hw4,d0,d1,d2,d3⟩:=put4 w.heap.size WB _ _ _ _ Wf y0 y1 y2 y3 hWf
           clear hWf
           exact bodyPost_ret (v:=.tuple #[.agg #[.int .i64 1,.string sx,.int .i64 0,.int .i64 k],.int .i64 (m)]) (by simp [results,Tryz.results38,go_sem,d0,d1,d2,d3]) rfl ⟨HK.out,hw4 _ _ (Nat.le_refl _) yb⟩
         · rw [hwd] at cR
           have HK:=Lib.hid (HT.out _ (kindOf_word hwd))
           clear hwd
           go_region_held3 (fun _ => True) (trivial) (fail)
           generalize s.extract k m = sx at *
           go_wp2_with fail
           refine (cR _).mono ?_
           rintro e w1 ⟨rfl,hb⟩
           obtain ⟨⟨z0,z1,z2,z3⟩,⟨t0,t1,t2,t3⟩,zf,tf,hbw⟩:=two_later (w:=w) (w1:=w1) (z0:=.int .i64 0) (z1:=.string ⟨#[]⟩) (z2:=.int .i64 0) (z3:=.int .i64 0) (b0:=.int .i64 1) (b1:=.string sx) (b2:=.int .i64 0) (b3:=.int .i64 k) ⟨hb.os,hb.tape,hb.output,hb.size,hb.block⟩
           clear hb
           go_wp2_with fail
           generalize hWB : (w1.setCell ⟨w.heap.size + 1,0,none⟩ (.int .i64 5)) = WB
           have y0 : WB.cell? ⟨w.heap.size,0,none⟩ = some (.int .i64 0):=by rw [← hWB]; simp [go_sem,z0]
           have y1 : WB.cell? ⟨w.heap.size,1,none⟩ = some (.string ⟨#[]⟩):=by rw [← hWB]; simp [go_sem,z1]
           have y2 : WB.cell? ⟨w.heap.size,2,none⟩ = some (.int .i64 0):=by rw [← hWB]; simp [go_sem,z2]
           have y3 : WB.cell? ⟨w.heap.size,3,none⟩ = some (.int .i64 0):=by rw [← hWB]; simp [go_sem,z3]
           have yb : Below w.heap.size w WB:=by rw [← hWB]; exact hbw.setCell (p:=⟨w.heap.size + 1,0,none⟩) (Nat.le_succ _) _
           clear hWB
           generalize hWf : (((WB.setCell ⟨w.heap.size,0,none⟩ (.int .i64 5)).setCell ⟨w.heap.size,1,none⟩ (.string sx)).setCell ⟨w.heap.size,2,none⟩ (.int .i64 0)).setCell ⟨w.heap.size,3,none⟩ (.int .i64 k) = Wf
           obtain ⟨_,hw4,d0,d1,d2,d3⟩:=put4 w.heap.size WB _ _ _ _ Wf y0 y1 y2 y3 hWf
           clear hWf
           exact bodyPost_ret (v:=.tuple #[.agg #[.int .i64 5,.string sx,.int .i64 0,.int .i64 k],.int .i64 (m)]) (by simp [results,Tryz.results38,go_sem,d0,d1,d2,d3]) rfl ⟨HK.out,hw4 _ _ (Nat.le_refl _) yb⟩
set_option maxRecDepth 20000 in
theorem tokenR_any (s : ByteArray) (hs : s.size ≤ 65536) (k : Nat) (hk : k < s.size) (w : World) :
    Calls Tryz.prog 38 #[.string s,.int .i64 k] w fun e w' => TokR k (tokL s.data.toList k) e ∧ Below w.heap.size w w':=by
  unfold tokL
  rw [atP_lt hk,atP_lt hk,atP_lt hk]
  cases hf : firstP s[k]
  · rw [if_neg (by decide)]
    cases hd : digitP s[k]
    · rw [if_neg (by decide)]
      cases hq : quoteP s[k]
      · rw [if_neg (by decide)]; exact tokR_mark s hs k hk hf hd hq w
      · rw [if_pos rfl]; exact tokR_text s hs k hk hf hd hq w
    · rw [if_pos rfl]; exact tokR_num s hs k hk hf hd w
  · rw [if_pos rfl]; exact tokR_name s hs k hk hf w
end Go.Proofs.YtnkphlkjhgngkaaGreatDoor

namespace Go.Proofs.YtnkphlkjhgngkaaGreatDoor
open Go.RowKit
set_option maxRecDepth 20000 in
set_option maxHeartbeats 4000000 in
theorem scanR_any (s : ByteArray) (hs : s.size ≤ maxLen) (w : World) : Calls Tryz.prog 22 #[.string s] w (Scanned (scanRes s.data.toList) w):=by
 have hll : s.data.toList.length = s.size:=by simp
 by_cases hlong : 65536 < s.size
 · have HR : Hid (scanRes s.data.toList = ([],0,13)):=by unfold scanRes; rw [hll]; exact if_pos hlong
   unfold maxLen at hs
   clear hll
   go_enter Tryz.func22,Tryz.ntmps22
   go_wp2
   go_ret3
   exact ⟨_,by rw [HR.out]; rfl,by rw [HR.out]; exact World.ownsRow_nil _ _ _ _,Below.refl _ _⟩
 · have HR : Hid (scanRes s.data.toList = scanF s.data.toList (s.data.toList.length + 1) (skipTo s.data.toList 0) []):=by unfold scanRes; rw [hll]; exact if_neg hlong
   have HL : Hid (s.data.toList.length = s.size):=hll
   clear hll
   have hle : s.size ≤ 65536:=by omega
   have hd : decide (65536 < (s.size : Int)) = false:=by simp; omega
   clear hlong
   unfold maxLen at hs
   have cB : ∀ k,k ≤ s.size → ∀ W,Calls Tryz.prog 37 #[.string s,.int .i64 k] W _:=fun k hk W => blanksR_any s hle k hk W
   have HB:=Lib.hid cB
   clear cB
   have hk0:=skipTo_le s.data.toList 0 (Nat.zero_le _)
   rw [HL.out] at hk0
   have HS : Hid (scanRes s.data.toList = scanF s.data.toList (s.size + 1) (skipTo s.data.toList 0) []):=by rw [HR.out,HL.out]; rfl
   clear HR
   have hown0 : (w.alloc (.cells #[] 46)).ownsRow w.heap.size 46 4 (.slice (some ⟨w.heap.size,0,none⟩) 0 0) 0 (tksCells []) :=
     ⟨rfl,.inr ⟨w.heap.size,0,#[],rfl,Nat.le_refl _,heap_alloc_new w _,Nat.le_refl _,by unfold maxLen; decide,rfl,rfl⟩⟩
   have hb0 : Below w.heap.size w (w.alloc (.cells #[] 46)):=(Below.refl _ _).alloc (Nat.le_refl _) _
   go_enter Tryz.func22,Tryz.ntmps22
   go_wp2_with fail
   refine (HB.out 0 (Nat.zero_le _) _).mono ?_
   rintro e w1 ⟨rfl,hw⟩
   subst hw
   generalize skipTo s.data.toList 0 = k0 at *
   go_wp2_with fail
   go_loopw [5,6] (fun v i wr => ∃ (k f : Nat) (acc : List TkA) (g cv : Nat),k ≤ s.size ∧ i = .int .i64 k ∧ v = .slice (some ⟨g,0,none⟩) acc.length cv ∧ wr.ownsRow w.heap.size 46 4 (.slice (some ⟨g,0,none⟩) acc.length cv) acc.length (tksCells acc) ∧ Below w.heap.size w wr ∧ acc.length ≤ 20000 ∧ Hid (s.size - k < f ∧ scanRes s.data.toList = scanF s.data.toList f k acc)) (fun _ i _ => s.size - (intOf i).toNat)
   case atStart => exact ⟨k0,s.size + 1,[],w.heap.size,0,hk0,rfl,rfl,hown0,hb0,Nat.zero_le _,by omega,HS.out⟩
   case round =>
    obtain ⟨k,f,acc,g,cv,hk,rfl,rfl,hown,hbr,hacc,HF⟩:=hrel
    clear HS hk0 hown0 hb0
    have hzr:=hbr.size
    by_cases hlt : k < s.size
    · by_cases h20 : acc.length = 20000
      · have h20' : ((acc.length : Int) == 20000) = true:=by rw [h20]; rfl
        have HX : Hid (scanRes s.data.toList = ([],k,4)):=HF.out.2.trans (scanF_large (by have:=HF.out.1; omega) (by rw [HL.out]; exact hlt) h20)
        clear h20
        go_wp2
        go_ret3
        exact ⟨_,by rw [HX.out]; rfl,by rw [HX.out]; exact World.ownsRow_nil _ _ _ _,hbr⟩
      · have h20' : ((acc.length : Int) == 20000) = false:=by rw [beq_eq_false_iff_ne]; omega
        have cT:=tokenR_any s hle k hlt wr
        cases ht : tokL s.data.toList k with
        | none =>
         rw [ht] at cT
         have HX : Hid (scanRes s.data.toList = ([],k,3)):=HF.out.2.trans (scanF_fault (by have:=HF.out.1; omega) (by rw [HL.out]; exact hlt) h20 ht)
         change Calls Tryz.prog 38 _ _ (fun e w' => (∃ kd t n,e = .returned (.tuple #[tokV kd t n k,.int .i64 (-1)])) ∧ _) at cT
         clear ht h20
         go_wp2_with fail
         refine cT.mono ?_
         rintro e w3 ⟨⟨kd,t,n,rfl⟩,hb3⟩
         go_wp2
         go_ret3
         exact ⟨_,by rw [HX.out]; rfl,by rw [HX.out]; exact World.ownsRow_nil _ _ _ _,(hbr.trans (hb3.mono hzr)).alloc (by have:=hb3.size; omega) _⟩
        | some x =>
         obtain ⟨kd,tx,nu,en⟩:=x
         rw [ht] at cT
         have hen:=tokL_end (by rw [HL.out]; exact hlt) ht
         rw [HL.out] at hen
         obtain ⟨hen1,hen2⟩:=hen
         have HX : Hid (∃ g,f = g + 1 ∧ scanRes s.data.toList = scanF s.data.toList g (skipTo s.data.toList en) (acc ++ [(kd,tx,nu,k)])):=by
          obtain ⟨h1,h2⟩:=HF.out
          match f,h1,h2 with
          | g + 1,_,h2 => exact ⟨g,rfl,h2.trans (scanF_step (by rw [HL.out]; exact hlt) h20 ht)⟩
         change Calls Tryz.prog 38 _ _ (fun e w' => e = .returned (.tuple #[tokV kd ⟨tx.toArray⟩ nu k,.int .i64 en]) ∧ _) at cT
         clear ht
         go_wp2_with fail
         refine cT.mono ?_
         rintro e w3 ⟨rfl,hb3⟩
         have hown2 : ((w3.alloc (.cells #[.int .i64 kd,.string ⟨tx.toArray⟩,.int .i64 nu,.int .i64 k] 46)).alloc (.cells #[.int .i64 kd,.string ⟨tx.toArray⟩,.int .i64 nu,.int .i64 k] 46)).ownsRow w.heap.size 46 4 (.slice (some ⟨g,0,none⟩) acc.length cv) acc.length (tksCells acc):=((ownsRow_later hb3 hown).alloc _).alloc _
         have hb4 : Below w.heap.size w ((w3.alloc (.cells #[.int .i64 kd,.string ⟨tx.toArray⟩,.int .i64 nu,.int .i64 k] 46)).alloc (.cells #[.int .i64 kd,.string ⟨tx.toArray⟩,.int .i64 nu,.int .i64 k] 46)):=((hbr.trans (hb3.mono hzr)).alloc (by have:=hb3.size; omega) _).alloc (by have:=hb3.size; simp; omega) _
         have hlw:=hown2.lt
         have hz3:=hb3.size
         clear hown cT
         obtain ⟨i0,hi,hz0,hz1,hz2⟩:=info_parts Tryz.info46
         go_wp2_with (at_builtin; refine wpList_append_own _ rfl _ _ 32 rfl w.heap.size 46 i0 _ 4 40 Tryz.underlying32 hi hz0 hz1 hz2 rfl (by decide) _ _ _ rfl hown2 ⟨w3.heap.size + 1,0,none⟩ 1 1 [.int .i64 kd,.string ⟨tx.toArray⟩,.int .i64 nu,.int .i64 k] rfl rfl ?c1 ?c2 ?c3 ?c4 ?c5 ?_)
         case c1 =>
          intro j u hj
          match j,hj with
          | 0,hj => simp at hj; subst hj; simp [Addr.add]
          | 1,hj => simp at hj; subst hj; simp [Addr.add]
          | 2,hj => simp at hj; subst hj; simp [Addr.add]
          | 3,hj => simp at hj; subst hj; simp [Addr.add]
         case c2 => intro u hu; simp at hu; rcases hu with rfl | rfl | rfl | rfl <;> rfl
         case c3 => unfold maxLen; omega
         case c4 => omega
         case c5 => simp; omega
         intro v5 w5 hown5 hgr5 _
         have hb5 : Below w.heap.size w w5:=hb4.grown hgr5 (by simp; omega) (fun k hk => (hlw k hk).1)
         clear hown2 hb4 hgr5 hlw hi hz0 hz1 hz2 i0
         have hcells : tksCells acc ++ [.int .i64 kd,.string ⟨tx.toArray⟩,.int .i64 nu,.int .i64 k] = tksCells (acc ++ [(kd,tx,nu,k)]):=by simp [tksCells,tkCells]
         rw [hcells] at hown5
         clear hcells
         obtain ⟨g5,cv5,hv5,_,_⟩:=hown5.form (by omega)
         subst hv5
         have hk5:=skipTo_le s.data.toList en (by rw [HL.out]; exact hen2)
         rw [HL.out] at hk5
         have hk6:=skipTo_ge s.data.toList en
         have HN : Hid (∃ g,s.size - skipTo s.data.toList en < g ∧ scanRes s.data.toList = scanF s.data.toList g (skipTo s.data.toList en) (acc ++ [(kd,tx,nu,k)])):=by
          obtain ⟨g,h1,h2⟩:=HX.out
          exact ⟨g,by have:=HF.out.1; omega,h2⟩
         clear HX
         have cK:=HB.out en hen2 w5
         generalize skipTo s.data.toList en = k5 at *
         go_wp2_with fail
         refine cK.mono ?_
         rintro e w6 ⟨rfl,hw⟩
         subst hw
         obtain ⟨g6,hg1,hg2⟩:=HN.out
         have HG : Hid (s.size - k5 < g6 ∧ scanRes s.data.toList = scanF s.data.toList g6 k5 (acc ++ [(kd,tx,nu,k)])):=⟨hg1,hg2⟩
         clear hg1 hg2 HN
         go_wp2
         go_roundw
         case rel => exact ⟨k5,g6,acc ++ [(kd,tx,nu,k)],g5,cv5,hk5,rfl,by simp,by simpa using hown5,hb5,by simp; omega,HG⟩
         case measure => simp [intOf]; omega
    · have HX : Hid (scanRes s.data.toList = (acc,0,0)):=HF.out.2.trans (scanF_end (by have:=HF.out.1; omega) (by rw [HL.out]; exact hlt))
      go_wp2
      go_ret3
      exact ⟨_,by rw [HX.out]; rfl,by rw [HX.out]; exact hown,hbr⟩
end Go.Proofs.YtnkphlkjhgngkaaGreatDoor
