/- ParseTrees: the law's walk. -/
import Derived.Test.YtnkphlkjhgngkaaGreatDoorLawAJt
import Derived.Test.YtnkphlkjhgngkaaGreatDoorRdYJt
namespace Go.Proofs.YtnkphlkjhgngkaaGreatDoor
open Go.RowKit
attribute [local go_sem ↓] Go.wp_at_zero Go.wp_at_succ
def zeroTr : Tr:=.mk 0 [] 0 []
/-- Parse's answers, as they are handed back. -/
def parseQ (l : List UInt8) : Tr × Nat × Int:=match parseP l with
  | (some t,a,er) => (t,a,er)
  | (none,a,er) => (zeroTr,a,er)
theorem parseQ_any (s : ByteArray) (hs : s.size ≤ maxLen) (w : World) (hG : Gl w) : Calls Tryz.prog 8 #[.string s] w fun e w' => Below w.heap.size w w' ∧ ∃ ao c,e = .returned (.tuple #[tv (parseQ s.data.toList).1 (.slice ao (parseQ s.data.toList).1.kids.length c),.int .i64 (parseQ s.data.toList).2.1,.int .i64 (parseQ s.data.toList).2.2]) ∧ KT w' (Rg w.heap.size w'.heap.size) (parseQ s.data.toList).1 (.slice ao (parseQ s.data.toList).1.kids.length c):=by
 refine (parse_any s hs w hG).mono ?_
 intro e w' h
 unfold parseQ
 generalize parseP s.data.toList = r at *
 obtain ⟨h1,h2⟩:=h
 refine ⟨h1,?_⟩
 obtain ⟨o,a,er⟩:=r
 cases o with
 | none => exact ⟨none,0,h2,by simp only [zeroTr,KT]; exact ⟨[],.inl ⟨rfl,none,0,rfl⟩,by simp [KL]⟩⟩
 | some t =>
  obtain ⟨sl,he,hk⟩:=h2
  obtain ⟨ao,c,rfl⟩:=(Lst.kids hk).slice
  exact ⟨ao,c,he,hk⟩
theorem KT.below {S : Nat → Prop} {W W' : World} {t : Tr} {sl : Value} (h : KT W S t sl) (hS : ∀ b,S b → b < W.heap.size) (hb : Below W.heap.size W W') : KT W' S t sl:=h.fr (fun b hb' => hb.block b (hS b hb')) (fun _ h => h)
structure Bt (W : World) (b : Nat) (t : Tr) (ao : Option Addr) (n c : Nat) : Prop where
  blk : W.heap[b]? = some (.cells #[.int .i64 t.kind,.string ⟨t.text.toArray⟩,.int .i64 t.num,.slice ao n c] 24 (0,0))
theorem Bt.lt {W : World} {b : Nat} {t : Tr} {ao : Option Addr} {n c : Nat} (h : Bt W b t ao n c) : b < W.heap.size:=lt_of_block h.blk
theorem Bt.cells {W : World} {b : Nat} {t : Tr} {ao : Option Addr} {n c : Nat} (h : Bt W b t ao n c) : W.cell? ⟨b,0,none⟩ = some (.int .i64 t.kind) ∧ W.cell? ⟨b,1,none⟩ = some (.string ⟨t.text.toArray⟩) ∧ W.cell? ⟨b,2,none⟩ = some (.int .i64 t.num) ∧ W.cell? ⟨b,3,none⟩ = some (.slice ao n c) ∧ ∀ o,W.frozen? ⟨b,o,none⟩ = false:=by
 have e:=h.blk
 exact ⟨by simp [World.cell?,e],by simp [World.cell?,e],by simp [World.cell?,e],by simp [World.cell?,e],fun o => by simp [World.frozen?,e]⟩
theorem Bt.of_block {W W' : World} {b : Nat} {t : Tr} {ao : Option Addr} {n c : Nat} (h : Bt W b t ao n c) (hb : W'.heap[b]? = W.heap[b]?) : Bt W' b t ao n c:=⟨hb.trans h.blk⟩
theorem Bt.below {B : Nat} {W W' : World} {b : Nat} {t : Tr} {ao : Option Addr} {n c : Nat} (h : Bt W b t ao n c) (hb : Below B W W') (h1 : W.heap.size ≤ B) : Bt W' b t ao n c:=h.of_block (hb.block b (by have:=h.lt; omega))
theorem Bt.new (W : World) (t : Tr) (ao : Option Addr) (n c : Nat) : Bt (W.alloc (.cells #[.int .i64 t.kind,.string ⟨t.text.toArray⟩,.int .i64 t.num,.slice ao n c] 24)) W.heap.size t ao n c:=⟨heap_alloc_new W _⟩
theorem parseP_small {l : List UInt8} {t : Tr} {a : Nat} {er : Int} (h : parseP l = (some t,a,er)) : smallT t = true:=by
 unfold parseP at h
 split at h
 · cases h
 · cases hT : treeR ((scanRes l).1 ++ [(4,[],0,l.length)]) with
   | bad j => rw [hT] at h; cases h
   | ok u j =>
    rw [hT] at h
    simp only at h
    split at h
    · rename_i hs; cases h; exact hs
    · cases h
theorem rparseQ_any (s : ByteArray) (hs : s.size ≤ maxLen) (w : World) : Calls Tryz.prog 9 #[.string s] w fun e w' => Below w.heap.size w w' ∧ ∃ ao c,e = .returned (.tuple #[tv (parseQ s.data.toList).1 (.slice ao (parseQ s.data.toList).1.kids.length c),.int .i64 (parseQ s.data.toList).2.1,.int .i64 (parseQ s.data.toList).2.2]) ∧ KT w' (Rg w.heap.size w'.heap.size) (parseQ s.data.toList).1 (.slice ao (parseQ s.data.toList).1.kids.length c):=by
 refine (rparse_any s hs w).mono ?_
 intro e w' h
 unfold parseQ
 generalize parseP s.data.toList = r at *
 obtain ⟨h1,h2⟩:=h
 refine ⟨h1,?_⟩
 obtain ⟨o,a,er⟩:=r
 cases o with
 | none => exact ⟨none,0,h2,by simp only [zeroTr,KT]; exact ⟨[],.inl ⟨rfl,none,0,rfl⟩,by simp [KL]⟩⟩
 | some t =>
  obtain ⟨sl,he,hk⟩:=h2
  obtain ⟨ao,c,rfl⟩:=(Lst.kids hk).slice
  exact ⟨ao,c,he,hk⟩
theorem parseQ_lim (l : List UInt8) : Lim 100 (parseQ l).1:=by
 unfold parseQ
 cases hp : parseP l with
 | mk o r =>
  obtain ⟨a,er⟩:=r
  cases o with
  | none => exact ⟨Nat.zero_le _,fun k hk => by cases hk⟩
  | some t => exact lim_of_small (parseP_small hp)
set_option maxRecDepth 20000 in
set_option maxHeartbeats 4000000 in
theorem trees_any (s : ByteArray) (hs : s.size ≤ maxLen) (w : World) (hG : Gl w) : Calls Tryz.prog 3 #[.string s] w fun e w' => e = .returned (.bool true) ∧ Below w.heap.size w w':=by
 have c1:=parseQ_any s hs w hG
 have c2:=fun W => rparseQ_any s hs W
 have LJ:=Lib.hid (parseQ_lim s.data.toList)
 generalize (parseQ s.data.toList).2.2 = er at *
 generalize (parseQ s.data.toList).2.1 = a1 at *
 generalize (parseQ s.data.toList).1 = N at *
 obtain ⟨k,x,m,ks⟩:=N
 go_enter Tryz.func3,Tryz.ntmps3
 go_wp2_with fail
 refine c1.mono ?_
 rintro e w1 ⟨hb1,an,cn,rfl,kN1⟩
 clear c1
 have hz1:=hb1.size
 have bn2:=Bt.new w1 (.mk k x m ks) an ks.length cn
 have hb2:=(Below.refl w1.heap.size w1).alloc (Nat.le_refl _) (.cells #[.int .i64 k,.string ⟨x.toArray⟩,.int .i64 m,.slice an ks.length cn] 24)
 have hz2:=hb2.size
 have kN2 : KT (w1.alloc (.cells #[.int .i64 k,.string ⟨x.toArray⟩,.int .i64 m,.slice an ks.length cn] 24)) (Rg w.heap.size w1.heap.size) (.mk k x m ks) (.slice an ks.length cn):=kN1.below (fun b hb => hb.2) hb2
 have hB2:=hb1.trans (hb2.mono hz1)
 have c3:=c2 (w1.alloc (.cells #[.int .i64 k,.string ⟨x.toArray⟩,.int .i64 m,.slice an ks.length cn] 24))
 clear c2 kN1
 go_wp2_with fail
 refine c3.mono ?_
 rintro e w3 ⟨hb3,am,cm,rfl,kM3⟩
 clear c3
 have hz3:=hb3.size
 have bn3:=bn2.below hb3 (Nat.le_refl _)
 have kN3:=kN2.below (fun b hb => Nat.lt_of_lt_of_le hb.2 hz2) hb3
 have hB3:=hB2.trans (hb3.mono hB2.size)
 have bm4:=Bt.new w3 (.mk k x m ks) am ks.length cm
 have hb4:=(Below.refl w3.heap.size w3).alloc (Nat.le_refl _) (.cells #[.int .i64 k,.string ⟨x.toArray⟩,.int .i64 m,.slice am ks.length cm] 24)
 have hz4:=hb4.size
 have bn4:=bn3.below hb4 (Nat.le_refl _)
 have kN4:=kN3.below (fun b hb => Nat.lt_of_lt_of_le hb.2 (Nat.le_trans hz2 hz3)) hb4
 have kM4:=kM3.below (fun b hb => hb.2) hb4
 have hB4:=hB3.trans (hb4.mono hB3.size)
 have hSN : ∀ b,Rg w.heap.size w1.heap.size b → b < w3.heap.size:=fun b hb => Nat.lt_of_lt_of_le hb.2 (Nat.le_trans hz2 hz3)
 clear bn2 bn3 kN2 kN3 kM3
 go_wp2_with fail
 refine (awake_any _ (hG.later hB4)).mono ?_
 rintro e w5 ⟨rfl,hb5⟩
 have hz5:=hb5.size
 have bn5:=bn4.below hb5 (Nat.le_refl _)
 have bm5:=bm4.below hb5 (Nat.le_refl _)
 have kN5:=kN4.below (fun b hb => Nat.lt_of_lt_of_le (hSN b hb) hz4) hb5
 have kM5:=kM4.below (fun b hb => Nat.lt_of_lt_of_le hb.2 hz4) hb5
 have hB5:=hB4.trans (hb5.mono hB4.size)
 have hz6 : w3.heap.size ≤ w5.heap.size:=Nat.le_trans hz4 hz5
 have cS:=same_any 100 k x m ks k x m ks an cn am cm _ _ w5 LJ.out (fun b hb => Nat.lt_of_lt_of_le (hSN b hb) hz6) (fun b hb => Nat.lt_of_lt_of_le hb.2 hz6) kN5 kM5
 have hsame:=sameT_refl (.mk k x m ks)
 obtain ⟨j0,j1,j2,j3,_⟩:=bn5.cells
 obtain ⟨i0,i1,i2,i3,_⟩:=bm5.cells
 replace j0 : w5.cell? ⟨w1.heap.size,0,none⟩ = some (.int .i64 k):=j0
 replace j1 : w5.cell? ⟨w1.heap.size,1,none⟩ = some (.string ⟨x.toArray⟩):=j1
 replace j2 : w5.cell? ⟨w1.heap.size,2,none⟩ = some (.int .i64 m):=j2
 replace i0 : w5.cell? ⟨w3.heap.size,0,none⟩ = some (.int .i64 k):=i0
 replace i1 : w5.cell? ⟨w3.heap.size,1,none⟩ = some (.string ⟨x.toArray⟩):=i1
 replace i2 : w5.cell? ⟨w3.heap.size,2,none⟩ = some (.int .i64 m):=i2
 clear bn4 bm4 kN4 kM4 bn5 bm5 kN5 kM5 hb1 hb2 hb3 hb4 hb5 hz1 hz4 hz5
 go_wp2_with fail
 refine cS.mono ?_
 rintro e w10 ⟨he10,hb10⟩
 rw [hsame] at he10
 subst he10
 clear cS
 go_wp2
 go_ret
 exact ⟨rfl,hB5.trans (hb10.mono hB5.size)⟩
end Go.Proofs.YtnkphlkjhgngkaaGreatDoor
