/- awake of layer 3: the simplest facts. -/
import Derived.Test.YtffnaknidofobaaGreatDoorPmNJt
import Derived.Test.YtffnaknidofobaaGreatDoorPrPJt
import Derived.Test.YtffnaknidofobaaGreatDoorLawBJt
namespace Go.Proofs.YtffnaknidofobaaGreatDoor
open Go.RowKit
attribute [local go_sem ↓] Go.wp_at_zero Go.wp_at_succ
theorem Gw.up {B B' : Nat} {w : World} (h : Gw B w) (hB : B ≤ B') : Gw B' w:=⟨h.gl,h.tab,Nat.le_trans h.le hB⟩
def awT : Tr:=.mk 1 [] 0 [.mk 4 [109,97,105,110] 0 [.mk 7 [] 0 [],.mk 20 [] 0 [.mk 24 [] 0 [.mk 51 [] 0 [.mk 44 [112,114,105,110,116] 0 [],.mk 40 [] 1 []]]]]]
theorem awP : parseP [102,117,110,99,32,109,97,105,110,40,41,123,112,114,105,110,116,40,49,41,59,125] = (some awT,0,0):=by kernel_rfl
theorem awX : ∀ n,txtT n awT:=by
 intro n
 rcases n with _ | _ | _ | _ | _ | _ | _ | n <;> simp [txtT,awT,Tr.text,Tr.kids,maxLen]
theorem awS : textP awT = ([102,117,110,99,32,109,97,105,110,32,40,32,41,32,123,10,112,114,105,110,116,32,40,32,49,32,41,32,59,10,125,10],0):=by decide +kernel
set_option maxRecDepth 20000 in
set_option maxHeartbeats 1600000 in
theorem awake_any (w : World) (hG : Gw w.heap.size w) : Calls Tryz.prog 11 #[] w fun e w' => e = .returned (.bool true) ∧ Below w.heap.size w w':=by
 have c1:=parse_any ⟨#[102,117,110,99,32,109,97,105,110,40,41,123,112,114,105,110,116,40,49,41,59,125]⟩ (by decide) w hG.gl
 rw [show (ByteArray.mk #[102,117,110,99,32,109,97,105,110,40,41,123,112,114,105,110,116,40,49,41,59,125]).data.toList = [102,117,110,99,32,109,97,105,110,40,41,123,112,114,105,110,116,40,49,41,59,125] from rfl,awP] at c1
 go_enter Tryz.func11,Tryz.ntmps11
 go_wp2_with fail
 refine c1.mono ?_
 rintro e w1 ⟨hb1,sl,rfl,hk⟩
 clear c1
 have hz1:=hb1.size
 obtain ⟨ao,c,rfl⟩:=(Lst.kids hk).slice
 obtain ⟨W,hW⟩ : ∃ W,w1.alloc (.cells #[.int .i64 1,.string ⟨awT.text.toArray⟩,.int .i64 awT.num,.slice ao awT.kids.length c] 24) = W:=⟨_,rfl⟩
 have hbW : Below w1.heap.size w1 W:=hW ▸ (Below.refl _ _).alloc (Nat.le_refl _) _
 have hzW:=hbW.size
 have hB : Below w.heap.size w W:=hb1.trans (hbW.mono hz1)
 have c2:=printText_any awT (.slice ao awT.kids.length c) W ((hG.later hB).up hB.size) awX (parse_good awP).2 (hk.fr (fun b hb => hbW.block b hb.2) (fun _ h => Nat.lt_of_lt_of_le h.2 hzW))
 rw [awS] at c2
 clear hk
 subst hW
 go_wp2_with fail
 refine c2.mono ?_
 rintro e w2 ⟨rfl,hb2⟩
 clear c2
 go_wp2
 go_ret
 exact ⟨rfl,hB.trans (hb2.mono hB.size)⟩
end Go.Proofs.YtffnaknidofobaaGreatDoor

namespace Go.Proofs.YtffnaknidofobaaGreatDoor
open Go.RowKit
attribute [local go_sem ↓] Go.wp_at_zero Go.wp_at_succ
theorem textP_sound {t : Tr} (hs : soundT t = true) : textP t = ([],4) ∨ (textP t).2 = 0 ∧ (textP t).1.length ≤ 65536:=by
 unfold textP textR
 rw [if_pos hs]
 split
 · exact .inl rfl
 · exact .inr ⟨rfl,by simp only; omega⟩
theorem parseP_none {l : List UInt8} {a : Nat} {er : Int} (h : parseP l = (none,a,er)) : er ≠ 0:=by
 rcases (parse_fault h).2 with h | h | h <;> omega
set_option maxRecDepth 20000 in
set_option maxHeartbeats 800000 in
theorem once_any (s : ByteArray) (hs : s.size ≤ maxLen) (w : World) (hG : Gw w.heap.size w) : Calls Tryz.prog 5 #[.string s] w fun e w' => e = .returned (.bool true) ∧ Below w.heap.size w w':=by
 have c1:=parse_any s hs w hG.gl
 have HG:=Lib.hid hG
 rcases hp : parseP s.data.toList with ⟨_ | t,a,er⟩
 · rw [hp] at c1
   have he:=parseP_none hp
   have he2 : (er != 0) = true:=by simpa using he
   clear hp
   go_enter Tryz.func5,Tryz.ntmps5
   go_wp2_with fail
   refine c1.mono ?_
   rintro e w1 ⟨hb1,rfl⟩
   clear c1
   obtain ⟨W,hW⟩ : ∃ W,w1.alloc (.cells #[.int .i64 0,.string ⟨#[]⟩,.int .i64 0,.slice none 0 0] 24) = W:=⟨_,rfl⟩
   have hB : Below w.heap.size w W:=hb1.trans ((hW ▸ (Below.refl _ _).alloc (Nat.le_refl _) _ : Below w1.heap.size w1 W).mono hb1.size)
   have c2:=awake_any W ((hG.later hB).up hB.size)
   subst hW
   go_wp2_with fail
   refine c2.mono ?_
   rintro e w2 ⟨rfl,hb2⟩
   have hB2:=hB.trans (hb2.mono hB.size)
   clear c2
   have c3:=awake_any w2 ((HG.out.later hB2).up hB2.size)
   go_wp2_with fail
   refine c3.mono ?_
   rintro e w3 ⟨rfl,hb3⟩
   clear c3
   go_wp2
   go_ret
   exact ⟨rfl,hB2.trans (hb3.mono hB2.size)⟩
 · obtain ⟨_,_,ha,he,_⟩:=parseP_some hp
   subst ha he
   rw [hp] at c1
   obtain ⟨hS,hN⟩:=parse_good hp
   have hX:=sound_tx hS
   have HTB:=Lib.hid (text_back hS hN)
   have HT : Hid (textP t = ([],4) ∨ (textP t).2 = 0 ∧ (textP t).1.length ≤ 65536):=textP_sound hS
   have cT:=fun W sl (hg : Gw W.heap.size W) (hk : KT W (· < W.heap.size) t sl) => printText_any t sl W hg hX hN hk
   clear hp hS hN hX
   go_enter Tryz.func5,Tryz.ntmps5
   go_wp2_with fail
   refine c1.mono ?_
   rintro e w1 ⟨hb1,sl,rfl,hk⟩
   clear c1
   have hz1:=hb1.size
   obtain ⟨ao,c,rfl⟩:=(Lst.kids hk).slice
   obtain ⟨W,hW⟩ : ∃ W,w1.alloc (.cells #[.int .i64 t.kind,.string ⟨t.text.toArray⟩,.int .i64 t.num,.slice ao t.kids.length c] 24) = W:=⟨_,rfl⟩
   have hbW : Below w1.heap.size w1 W:=hW ▸ (Below.refl _ _).alloc (Nat.le_refl _) _
   have hzW:=hbW.size
   have hB : Below w.heap.size w W:=hb1.trans (hbW.mono hz1)
   have hbx : W.heap[w1.heap.size]? = some (nbx t (.slice ao t.kids.length c)):=by rw [← hW]; exact heap_alloc_new w1 _
   have hk1 : KT W (· < W.heap.size) t (.slice ao t.kids.length c):=hk.fr (fun b hb => hbW.block b hb.2) (fun _ h => Nat.lt_of_lt_of_le h.2 hzW)
   have hlt : w1.heap.size < W.heap.size:=by rw [← hW]; simp
   have c2:=awake_any W ((hG.later hB).up hB.size)
   clear hk
   subst hW
   go_wp2_with fail
   refine c2.mono ?_
   rintro e w2 ⟨rfl,hb2⟩
   clear c2
   have hB2:=hB.trans (hb2.mono hB.size)
   have hbx2 : w2.heap[w1.heap.size]? = some (nbx t (.slice ao t.kids.length c)):=(hb2.block _ hlt).trans hbx
   have y0 : w2.cell? ⟨w1.heap.size,0,none⟩ = some (.int .i64 t.kind):=by rw [Lib.cell_of_heap hbx2]; rfl
   have y1 : w2.cell? ⟨w1.heap.size,1,none⟩ = some (.string ⟨t.text.toArray⟩):=by rw [Lib.cell_of_heap hbx2]; rfl
   have y2 : w2.cell? ⟨w1.heap.size,2,none⟩ = some (.int .i64 t.num):=by rw [Lib.cell_of_heap hbx2]; rfl
   have y3 : w2.cell? ⟨w1.heap.size,3,none⟩ = some (.slice ao t.kids.length c):=by rw [Lib.cell_of_heap hbx2]; rfl
   have c3:=cT w2 (.slice ao t.kids.length c) ((hG.later hB2).up hB2.size) (hk1.fr (fun b hb => hb2.block b hb) (fun _ h => Nat.lt_of_lt_of_le h hb2.size))
   clear hk1 hbx hbx2
   generalize hTP : textP t = tp at *
   obtain ⟨tx,te⟩:=tp
   rcases HT.out with h4 | ⟨h0,hl⟩
   · injection h4 with h41 h42
     subst h41 h42
     go_wp2_with fail
     refine c3.mono ?_
     rintro e w3 ⟨rfl,hb3⟩
     go_wp2
     go_ret
     exact ⟨rfl,hB2.trans (hb3.mono hB2.size)⟩
   · simp only at h0 hl
     subst h0
     go_wp2_with fail
     refine c3.mono ?_
     rintro e w3 ⟨rfl,hb3⟩
     clear c3 y0 y1 y2 y3
     have hB3:=hB2.trans (hb3.mono hB2.size)
     have c4:=parse_any ⟨tx.toArray⟩ (by unfold maxLen; show tx.toArray.size ≤ _; simp; omega) w3 (hG.later hB3).gl
     rw [show (ByteArray.mk tx.toArray).data.toList = tx from by simp] at c4
     rcases HTB.out trivial with hp | ⟨a,hp,ha⟩
     · rw [hp] at c4
       go_wp2_with fail
       refine c4.mono ?_
       rintro e w4 ⟨hb4,sl4,rfl,hk4⟩
       clear c4
       obtain ⟨ao4,d,rfl⟩:=(Lst.kids hk4).slice
       obtain ⟨V,hV⟩ : ∃ V,w4.alloc (.cells #[.int .i64 t.kind,.string ⟨t.text.toArray⟩,.int .i64 t.num,.slice ao4 t.kids.length d] 24) = V:=⟨_,rfl⟩
       have hbV : Below w4.heap.size w4 V:=hV ▸ (Below.refl _ _).alloc (Nat.le_refl _) _
       have hB4:=hB3.trans (hb4.mono hB3.size)
       have hB5:=hB4.trans (hbV.mono hB4.size)
       have c5:=cT V (.slice ao4 t.kids.length d) ((hG.later hB5).up hB5.size) (hk4.fr (fun b hb => hbV.block b hb.2) (fun _ h => Nat.lt_of_lt_of_le h.2 hbV.size))
       subst hV
       go_wp2_with fail
       refine c5.mono ?_
       rintro e w5 ⟨rfl,hb5⟩
       go_wp2
       go_ret
       exact ⟨by simp,hB5.trans (hb5.mono hB5.size)⟩
     · rw [hp] at c4
       go_wp2_with fail
       refine c4.mono ?_
       rintro e w4 ⟨hb4,rfl⟩
       clear c4
       go_wp2
       go_ret
       have hB4:=hB3.trans (hb4.mono hB3.size)
       exact ⟨by simp,hB4.alloc hB4.size _⟩
end Go.Proofs.YtffnaknidofobaaGreatDoor

namespace Go.Proofs.YtffnaknidofobaaGreatDoor
open Go.RowKit
attribute [local go_sem ↓] Go.wp_at_zero Go.wp_at_succ
set_option maxRecDepth 20000 in
set_option maxHeartbeats 40000000 in
theorem same_any : ∀ (n : Nat) (k : Int) (s : List UInt8) (m : Int) (ks : List Tr) (k' : Int) (s' : List UInt8) (m' : Int) (ks' : List Tr) (ao : Option Addr) (c : Nat) (ao' : Option Addr) (c' : Nat) (S S' : Nat → Prop) (w : World),Lim n (.mk k s m ks) → (∀ b,S b → b < w.heap.size) → (∀ b,S' b → b < w.heap.size) → KT w S (.mk k s m ks) (.slice ao ks.length c) → KT w S' (.mk k' s' m' ks') (.slice ao' ks'.length c') →
    Calls Tryz.prog 14 #[.agg #[.int .i64 k,.string ⟨s.toArray⟩,.int .i64 m,.slice ao ks.length c],.agg #[.int .i64 k',.string ⟨s'.toArray⟩,.int .i64 m',.slice ao' ks'.length c']] w (OutB (sameT (.mk k s m ks) (.mk k' s' m' ks')) w):=by
  intro n
  induction n with
  | zero => intro k s m ks k' s' m' ks' ao c ao' c' S S' w h; exact h.elim
  | succ n ih =>
   intro k s m ks k' s' m' ks' ao c ao' c' S S' w hF hS hS' hk hk'
   have HI:=Lib.hid ih
   clear ih
   obtain ⟨hF1,hF2⟩:=hF
   change ks.length ≤ 20000 at hF1
   change ∀ k ∈ ks,Lim n k at hF2
   have HF2:=Lib.hid hF2
   have hL:=Lst.of hk
   have hL':=Lst.of hk'
   have HR : Hid (sameT (.mk k s m ks) (.mk k' s' m' ks') = (k == k' && (s == s' && (m == m' && (ks.length == ks'.length && sameL ks ks'))))):=by simp [Hid,sameT]
   have hX0:=Hy.start (w:=w) (c0:=.int .i64 k) (c1:=.string ⟨s.toArray⟩) (c2:=.int .i64 m) (c3:=.slice ao ks.length c) (d0:=.int .i64 k') (d1:=.string ⟨s'.toArray⟩) (d2:=.int .i64 m') (d3:=.slice ao' ks'.length c')
   clear hF2 hk hk'
   by_cases e1 : k = k'
   · by_cases e2 : s = s'
     · by_cases e3 : m = m'
       · by_cases e4 : ks.length = ks'.length
         · have HX0 : Hid (sameT (.mk k s m ks) (.mk k' s' m' ks') = sameL ks ks'):=HR.out.trans (by simp [e1,e2,e3,e4])
           subst e1 e2 e3
           have f4 : ((ks.length : Int) != (ks'.length : Int)) = false:=by simp; omega
           have l1 : ks.length ≤ ks'.length:=by omega
           have l2 : ks'.length ≤ ks.length:=by omega
           clear e4
           go_enter Tryz.func14,Tryz.ntmps14
           go_wp2_with fail
           go_loopw [5] (fun v wr => ∃ j : Nat,j ≤ ks.length ∧ v = .int .i64 j ∧ Hy w (.int .i64 k) (.string ⟨s.toArray⟩) (.int .i64 m) (.slice ao ks.length c) (.int .i64 k) (.string ⟨s.toArray⟩) (.int .i64 m) (.slice ao' ks'.length c') wr ∧ Hid (∀ (i : Nat) a b,i < j → ks[i]? = some a → ks'[i]? = some b → sameT a b = true)) (fun v _ => ks.length - (intOf v).toNat)
           case atStart => exact ⟨0,Nat.zero_le _,rfl,hX0,Lib.hid (fun i q t hi => by omega)⟩
           case round =>
            obtain ⟨j,hj,rfl,hX,HA⟩:=hrel
            obtain ⟨x0,x1,x2,x3,x4,x5,x6,x7⟩:=hX.cells
            by_cases hlt : j < ks.length
            · obtain ⟨a,ha⟩ : ∃ t,ks[j]? = some t:=⟨_,List.getElem?_eq_getElem hlt⟩
              obtain ⟨b,hb⟩ : ∃ t,ks'[j]? = some t:=⟨_,List.getElem?_eq_getElem (by omega)⟩
              obtain ⟨g,o,a0,n0,q0,hao,y0,y1,y2,y3,hg,hka⟩:=hL.kid ha hS
              obtain ⟨g',o',a0',n0',q0',hao',u0,u1,u2,u3,hg',hkb⟩:=hL'.kid hb hS'
              subst hao hao'
              have hd:=hX.drew
              have z0:=(hX.out.cell (p:=⟨g,o + j * 4,none⟩) hg).trans y0
              have z1:=(hX.out.cell (p:=⟨g,o + j * 4 + 1,none⟩) hg).trans y1
              have z2:=(hX.out.cell (p:=⟨g,o + j * 4 + 2,none⟩) hg).trans y2
              have z3:=(hX.out.cell (p:=⟨g,o + j * 4 + 3,none⟩) hg).trans y3
              have v0:=(hX.out.cell (p:=⟨g',o' + j * 4,none⟩) hg').trans u0
              have v1:=(hX.out.cell (p:=⟨g',o' + j * 4 + 1,none⟩) hg').trans u1
              have v2:=(hX.out.cell (p:=⟨g',o' + j * 4 + 2,none⟩) hg').trans u2
              have v3:=(hX.out.cell (p:=⟨g',o' + j * 4 + 3,none⟩) hg').trans u3
              have hlt' : j < ks'.length:=by omega
              have hLa:=HF2.out a (List.mem_of_getElem? ha)
              obtain ⟨ak,av,am,aks⟩:=a
              obtain ⟨bk,bt,bm,bks⟩:=b
              obtain ⟨_,_,e⟩:=(Lst.of hka).slice
              injection e with e4 e5 e7
              clear e4 e7
              obtain ⟨_,_,e⟩:=(Lst.of hkb).slice
              injection e with e4 e6 e7
              clear e4 e7
              subst e5 e6
              have HAA:=Lib.hid ha
              have HBB:=Lib.hid hb
              simp only [Tr.kind,Tr.text,Tr.num] at z0 z1 z2 v0 v1 v2
              clear ha hb y0 y1 y2 y3 u0 u1 u2 u3
              go_wp2_with fail
              have HK : Hid (∀ WW,Hy w (.int .i64 k) (.string ⟨s.toArray⟩) (.int .i64 m) (.slice (some ⟨g,o,none⟩) ks.length c) (.int .i64 k) (.string ⟨s.toArray⟩) (.int .i64 m) (.slice (some ⟨g',o',none⟩) ks'.length c') WW ∧ WW.cell? ⟨w.heap.size,3,none⟩ = some (.slice (some ⟨g,o,none⟩) ks.length c) ∧ WW.cell? ⟨w.heap.size + 1,3,none⟩ = some (.slice (some ⟨g',o',none⟩) ks'.length c') ∧ WW.cell? ⟨g,o + j * 4,none⟩ = some (.int .i64 ak) ∧ WW.cell? ⟨g,o + j * 4 + 1,none⟩ = some (.string ⟨av.toArray⟩) ∧ WW.cell? ⟨g,o + j * 4 + 2,none⟩ = some (.int .i64 am) ∧ WW.cell? ⟨g,o + j * 4 + 3,none⟩ = some (.slice a0 aks.length q0) ∧ WW.cell? ⟨g',o' + j * 4,none⟩ = some (.int .i64 bk) ∧ WW.cell? ⟨g',o' + j * 4 + 1,none⟩ = some (.string ⟨bt.toArray⟩) ∧ WW.cell? ⟨g',o' + j * 4 + 2,none⟩ = some (.int .i64 bm) ∧ WW.cell? ⟨g',o' + j * 4 + 3,none⟩ = some (.slice a0' bks.length q0') → Calls Tryz.prog 14 #[.agg #[.int .i64 ak,.string ⟨av.toArray⟩,.int .i64 am,.slice a0 aks.length q0],.agg #[.int .i64 bk,.string ⟨bt.toArray⟩,.int .i64 bm,.slice a0' bks.length q0']] WW fun e WW => e = .returned (.bool (sameT (.mk ak av am aks) (.mk bk bt bm bks))) ∧ Hy w (.int .i64 k) (.string ⟨s.toArray⟩) (.int .i64 m) (.slice (some ⟨g,o,none⟩) ks.length c) (.int .i64 k) (.string ⟨s.toArray⟩) (.int .i64 m) (.slice (some ⟨g',o',none⟩) ks'.length c') WW ∧ WW.cell? ⟨w.heap.size,3,none⟩ = some (.slice (some ⟨g,o,none⟩) ks.length c) ∧ WW.cell? ⟨w.heap.size + 1,3,none⟩ = some (.slice (some ⟨g',o',none⟩) ks'.length c') ∧ WW.cell? ⟨g,o + j * 4,none⟩ = some (.int .i64 ak) ∧ WW.cell? ⟨g,o + j * 4 + 1,none⟩ = some (.string ⟨av.toArray⟩) ∧ WW.cell? ⟨g,o + j * 4 + 2,none⟩ = some (.int .i64 am) ∧ WW.cell? ⟨g,o + j * 4 + 3,none⟩ = some (.slice a0 aks.length q0) ∧ WW.cell? ⟨g',o' + j * 4,none⟩ = some (.int .i64 bk) ∧ WW.cell? ⟨g',o' + j * 4 + 1,none⟩ = some (.string ⟨bt.toArray⟩) ∧ WW.cell? ⟨g',o' + j * 4 + 2,none⟩ = some (.int .i64 bm) ∧ WW.cell? ⟨g',o' + j * 4 + 3,none⟩ = some (.slice a0' bks.length q0')):=by
               refine Lib.hid ?_
               rintro W ⟨hY,q3,q7,w0,w1,w2,w3,t0,t1,t2,t3⟩
               have hbo:=hY.out
               refine (HI.out ak av am aks bk bt bm bks a0 q0 a0' q0' S S' W hLa (fun b hb => Nat.lt_of_lt_of_le (hS b hb) hbo.size) (fun b hb => Nat.lt_of_lt_of_le (hS' b hb) hbo.size) (hka.fr (fun b hb => hbo.block b (hS b hb)) (fun _ h => h)) (hkb.fr (fun b hb => hbo.block b (hS' b hb)) (fun _ h => h))).mono ?_
               rintro e W2 ⟨rfl,hb2⟩
               have hp1 : w.heap.size < W.heap.size:=by have:=hY.size; omega
               have hp2 : w.heap.size + 1 < W.heap.size:=by have:=hY.size; omega
               have hp3 : g < W.heap.size:=Nat.lt_of_lt_of_le hg hbo.size
               have hp4 : g' < W.heap.size:=Nat.lt_of_lt_of_le hg' hbo.size
               exact ⟨rfl,hY.next hb2,(hb2.cell (p:=⟨w.heap.size,3,none⟩) hp1).trans q3,(hb2.cell (p:=⟨w.heap.size + 1,3,none⟩) hp2).trans q7,(hb2.cell (p:=⟨g,o + j * 4,none⟩) hp3).trans w0,(hb2.cell (p:=⟨g,o + j * 4 + 1,none⟩) hp3).trans w1,(hb2.cell (p:=⟨g,o + j * 4 + 2,none⟩) hp3).trans w2,(hb2.cell (p:=⟨g,o + j * 4 + 3,none⟩) hp3).trans w3,(hb2.cell (p:=⟨g',o' + j * 4,none⟩) hp4).trans t0,(hb2.cell (p:=⟨g',o' + j * 4 + 1,none⟩) hp4).trans t1,(hb2.cell (p:=⟨g',o' + j * 4 + 2,none⟩) hp4).trans t2,(hb2.cell (p:=⟨g',o' + j * 4 + 3,none⟩) hp4).trans t3⟩
              clear hX hX0 x0 x1 x2 x4 x5 x6 HF2 HI hL hL' hS hS' hLa hg hg' l1 l2 f4 HR hka hkb
              go_region_held3 (fun WW => Hy w (.int .i64 k) (.string ⟨s.toArray⟩) (.int .i64 m) (.slice (some ⟨g,o,none⟩) ks.length c) (.int .i64 k) (.string ⟨s.toArray⟩) (.int .i64 m) (.slice (some ⟨g',o',none⟩) ks'.length c') WW ∧ WW.cell? ⟨w.heap.size,3,none⟩ = some (.slice (some ⟨g,o,none⟩) ks.length c) ∧ WW.cell? ⟨w.heap.size + 1,3,none⟩ = some (.slice (some ⟨g',o',none⟩) ks'.length c') ∧ WW.cell? ⟨g,o + j * 4,none⟩ = some (.int .i64 ak) ∧ WW.cell? ⟨g,o + j * 4 + 1,none⟩ = some (.string ⟨av.toArray⟩) ∧ WW.cell? ⟨g,o + j * 4 + 2,none⟩ = some (.int .i64 am) ∧ WW.cell? ⟨g,o + j * 4 + 3,none⟩ = some (.slice a0 aks.length q0) ∧ WW.cell? ⟨g',o' + j * 4,none⟩ = some (.int .i64 bk) ∧ WW.cell? ⟨g',o' + j * 4 + 1,none⟩ = some (.string ⟨bt.toArray⟩) ∧ WW.cell? ⟨g',o' + j * 4 + 2,none⟩ = some (.int .i64 bm) ∧ WW.cell? ⟨g',o' + j * 4 + 3,none⟩ = some (.slice a0' bks.length q0')) (first | assumption | exact ⟨hd,x3,x7,z0,z1,z2,z3,v0,v1,v2,v3⟩) (first | (go_simp; go_at_call 14; refine (HK.out _ (by assumption)).mono ?_; rintro e w2 ⟨rfl,hs2⟩))
              all_goals
               have hX2:=hs2.1
               cases hp : sameT (.mk ak av am aks) (.mk bk bt bm bks) with
               | false =>
                have HX : Hid (sameT (.mk k s m ks) (.mk k s m ks') = false):=HX0.out.trans (sameL_get _ _ j _ _ HAA.out HBB.out hp)
                clear hp
                go_wp2
                go_ret
                exact OutB.of HX ⟨rfl,hX2.out⟩
               | true =>
                have HX : Hid (∀ (i : Nat) a b,i < j + 1 → ks[i]? = some a → ks'[i]? = some b → sameT a b = true):=by
                 refine Lib.hid ?_
                 intro i a b hi h1 h2
                 rcases Nat.lt_or_ge i j with h3 | h3
                 · exact HA.out i a b h3 h1 h2
                 · have : i = j:=by omega
                   subst this
                   rw [HAA.out] at h1; rw [HBB.out] at h2
                   cases h1; cases h2; exact hp
                clear hp
                go_wp2
                go_roundw
                case rel => exact ⟨j + 1,by omega,by go_num,hX2,HX⟩
                case measure => simp [intOf]; omega
            · have HX : Hid (sameT (.mk k s m ks) (.mk k s m ks') = true):=HX0.out.trans (sameL_all _ _ fun i a b h1 h2 => HA.out i a b (by
                have : i < ks.length:=by
                 rcases Nat.lt_or_ge i ks.length with h | h
                 · exact h
                 · rw [List.getElem?_eq_none h] at h1; cases h1
                omega) h1 h2)
              go_wp2
              go_ret
              exact OutB.of HX ⟨rfl,hX.out⟩
         · have HX : Hid (sameT (.mk k s m ks) (.mk k' s' m' ks') = false):=HR.out.trans (by simp [e4])
           subst e1 e2 e3
           have f4 : ((ks.length : Int) != (ks'.length : Int)) = true:=by simp; omega
           clear e4
           go_enter Tryz.func14,Tryz.ntmps14
           go_wp2
           go_ret
           exact OutB.of HX ⟨rfl,hX0.out⟩
       · have HX : Hid (sameT (.mk k s m ks) (.mk k' s' m' ks') = false):=HR.out.trans (by simp [e3])
         subst e1 e2
         have f3 : (m != m') = true:=by simpa using e3
         clear e3
         go_enter Tryz.func14,Tryz.ntmps14
         go_wp2
         go_ret
         exact OutB.of HX ⟨rfl,hX0.out⟩
     · have HX : Hid (sameT (.mk k s m ks) (.mk k' s' m' ks') = false):=HR.out.trans (by simp [e2])
       subst e1
       have f2 : (s != s') = true:=by simpa using e2
       go_enter Tryz.func14,Tryz.ntmps14
       go_wp2
       go_ret
       exact OutB.of HX ⟨rfl,hX0.out⟩
   · have HX : Hid (sameT (.mk k s m ks) (.mk k' s' m' ks') = false):=HR.out.trans (by simp [e1])
     have f1 : (k != k') = true:=by simpa using e1
     clear e1
     go_enter Tryz.func14,Tryz.ntmps14
     go_wp2
     go_ret
     exact OutB.of HX ⟨rfl,hX0.out⟩
end Go.Proofs.YtffnaknidofobaaGreatDoor

namespace Go.Proofs.YtffnaknidofobaaGreatDoor
open Go.RowKit
attribute [local go_sem ↓] Go.wp_at_zero Go.wp_at_succ
theorem textP_not {t : Tr} (hs : soundT t = false) : textP t = ([],2):=by unfold textP; rw [hs]; rfl
theorem same_self (t : Tr) (ao ao' : Option Addr) (c c' : Nat) (S S' : Nat → Prop) (w : World) (hL : Lim 100 t) (h1 : ∀ b,S b → b < w.heap.size) (h2 : ∀ b,S' b → b < w.heap.size) (k1 : KT w S t (.slice ao t.kids.length c)) (k2 : KT w S' t (.slice ao' t.kids.length c')) :
    Calls Tryz.prog 14 #[tv t (.slice ao t.kids.length c),tv t (.slice ao' t.kids.length c')] w (OutB true w):=by
  obtain ⟨k,s,m,ks⟩:=t
  have:=same_any 100 k s m ks k s m ks ao c ao' c' S S' w hL h1 h2 k1 k2
  rw [sameT_refl] at this
  exact this
set_option maxRecDepth 20000 in
set_option maxHeartbeats 800000 in
theorem back_any (t : Tr) (sl : Value) (w : World) (hG : Gw w.heap.size w) (hX : ∀ n,txtT n t) (hN : nmT 100 t) (hk : KT w (· < w.heap.size) t sl) :
    Calls Tryz.prog 4 #[tv t sl] w fun e w' => e = .returned (.bool true) ∧ Below w.heap.size w w':=by
  obtain ⟨ao,c,rfl⟩ : ∃ ao c,sl = .slice ao t.kids.length c:=(Lst.kids hk).slice
  have hb0 : Below w.heap.size w (w.alloc (nbx t (.slice ao t.kids.length c))):=(Below.refl _ _).alloc (Nat.le_refl _) _
  obtain ⟨W0,hW⟩ : ∃ W,w.alloc (nbx t (.slice ao t.kids.length c)) = W:=⟨_,rfl⟩
  have hbx : W0.heap[w.heap.size]? = some (nbx t (.slice ao t.kids.length c)):=by rw [← hW]; exact heap_alloc_new w _
  have hz0 : w.heap.size < W0.heap.size:=by rw [← hW]; simp
  rw [hW] at hb0
  have hW' : w.alloc (.cells #[.int .i64 t.kind,.string ⟨t.text.toArray⟩,.int .i64 t.num,.slice ao t.kids.length c] 24) = W0:=hW
  have hk0 : KT W0 (· < W0.heap.size) t (.slice ao t.kids.length c):=hk.fr (fun b hb => hb0.block b hb) (fun _ h => Nat.lt_of_lt_of_le h hb0.size)
  have c1:=printText_any t (.slice ao t.kids.length c) W0 ((hG.later hb0).up hb0.size) hX hN hk0
  have y0 : W0.cell? ⟨w.heap.size,0,none⟩ = some (.int .i64 t.kind):=by rw [Lib.cell_of_heap hbx]; rfl
  have y1 : W0.cell? ⟨w.heap.size,1,none⟩ = some (.string ⟨t.text.toArray⟩):=by rw [Lib.cell_of_heap hbx]; rfl
  have y2 : W0.cell? ⟨w.heap.size,2,none⟩ = some (.int .i64 t.num):=by rw [Lib.cell_of_heap hbx]; rfl
  have y3 : W0.cell? ⟨w.heap.size,3,none⟩ = some (.slice ao t.kids.length c):=by rw [Lib.cell_of_heap hbx]; rfl
  have HB : ∀ W,Below W0.heap.size W0 W → Below w.heap.size w W:=fun W h => hb0.trans (h.mono hb0.size)
  have HGW : ∀ W,Below W0.heap.size W0 W → Gw W.heap.size W:=fun W h => (hG.later (HB W h)).up (HB W h).size
  have HK : ∀ W,Below W0.heap.size W0 W → KT W (· < W0.heap.size) t (.slice ao t.kids.length c):=fun W h => hk0.fr (fun b hb => h.block b hb) (fun _ h => h)
  have HBX : ∀ W,Below W0.heap.size W0 W → W.heap[w.heap.size]? = some (nbx t (.slice ao t.kids.length c)):=fun W h => (h.block _ hz0).trans hbx
  have HB:=Lib.hid HB
  have HGW:=Lib.hid HGW
  have HK:=Lib.hid HK
  have HBX:=Lib.hid HBX
  have HX:=Lib.hid hX
  clear hW hk hk0 hbx
  generalize hmm : w.heap.size = m at *
  cases hS : soundT t with
  | false =>
   rw [textP_not hS] at c1
   go_enter Tryz.func4,Tryz.ntmps4
   go_wp2_with fail
   refine c1.mono ?_
   rintro e w1 ⟨rfl,hb1⟩
   clear c1 y0 y1 y2 y3
   have c2:=awake_any w1 (HGW.out w1 hb1)
   go_wp2_with fail
   refine c2.mono ?_
   rintro e w2 ⟨rfl,hb2⟩
   clear c2
   have hb2':=hb1.trans (hb2.mono hb1.size)
   have c3:=awake_any w2 (HGW.out w2 hb2')
   go_wp2_with fail
   refine c3.mono ?_
   rintro e w3 ⟨rfl,hb3⟩
   clear c3
   have hb3':=hb2'.trans (hb3.mono hb2'.size)
   have hbx3:=HBX.out w3 hb3'
   have y0 : w3.cell? ⟨m,0,none⟩ = some (.int .i64 t.kind):=by rw [Lib.cell_of_heap hbx3]; rfl
   have y1 : w3.cell? ⟨m,1,none⟩ = some (.string ⟨t.text.toArray⟩):=by rw [Lib.cell_of_heap hbx3]; rfl
   have y2 : w3.cell? ⟨m,2,none⟩ = some (.int .i64 t.num):=by rw [Lib.cell_of_heap hbx3]; rfl
   have y3 : w3.cell? ⟨m,3,none⟩ = some (.slice ao t.kids.length c):=by rw [Lib.cell_of_heap hbx3]; rfl
   have c4:=sound_any t (.slice ao t.kids.length c) (· < W0.heap.size) w3 (HGW.out w3 hb3').gl (fun b hb => Nat.lt_of_lt_of_le hb hb3'.size) HX.out (HK.out w3 hb3')
   rw [hS] at c4
   go_wp2_with fail
   refine c4.mono ?_
   rintro e w4 ⟨rfl,hb4⟩
   go_wp2
   go_ret
   exact ⟨rfl,HB.out _ (hb3'.trans (hb4.mono hb3'.size))⟩
  | true =>
   have HTB:=Lib.hid (text_back hS hN)
   have HT:=textP_sound hS
   have HL : Hid (Lim 100 t):=lim_of_small (by simp only [soundT,Bool.and_eq_true] at hS; exact hS.1)
   generalize hTP : textP t = tp at *
   obtain ⟨tx,te⟩:=tp
   rcases HT with h4 | ⟨h0,hl⟩
   · injection h4 with h41 h42
     subst h41 h42
     go_enter Tryz.func4,Tryz.ntmps4
     go_wp2_with fail
     refine c1.mono ?_
     rintro e w1 ⟨rfl,hb1⟩
     clear c1 y0 y1 y2 y3
     have c2:=awake_any w1 (HGW.out w1 hb1)
     go_wp2_with fail
     refine c2.mono ?_
     rintro e w2 ⟨rfl,hb2⟩
     clear c2
     have hb2':=hb1.trans (hb2.mono hb1.size)
     have c3:=awake_any w2 (HGW.out w2 hb2')
     go_wp2_with fail
     refine c3.mono ?_
     rintro e w3 ⟨rfl,hb3⟩
     clear c3
     have hb3':=hb2'.trans (hb3.mono hb2'.size)
     have hbx3:=HBX.out w3 hb3'
     have y0 : w3.cell? ⟨m,0,none⟩ = some (.int .i64 t.kind):=by rw [Lib.cell_of_heap hbx3]; rfl
     have y1 : w3.cell? ⟨m,1,none⟩ = some (.string ⟨t.text.toArray⟩):=by rw [Lib.cell_of_heap hbx3]; rfl
     have y2 : w3.cell? ⟨m,2,none⟩ = some (.int .i64 t.num):=by rw [Lib.cell_of_heap hbx3]; rfl
     have y3 : w3.cell? ⟨m,3,none⟩ = some (.slice ao t.kids.length c):=by rw [Lib.cell_of_heap hbx3]; rfl
     have c4:=sound_any t (.slice ao t.kids.length c) (· < W0.heap.size) w3 (HGW.out w3 hb3').gl (fun b hb => Nat.lt_of_lt_of_le hb hb3'.size) HX.out (HK.out w3 hb3')
     rw [hS] at c4
     go_wp2_with fail
     refine c4.mono ?_
     rintro e w4 ⟨rfl,hb4⟩
     go_wp2
     go_ret
     exact ⟨rfl,HB.out _ (hb3'.trans (hb4.mono hb3'.size))⟩
   · simp only at h0 hl
     subst h0
     go_enter Tryz.func4,Tryz.ntmps4
     go_wp2_with fail
     refine c1.mono ?_
     rintro e w1 ⟨rfl,hb1⟩
     clear c1 y0 y1 y2 y3
     have c2:=awake_any w1 (HGW.out w1 hb1)
     go_wp2_with fail
     refine c2.mono ?_
     rintro e w2 ⟨rfl,hb2⟩
     clear c2
     have hb2':=hb1.trans (hb2.mono hb1.size)
     have c3:=parse_any ⟨tx.toArray⟩ (by unfold maxLen; show tx.toArray.size ≤ _; simp; omega) w2 (HGW.out w2 hb2').gl
     rw [show (ByteArray.mk tx.toArray).data.toList = tx from by simp] at c3
     rcases HTB.out trivial with hp | ⟨a,hp,ha⟩
     · rw [hp] at c3
       go_wp2_with fail
       refine c3.mono ?_
       rintro e w3 ⟨hb3,sl3,rfl,hk3⟩
       clear c3
       obtain ⟨ao3,d,rfl⟩:=(Lst.kids hk3).slice
       obtain ⟨V,hV⟩ : ∃ V,w3.alloc (.cells #[.int .i64 t.kind,.string ⟨t.text.toArray⟩,.int .i64 t.num,.slice ao3 t.kids.length d] 24) = V:=⟨_,rfl⟩
       have hbV : Below w3.heap.size w3 V:=hV ▸ (Below.refl _ _).alloc (Nat.le_refl _) _
       have hb3':=hb2'.trans (hb3.mono hb2'.size)
       have hbV':=hb3'.trans (hbV.mono hb3'.size)
       have hbxV:=HBX.out V hbV'
       have y0 : V.cell? ⟨m,0,none⟩ = some (.int .i64 t.kind):=by rw [Lib.cell_of_heap hbxV]; rfl
       have y1 : V.cell? ⟨m,1,none⟩ = some (.string ⟨t.text.toArray⟩):=by rw [Lib.cell_of_heap hbxV]; rfl
       have y2 : V.cell? ⟨m,2,none⟩ = some (.int .i64 t.num):=by rw [Lib.cell_of_heap hbxV]; rfl
       have y3 : V.cell? ⟨m,3,none⟩ = some (.slice ao t.kids.length c):=by rw [Lib.cell_of_heap hbxV]; rfl
       have hbn : V.heap[w3.heap.size]? = some (nbx t (.slice ao3 t.kids.length d)):=by rw [← hV]; exact heap_alloc_new w3 _
       have z0 : V.cell? ⟨w3.heap.size,0,none⟩ = some (.int .i64 t.kind):=by rw [Lib.cell_of_heap hbn]; rfl
       have z1 : V.cell? ⟨w3.heap.size,1,none⟩ = some (.string ⟨t.text.toArray⟩):=by rw [Lib.cell_of_heap hbn]; rfl
       have z2 : V.cell? ⟨w3.heap.size,2,none⟩ = some (.int .i64 t.num):=by rw [Lib.cell_of_heap hbn]; rfl
       have z3 : V.cell? ⟨w3.heap.size,3,none⟩ = some (.slice ao3 t.kids.length d):=by rw [Lib.cell_of_heap hbn]; rfl
       have c4:=same_self t ao ao3 c d (· < W0.heap.size) (Rg w2.heap.size w3.heap.size) V HL.out (fun b hb => Nat.lt_of_lt_of_le hb hbV'.size) (fun b hb => Nat.lt_of_lt_of_le hb.2 hbV.size) (HK.out V hbV') (hk3.fr (fun b hb => hbV.block b hb.2) (fun _ h => h))
       clear hbn hbxV hk3 hp
       go_wp2_with fail
       refine c4.mono ?_
       rintro e w4 ⟨rfl,hb4⟩
       clear c4
       go_wp2
       go_ret
       exact ⟨rfl,HB.out _ (hbV'.trans (hb4.mono hbV'.size))⟩
     · rw [hp] at c3
       go_wp2_with fail
       refine c3.mono ?_
       rintro e w3 ⟨hb3,rfl⟩
       clear c3
       go_wp2
       go_ret
       have hb3':=hb2'.trans (hb3.mono hb2'.size)
       exact ⟨by simp,HB.out _ (hb3'.alloc hb3'.size _)⟩
end Go.Proofs.YtffnaknidofobaaGreatDoor
