/- The document's Same: its contract. -/
import Derived.Test.YtffnaknidofobaaGreatDoorLawBJt
import Derived.Test.YtffnaknidofobaaGreatDoorAwPJt
namespace Go.Proofs.YtffnaknidofobaaGreatDoor
open Go.RowKit
attribute [local go_sem ↓] Go.wp_at_zero Go.wp_at_succ
set_option maxRecDepth 20000 in
set_option maxHeartbeats 40000000 in
theorem same_any : ∀ (n : Nat) (k : Int) (s : List UInt8) (m : Int) (ks : List Tr) (k' : Int) (s' : List UInt8) (m' : Int) (ks' : List Tr) (ao : Option Addr) (c : Nat) (ao' : Option Addr) (c' : Nat) (S S' : Nat → Prop) (w : World),Lim n (.mk k s m ks) → (∀ b,S b → b < w.heap.size) → (∀ b,S' b → b < w.heap.size) → KT w S (.mk k s m ks) (.slice ao ks.length c) → KT w S' (.mk k' s' m' ks') (.slice ao' ks'.length c') →
    Calls Tryz.prog 14 #[.agg #[.int .i64 k,.string ⟨s.toArray⟩,.int .i64 m,.slice ao ks.length c],.agg #[.int .i64 k',.string ⟨s'.toArray⟩,.int .i64 m',.slice ao' ks'.length c']] w (OutB (sameT (.mk k s m ks) (.mk k' s' m' ks')) w):=by
  intro n
  induction n with
  | zero => intro k s m ks k' s' m' ks' ao c ao' c' S S' w h; exact h.elim
  | succ n ih =>
   intro k s m ks k' s' m' ks' ao c ao' c' S S' w hF hS hS' hk hk'
   have HI:=Lib.hid ih
   clear ih
   obtain ⟨hF1,hF2⟩:=hF
   change ks.length ≤ 20000 at hF1
   change ∀ k ∈ ks,Lim n k at hF2
   have HF2:=Lib.hid hF2
   have hL:=Lst.of hk
   have hL':=Lst.of hk'
   have HR : Hid (sameT (.mk k s m ks) (.mk k' s' m' ks') = (k == k' && (s == s' && (m == m' && (ks.length == ks'.length && sameL ks ks'))))):=by simp [Hid,sameT]
   have hX0:=Hy.start (w:=w) (c0:=.int .i64 k) (c1:=.string ⟨s.toArray⟩) (c2:=.int .i64 m) (c3:=.slice ao ks.length c) (d0:=.int .i64 k') (d1:=.string ⟨s'.toArray⟩) (d2:=.int .i64 m') (d3:=.slice ao' ks'.length c')
   clear hF2 hk hk'
   by_cases e1 : k = k'
   · by_cases e2 : s = s'
     · by_cases e3 : m = m'
       · by_cases e4 : ks.length = ks'.length
         · have HX0 : Hid (sameT (.mk k s m ks) (.mk k' s' m' ks') = sameL ks ks'):=HR.out.trans (by simp [e1,e2,e3,e4])
           subst e1 e2 e3
           have f4 : ((ks.length : Int) != (ks'.length : Int)) = false:=by simp; omega
           have l1 : ks.length ≤ ks'.length:=by omega
           have l2 : ks'.length ≤ ks.length:=by omega
           clear e4
           go_enter Tryz.func14,Tryz.ntmps14
           go_wp2_with fail
           go_loopw [5] (fun v wr => ∃ j : Nat,j ≤ ks.length ∧ v = .int .i64 j ∧ Hy w (.int .i64 k) (.string ⟨s.toArray⟩) (.int .i64 m) (.slice ao ks.length c) (.int .i64 k) (.string ⟨s.toArray⟩) (.int .i64 m) (.slice ao' ks'.length c') wr ∧ Hid (∀ (i : Nat) a b,i < j → ks[i]? = some a → ks'[i]? = some b → sameT a b = true)) (fun v _ => ks.length - (intOf v).toNat)
           case atStart => exact ⟨0,Nat.zero_le _,rfl,hX0,Lib.hid (fun i q t hi => by omega)⟩
           case round =>
            obtain ⟨j,hj,rfl,hX,HA⟩:=hrel
            obtain ⟨x0,x1,x2,x3,x4,x5,x6,x7⟩:=hX.cells
            by_cases hlt : j < ks.length
            · obtain ⟨a,ha⟩ : ∃ t,ks[j]? = some t:=⟨_,List.getElem?_eq_getElem hlt⟩
              obtain ⟨b,hb⟩ : ∃ t,ks'[j]? = some t:=⟨_,List.getElem?_eq_getElem (by omega)⟩
              obtain ⟨g,o,a0,n0,q0,hao,y0,y1,y2,y3,hg,hka⟩:=hL.kid ha hS
              obtain ⟨g',o',a0',n0',q0',hao',u0,u1,u2,u3,hg',hkb⟩:=hL'.kid hb hS'
              subst hao hao'
              have hd:=hX.drew
              have z0:=(hX.out.cell (p:=⟨g,o + j * 4,none⟩) hg).trans y0
              have z1:=(hX.out.cell (p:=⟨g,o + j * 4 + 1,none⟩) hg).trans y1
              have z2:=(hX.out.cell (p:=⟨g,o + j * 4 + 2,none⟩) hg).trans y2
              have z3:=(hX.out.cell (p:=⟨g,o + j * 4 + 3,none⟩) hg).trans y3
              have v0:=(hX.out.cell (p:=⟨g',o' + j * 4,none⟩) hg').trans u0
              have v1:=(hX.out.cell (p:=⟨g',o' + j * 4 + 1,none⟩) hg').trans u1
              have v2:=(hX.out.cell (p:=⟨g',o' + j * 4 + 2,none⟩) hg').trans u2
              have v3:=(hX.out.cell (p:=⟨g',o' + j * 4 + 3,none⟩) hg').trans u3
              have hlt' : j < ks'.length:=by omega
              have hLa:=HF2.out a (List.mem_of_getElem? ha)
              obtain ⟨ak,av,am,aks⟩:=a
              obtain ⟨bk,bt,bm,bks⟩:=b
              obtain ⟨_,_,e⟩:=(Lst.of hka).slice
              injection e with e4 e5 e7
              clear e4 e7
              obtain ⟨_,_,e⟩:=(Lst.of hkb).slice
              injection e with e4 e6 e7
              clear e4 e7
              subst e5 e6
              have HAA:=Lib.hid ha
              have HBB:=Lib.hid hb
              simp only [Tr.kind,Tr.text,Tr.num] at z0 z1 z2 v0 v1 v2
              clear ha hb y0 y1 y2 y3 u0 u1 u2 u3
              go_wp2_with fail
              have HK : Hid (∀ WW,Hy w (.int .i64 k) (.string ⟨s.toArray⟩) (.int .i64 m) (.slice (some ⟨g,o,none⟩) ks.length c) (.int .i64 k) (.string ⟨s.toArray⟩) (.int .i64 m) (.slice (some ⟨g',o',none⟩) ks'.length c') WW ∧ WW.cell? ⟨w.heap.size,3,none⟩ = some (.slice (some ⟨g,o,none⟩) ks.length c) ∧ WW.cell? ⟨w.heap.size + 1,3,none⟩ = some (.slice (some ⟨g',o',none⟩) ks'.length c') ∧ WW.cell? ⟨g,o + j * 4,none⟩ = some (.int .i64 ak) ∧ WW.cell? ⟨g,o + j * 4 + 1,none⟩ = some (.string ⟨av.toArray⟩) ∧ WW.cell? ⟨g,o + j * 4 + 2,none⟩ = some (.int .i64 am) ∧ WW.cell? ⟨g,o + j * 4 + 3,none⟩ = some (.slice a0 aks.length q0) ∧ WW.cell? ⟨g',o' + j * 4,none⟩ = some (.int .i64 bk) ∧ WW.cell? ⟨g',o' + j * 4 + 1,none⟩ = some (.string ⟨bt.toArray⟩) ∧ WW.cell? ⟨g',o' + j * 4 + 2,none⟩ = some (.int .i64 bm) ∧ WW.cell? ⟨g',o' + j * 4 + 3,none⟩ = some (.slice a0' bks.length q0') → Calls Tryz.prog 14 #[.agg #[.int .i64 ak,.string ⟨av.toArray⟩,.int .i64 am,.slice a0 aks.length q0],.agg #[.int .i64 bk,.string ⟨bt.toArray⟩,.int .i64 bm,.slice a0' bks.length q0']] WW fun e WW => e = .returned (.bool (sameT (.mk ak av am aks) (.mk bk bt bm bks))) ∧ Hy w (.int .i64 k) (.string ⟨s.toArray⟩) (.int .i64 m) (.slice (some ⟨g,o,none⟩) ks.length c) (.int .i64 k) (.string ⟨s.toArray⟩) (.int .i64 m) (.slice (some ⟨g',o',none⟩) ks'.length c') WW ∧ WW.cell? ⟨w.heap.size,3,none⟩ = some (.slice (some ⟨g,o,none⟩) ks.length c) ∧ WW.cell? ⟨w.heap.size + 1,3,none⟩ = some (.slice (some ⟨g',o',none⟩) ks'.length c') ∧ WW.cell? ⟨g,o + j * 4,none⟩ = some (.int .i64 ak) ∧ WW.cell? ⟨g,o + j * 4 + 1,none⟩ = some (.string ⟨av.toArray⟩) ∧ WW.cell? ⟨g,o + j * 4 + 2,none⟩ = some (.int .i64 am) ∧ WW.cell? ⟨g,o + j * 4 + 3,none⟩ = some (.slice a0 aks.length q0) ∧ WW.cell? ⟨g',o' + j * 4,none⟩ = some (.int .i64 bk) ∧ WW.cell? ⟨g',o' + j * 4 + 1,none⟩ = some (.string ⟨bt.toArray⟩) ∧ WW.cell? ⟨g',o' + j * 4 + 2,none⟩ = some (.int .i64 bm) ∧ WW.cell? ⟨g',o' + j * 4 + 3,none⟩ = some (.slice a0' bks.length q0')):=by
               refine Lib.hid ?_
               rintro W ⟨hY,q3,q7,w0,w1,w2,w3,t0,t1,t2,t3⟩
               have hbo:=hY.out
               refine (HI.out ak av am aks bk bt bm bks a0 q0 a0' q0' S S' W hLa (fun b hb => Nat.lt_of_lt_of_le (hS b hb) hbo.size) (fun b hb => Nat.lt_of_lt_of_le (hS' b hb) hbo.size) (hka.fr (fun b hb => hbo.block b (hS b hb)) (fun _ h => h)) (hkb.fr (fun b hb => hbo.block b (hS' b hb)) (fun _ h => h))).mono ?_
               rintro e W2 ⟨rfl,hb2⟩
               have hp1 : w.heap.size < W.heap.size:=by have:=hY.size; omega
               have hp2 : w.heap.size + 1 < W.heap.size:=by have:=hY.size; omega
               have hp3 : g < W.heap.size:=Nat.lt_of_lt_of_le hg hbo.size
               have hp4 : g' < W.heap.size:=Nat.lt_of_lt_of_le hg' hbo.size
               exact ⟨rfl,hY.next hb2,(hb2.cell (p:=⟨w.heap.size,3,none⟩) hp1).trans q3,(hb2.cell (p:=⟨w.heap.size + 1,3,none⟩) hp2).trans q7,(hb2.cell (p:=⟨g,o + j * 4,none⟩) hp3).trans w0,(hb2.cell (p:=⟨g,o + j * 4 + 1,none⟩) hp3).trans w1,(hb2.cell (p:=⟨g,o + j * 4 + 2,none⟩) hp3).trans w2,(hb2.cell (p:=⟨g,o + j * 4 + 3,none⟩) hp3).trans w3,(hb2.cell (p:=⟨g',o' + j * 4,none⟩) hp4).trans t0,(hb2.cell (p:=⟨g',o' + j * 4 + 1,none⟩) hp4).trans t1,(hb2.cell (p:=⟨g',o' + j * 4 + 2,none⟩) hp4).trans t2,(hb2.cell (p:=⟨g',o' + j * 4 + 3,none⟩) hp4).trans t3⟩
              clear hX hX0 x0 x1 x2 x4 x5 x6 HF2 HI hL hL' hS hS' hLa hg hg' l1 l2 f4 HR hka hkb
              go_region_held3 (fun WW => Hy w (.int .i64 k) (.string ⟨s.toArray⟩) (.int .i64 m) (.slice (some ⟨g,o,none⟩) ks.length c) (.int .i64 k) (.string ⟨s.toArray⟩) (.int .i64 m) (.slice (some ⟨g',o',none⟩) ks'.length c') WW ∧ WW.cell? ⟨w.heap.size,3,none⟩ = some (.slice (some ⟨g,o,none⟩) ks.length c) ∧ WW.cell? ⟨w.heap.size + 1,3,none⟩ = some (.slice (some ⟨g',o',none⟩) ks'.length c') ∧ WW.cell? ⟨g,o + j * 4,none⟩ = some (.int .i64 ak) ∧ WW.cell? ⟨g,o + j * 4 + 1,none⟩ = some (.string ⟨av.toArray⟩) ∧ WW.cell? ⟨g,o + j * 4 + 2,none⟩ = some (.int .i64 am) ∧ WW.cell? ⟨g,o + j * 4 + 3,none⟩ = some (.slice a0 aks.length q0) ∧ WW.cell? ⟨g',o' + j * 4,none⟩ = some (.int .i64 bk) ∧ WW.cell? ⟨g',o' + j * 4 + 1,none⟩ = some (.string ⟨bt.toArray⟩) ∧ WW.cell? ⟨g',o' + j * 4 + 2,none⟩ = some (.int .i64 bm) ∧ WW.cell? ⟨g',o' + j * 4 + 3,none⟩ = some (.slice a0' bks.length q0')) (first | assumption | exact ⟨hd,x3,x7,z0,z1,z2,z3,v0,v1,v2,v3⟩) (first | (go_simp; go_at_call 14; refine (HK.out _ (by assumption)).mono ?_; rintro e w2 ⟨rfl,hs2⟩))
              all_goals
               have hX2:=hs2.1
               cases hp : sameT (.mk ak av am aks) (.mk bk bt bm bks) with
               | false =>
                have HX : Hid (sameT (.mk k s m ks) (.mk k s m ks') = false):=HX0.out.trans (sameL_get _ _ j _ _ HAA.out HBB.out hp)
                clear hp
                go_wp2
                go_ret
                exact OutB.of HX ⟨rfl,hX2.out⟩
               | true =>
                have HX : Hid (∀ (i : Nat) a b,i < j + 1 → ks[i]? = some a → ks'[i]? = some b → sameT a b = true):=by
                 refine Lib.hid ?_
                 intro i a b hi h1 h2
                 rcases Nat.lt_or_ge i j with h3 | h3
                 · exact HA.out i a b h3 h1 h2
                 · have : i = j:=by omega
                   subst this
                   rw [HAA.out] at h1; rw [HBB.out] at h2
                   cases h1; cases h2; exact hp
                clear hp
                go_wp2
                go_roundw
                case rel => exact ⟨j + 1,by omega,by go_num,hX2,HX⟩
                case measure => simp [intOf]; omega
            · have HX : Hid (sameT (.mk k s m ks) (.mk k s m ks') = true):=HX0.out.trans (sameL_all _ _ fun i a b h1 h2 => HA.out i a b (by
                have : i < ks.length:=by
                 rcases Nat.lt_or_ge i ks.length with h | h
                 · exact h
                 · rw [List.getElem?_eq_none h] at h1; cases h1
                omega) h1 h2)
              go_wp2
              go_ret
              exact OutB.of HX ⟨rfl,hX.out⟩
         · have HX : Hid (sameT (.mk k s m ks) (.mk k' s' m' ks') = false):=HR.out.trans (by simp [e4])
           subst e1 e2 e3
           have f4 : ((ks.length : Int) != (ks'.length : Int)) = true:=by simp; omega
           clear e4
           go_enter Tryz.func14,Tryz.ntmps14
           go_wp2
           go_ret
           exact OutB.of HX ⟨rfl,hX0.out⟩
       · have HX : Hid (sameT (.mk k s m ks) (.mk k' s' m' ks') = false):=HR.out.trans (by simp [e3])
         subst e1 e2
         have f3 : (m != m') = true:=by simpa using e3
         clear e3
         go_enter Tryz.func14,Tryz.ntmps14
         go_wp2
         go_ret
         exact OutB.of HX ⟨rfl,hX0.out⟩
     · have HX : Hid (sameT (.mk k s m ks) (.mk k' s' m' ks') = false):=HR.out.trans (by simp [e2])
       subst e1
       have f2 : (s != s') = true:=by simpa using e2
       go_enter Tryz.func14,Tryz.ntmps14
       go_wp2
       go_ret
       exact OutB.of HX ⟨rfl,hX0.out⟩
   · have HX : Hid (sameT (.mk k s m ks) (.mk k' s' m' ks') = false):=HR.out.trans (by simp [e1])
     have f1 : (k != k') = true:=by simpa using e1
     clear e1
     go_enter Tryz.func14,Tryz.ntmps14
     go_wp2
     go_ret
     exact OutB.of HX ⟨rfl,hX0.out⟩
end Go.Proofs.YtffnaknidofobaaGreatDoor

namespace Go.Proofs.YtffnaknidofobaaGreatDoor
open Go.RowKit
attribute [local go_sem ↓] Go.wp_at_zero Go.wp_at_succ
theorem textP_not {t : Tr} (hs : soundT t = false) : textP t = ([],2):=by unfold textP; rw [hs]; rfl
theorem same_self (t : Tr) (ao ao' : Option Addr) (c c' : Nat) (S S' : Nat → Prop) (w : World) (hL : Lim 100 t) (h1 : ∀ b,S b → b < w.heap.size) (h2 : ∀ b,S' b → b < w.heap.size) (k1 : KT w S t (.slice ao t.kids.length c)) (k2 : KT w S' t (.slice ao' t.kids.length c')) :
    Calls Tryz.prog 14 #[tv t (.slice ao t.kids.length c),tv t (.slice ao' t.kids.length c')] w (OutB true w):=by
  obtain ⟨k,s,m,ks⟩:=t
  have:=same_any 100 k s m ks k s m ks ao c ao' c' S S' w hL h1 h2 k1 k2
  rw [sameT_refl] at this
  exact this
set_option maxRecDepth 20000 in
set_option maxHeartbeats 800000 in
theorem back_any (t : Tr) (sl : Value) (w : World) (hG : Gw w.heap.size w) (hX : ∀ n,txtT n t) (hN : nmT 100 t) (hk : KT w (· < w.heap.size) t sl) :
    Calls Tryz.prog 4 #[tv t sl] w fun e w' => e = .returned (.bool true) ∧ Below w.heap.size w w':=by
  obtain ⟨ao,c,rfl⟩ : ∃ ao c,sl = .slice ao t.kids.length c:=(Lst.kids hk).slice
  have hb0 : Below w.heap.size w (w.alloc (nbx t (.slice ao t.kids.length c))):=(Below.refl _ _).alloc (Nat.le_refl _) _
  obtain ⟨W0,hW⟩ : ∃ W,w.alloc (nbx t (.slice ao t.kids.length c)) = W:=⟨_,rfl⟩
  have hbx : W0.heap[w.heap.size]? = some (nbx t (.slice ao t.kids.length c)):=by rw [← hW]; exact heap_alloc_new w _
  have hz0 : w.heap.size < W0.heap.size:=by rw [← hW]; simp
  rw [hW] at hb0
  have hW' : w.alloc (.cells #[.int .i64 t.kind,.string ⟨t.text.toArray⟩,.int .i64 t.num,.slice ao t.kids.length c] 24) = W0:=hW
  have hk0 : KT W0 (· < W0.heap.size) t (.slice ao t.kids.length c):=hk.fr (fun b hb => hb0.block b hb) (fun _ h => Nat.lt_of_lt_of_le h hb0.size)
  have c1:=printText_any t (.slice ao t.kids.length c) W0 ((hG.later hb0).up hb0.size) hX hN hk0
  have y0 : W0.cell? ⟨w.heap.size,0,none⟩ = some (.int .i64 t.kind):=by rw [Lib.cell_of_heap hbx]; rfl
  have y1 : W0.cell? ⟨w.heap.size,1,none⟩ = some (.string ⟨t.text.toArray⟩):=by rw [Lib.cell_of_heap hbx]; rfl
  have y2 : W0.cell? ⟨w.heap.size,2,none⟩ = some (.int .i64 t.num):=by rw [Lib.cell_of_heap hbx]; rfl
  have y3 : W0.cell? ⟨w.heap.size,3,none⟩ = some (.slice ao t.kids.length c):=by rw [Lib.cell_of_heap hbx]; rfl
  have HB : ∀ W,Below W0.heap.size W0 W → Below w.heap.size w W:=fun W h => hb0.trans (h.mono hb0.size)
  have HGW : ∀ W,Below W0.heap.size W0 W → Gw W.heap.size W:=fun W h => (hG.later (HB W h)).up (HB W h).size
  have HK : ∀ W,Below W0.heap.size W0 W → KT W (· < W0.heap.size) t (.slice ao t.kids.length c):=fun W h => hk0.fr (fun b hb => h.block b hb) (fun _ h => h)
  have HBX : ∀ W,Below W0.heap.size W0 W → W.heap[w.heap.size]? = some (nbx t (.slice ao t.kids.length c)):=fun W h => (h.block _ hz0).trans hbx
  have HB:=Lib.hid HB
  have HGW:=Lib.hid HGW
  have HK:=Lib.hid HK
  have HBX:=Lib.hid HBX
  have HX:=Lib.hid hX
  clear hW hk hk0 hbx
  generalize hmm : w.heap.size = m at *
  cases hS : soundT t with
  | false =>
   rw [textP_not hS] at c1
   go_enter Tryz.func4,Tryz.ntmps4
   go_wp2_with fail
   refine c1.mono ?_
   rintro e w1 ⟨rfl,hb1⟩
   clear c1 y0 y1 y2 y3
   have c2:=awake_any w1 (HGW.out w1 hb1)
   go_wp2_with fail
   refine c2.mono ?_
   rintro e w2 ⟨rfl,hb2⟩
   clear c2
   have hb2':=hb1.trans (hb2.mono hb1.size)
   have c3:=awake_any w2 (HGW.out w2 hb2')
   go_wp2_with fail
   refine c3.mono ?_
   rintro e w3 ⟨rfl,hb3⟩
   clear c3
   have hb3':=hb2'.trans (hb3.mono hb2'.size)
   have hbx3:=HBX.out w3 hb3'
   have y0 : w3.cell? ⟨m,0,none⟩ = some (.int .i64 t.kind):=by rw [Lib.cell_of_heap hbx3]; rfl
   have y1 : w3.cell? ⟨m,1,none⟩ = some (.string ⟨t.text.toArray⟩):=by rw [Lib.cell_of_heap hbx3]; rfl
   have y2 : w3.cell? ⟨m,2,none⟩ = some (.int .i64 t.num):=by rw [Lib.cell_of_heap hbx3]; rfl
   have y3 : w3.cell? ⟨m,3,none⟩ = some (.slice ao t.kids.length c):=by rw [Lib.cell_of_heap hbx3]; rfl
   have c4:=sound_any t (.slice ao t.kids.length c) (· < W0.heap.size) w3 (HGW.out w3 hb3').gl (fun b hb => Nat.lt_of_lt_of_le hb hb3'.size) HX.out (HK.out w3 hb3')
   rw [hS] at c4
   go_wp2_with fail
   refine c4.mono ?_
   rintro e w4 ⟨rfl,hb4⟩
   go_wp2
   go_ret
   exact ⟨rfl,HB.out _ (hb3'.trans (hb4.mono hb3'.size))⟩
  | true =>
   have HTB:=Lib.hid (text_back hS hN)
   have HT:=textP_sound hS
   have HL : Hid (Lim 100 t):=lim_of_small (by simp only [soundT,Bool.and_eq_true] at hS; exact hS.1)
   generalize hTP : textP t = tp at *
   obtain ⟨tx,te⟩:=tp
   rcases HT with h4 | ⟨h0,hl⟩
   · injection h4 with h41 h42
     subst h41 h42
     go_enter Tryz.func4,Tryz.ntmps4
     go_wp2_with fail
     refine c1.mono ?_
     rintro e w1 ⟨rfl,hb1⟩
     clear c1 y0 y1 y2 y3
     have c2:=awake_any w1 (HGW.out w1 hb1)
     go_wp2_with fail
     refine c2.mono ?_
     rintro e w2 ⟨rfl,hb2⟩
     clear c2
     have hb2':=hb1.trans (hb2.mono hb1.size)
     have c3:=awake_any w2 (HGW.out w2 hb2')
     go_wp2_with fail
     refine c3.mono ?_
     rintro e w3 ⟨rfl,hb3⟩
     clear c3
     have hb3':=hb2'.trans (hb3.mono hb2'.size)
     have hbx3:=HBX.out w3 hb3'
     have y0 : w3.cell? ⟨m,0,none⟩ = some (.int .i64 t.kind):=by rw [Lib.cell_of_heap hbx3]; rfl
     have y1 : w3.cell? ⟨m,1,none⟩ = some (.string ⟨t.text.toArray⟩):=by rw [Lib.cell_of_heap hbx3]; rfl
     have y2 : w3.cell? ⟨m,2,none⟩ = some (.int .i64 t.num):=by rw [Lib.cell_of_heap hbx3]; rfl
     have y3 : w3.cell? ⟨m,3,none⟩ = some (.slice ao t.kids.length c):=by rw [Lib.cell_of_heap hbx3]; rfl
     have c4:=sound_any t (.slice ao t.kids.length c) (· < W0.heap.size) w3 (HGW.out w3 hb3').gl (fun b hb => Nat.lt_of_lt_of_le hb hb3'.size) HX.out (HK.out w3 hb3')
     rw [hS] at c4
     go_wp2_with fail
     refine c4.mono ?_
     rintro e w4 ⟨rfl,hb4⟩
     go_wp2
     go_ret
     exact ⟨rfl,HB.out _ (hb3'.trans (hb4.mono hb3'.size))⟩
   · simp only at h0 hl
     subst h0
     go_enter Tryz.func4,Tryz.ntmps4
     go_wp2_with fail
     refine c1.mono ?_
     rintro e w1 ⟨rfl,hb1⟩
     clear c1 y0 y1 y2 y3
     have c2:=awake_any w1 (HGW.out w1 hb1)
     go_wp2_with fail
     refine c2.mono ?_
     rintro e w2 ⟨rfl,hb2⟩
     clear c2
     have hb2':=hb1.trans (hb2.mono hb1.size)
     have c3:=parse_any ⟨tx.toArray⟩ (by unfold maxLen; show tx.toArray.size ≤ _; simp; omega) w2 (HGW.out w2 hb2').gl
     rw [show (ByteArray.mk tx.toArray).data.toList = tx from by simp] at c3
     rcases HTB.out trivial with hp | ⟨a,hp,ha⟩
     · rw [hp] at c3
       go_wp2_with fail
       refine c3.mono ?_
       rintro e w3 ⟨hb3,sl3,rfl,hk3⟩
       clear c3
       obtain ⟨ao3,d,rfl⟩:=(Lst.kids hk3).slice
       obtain ⟨V,hV⟩ : ∃ V,w3.alloc (.cells #[.int .i64 t.kind,.string ⟨t.text.toArray⟩,.int .i64 t.num,.slice ao3 t.kids.length d] 24) = V:=⟨_,rfl⟩
       have hbV : Below w3.heap.size w3 V:=hV ▸ (Below.refl _ _).alloc (Nat.le_refl _) _
       have hb3':=hb2'.trans (hb3.mono hb2'.size)
       have hbV':=hb3'.trans (hbV.mono hb3'.size)
       have hbxV:=HBX.out V hbV'
       have y0 : V.cell? ⟨m,0,none⟩ = some (.int .i64 t.kind):=by rw [Lib.cell_of_heap hbxV]; rfl
       have y1 : V.cell? ⟨m,1,none⟩ = some (.string ⟨t.text.toArray⟩):=by rw [Lib.cell_of_heap hbxV]; rfl
       have y2 : V.cell? ⟨m,2,none⟩ = some (.int .i64 t.num):=by rw [Lib.cell_of_heap hbxV]; rfl
       have y3 : V.cell? ⟨m,3,none⟩ = some (.slice ao t.kids.length c):=by rw [Lib.cell_of_heap hbxV]; rfl
       have hbn : V.heap[w3.heap.size]? = some (nbx t (.slice ao3 t.kids.length d)):=by rw [← hV]; exact heap_alloc_new w3 _
       have z0 : V.cell? ⟨w3.heap.size,0,none⟩ = some (.int .i64 t.kind):=by rw [Lib.cell_of_heap hbn]; rfl
       have z1 : V.cell? ⟨w3.heap.size,1,none⟩ = some (.string ⟨t.text.toArray⟩):=by rw [Lib.cell_of_heap hbn]; rfl
       have z2 : V.cell? ⟨w3.heap.size,2,none⟩ = some (.int .i64 t.num):=by rw [Lib.cell_of_heap hbn]; rfl
       have z3 : V.cell? ⟨w3.heap.size,3,none⟩ = some (.slice ao3 t.kids.length d):=by rw [Lib.cell_of_heap hbn]; rfl
       have c4:=same_self t ao ao3 c d (· < W0.heap.size) (Rg w2.heap.size w3.heap.size) V HL.out (fun b hb => Nat.lt_of_lt_of_le hb hbV'.size) (fun b hb => Nat.lt_of_lt_of_le hb.2 hbV.size) (HK.out V hbV') (hk3.fr (fun b hb => hbV.block b hb.2) (fun _ h => h))
       clear hbn hbxV hk3 hp
       go_wp2_with fail
       refine c4.mono ?_
       rintro e w4 ⟨rfl,hb4⟩
       clear c4
       go_wp2
       go_ret
       exact ⟨rfl,HB.out _ (hbV'.trans (hb4.mono hbV'.size))⟩
     · rw [hp] at c3
       go_wp2_with fail
       refine c3.mono ?_
       rintro e w3 ⟨hb3,rfl⟩
       clear c3
       go_wp2
       go_ret
       have hb3':=hb2'.trans (hb3.mono hb2'.size)
       exact ⟨by simp,HB.out _ (hb3'.alloc hb3'.size _)⟩
end Go.Proofs.YtffnaknidofobaaGreatDoor

namespace Go.Proofs.YtffnaknidofobaaGreatDoor
open Go.RowKit
attribute [local go_sem ↓] Go.wp_at_zero Go.wp_at_succ
theorem exprP_code (t : Tr) : (exprP t).2 = 0 ∨ (exprP t).2 = 2 ∨ (exprP t).2 = 4:=by
 unfold exprP textR
 split
 · split
   · exact .inr (.inr rfl)
   · exact .inl rfl
 · exact .inr (.inl rfl)
theorem same_n (n : Nat) (t : Tr) (ao ao' : Option Addr) (c c' : Nat) (S S' : Nat → Prop) (w : World) (hL : Lim n t) (h1 : ∀ b,S b → b < w.heap.size) (h2 : ∀ b,S' b → b < w.heap.size) (k1 : KT w S t (.slice ao t.kids.length c)) (k2 : KT w S' t (.slice ao' t.kids.length c')) :
    Calls Tryz.prog 14 #[tv t (.slice ao t.kids.length c),tv t (.slice ao' t.kids.length c')] w (OutB true w):=by
  obtain ⟨k,s,m,ks⟩:=t
  have:=same_any n k s m ks k s m ks ao c ao' c' S S' w hL h1 h2 k1 k2
  rw [sameT_refl] at this
  exact this
theorem aro_lim {t : Tr} (h : Lim 100 (aroT t)) : Lim 96 t:=by
 have h1:=h.2 _ (List.mem_singleton.2 rfl)
 have h2:=h1.2 (.mk 20 [] 0 [.mk 27 [] 0 [t]]) (by simp [Tr.kids])
 have h3:=h2.2 (.mk 27 [] 0 [t]) (by simp [Tr.kids])
 exact h3.2 t (by simp [Tr.kids])
theorem aro_way (t : Tr) : wayT (aroT t) [0,1,0,0] = some t:=rfl
set_option maxRecDepth 20000 in
set_option maxHeartbeats 800000 in
theorem exprs_any (t : Tr) (sl : Value) (w : World) (hG : Gw w.heap.size w) (hX : ∀ n,txtT n t) (hN : ∀ n,nmT n t) (hk : KT w (· < w.heap.size) t sl) :
    Calls Tryz.prog 6 #[tv t sl] w fun e w' => e = .returned (.bool true) ∧ Below w.heap.size w w':=by
  obtain ⟨ao,c,rfl⟩ : ∃ ao c,sl = .slice ao t.kids.length c:=(Lst.kids hk).slice
  have hb0 : Below w.heap.size w (w.alloc (nbx t (.slice ao t.kids.length c))):=(Below.refl _ _).alloc (Nat.le_refl _) _
  obtain ⟨W0,hW⟩ : ∃ W,w.alloc (nbx t (.slice ao t.kids.length c)) = W:=⟨_,rfl⟩
  have hbx : W0.heap[w.heap.size]? = some (nbx t (.slice ao t.kids.length c)):=by rw [← hW]; exact heap_alloc_new w _
  have hz0 : w.heap.size < W0.heap.size:=by rw [← hW]; simp
  rw [hW] at hb0
  have hW' : w.alloc (.cells #[.int .i64 t.kind,.string ⟨t.text.toArray⟩,.int .i64 t.num,.slice ao t.kids.length c] 24) = W0:=hW
  have hk0 : KT W0 (· < W0.heap.size) t (.slice ao t.kids.length c):=hk.fr (fun b hb => hb0.block b hb) (fun _ h => Nat.lt_of_lt_of_le h hb0.size)
  have c1:=printExpr_any t (.slice ao t.kids.length c) W0 ((hG.later hb0).up hb0.size) hX (hN 96) hk0
  have y0 : W0.cell? ⟨w.heap.size,0,none⟩ = some (.int .i64 t.kind):=by rw [Lib.cell_of_heap hbx]; rfl
  have y1 : W0.cell? ⟨w.heap.size,1,none⟩ = some (.string ⟨t.text.toArray⟩):=by rw [Lib.cell_of_heap hbx]; rfl
  have y2 : W0.cell? ⟨w.heap.size,2,none⟩ = some (.int .i64 t.num):=by rw [Lib.cell_of_heap hbx]; rfl
  have y3 : W0.cell? ⟨w.heap.size,3,none⟩ = some (.slice ao t.kids.length c):=by rw [Lib.cell_of_heap hbx]; rfl
  have HB : ∀ W,Below W0.heap.size W0 W → Below w.heap.size w W:=fun W h => hb0.trans (h.mono hb0.size)
  have HGW : ∀ W,Below W0.heap.size W0 W → Gw W.heap.size W:=fun W h => (hG.later (HB W h)).up (HB W h).size
  have HK : ∀ W,Below W0.heap.size W0 W → KT W (· < W0.heap.size) t (.slice ao t.kids.length c):=fun W h => hk0.fr (fun b hb => h.block b hb) (fun _ h => h)
  have HBX : ∀ W,Below W0.heap.size W0 W → W.heap[w.heap.size]? = some (nbx t (.slice ao t.kids.length c)):=fun W h => (h.block _ hz0).trans hbx
  have HB:=Lib.hid HB
  have HGW:=Lib.hid HGW
  have HK:=Lib.hid HK
  have HBX:=Lib.hid HBX
  have HX:=Lib.hid hX
  have HOK:=Lib.hid (fun he => exprP_ok (t:=t) he)
  have HLE:=Lib.hid (exprP_len (t:=t))
  have HN:=Lib.hid (hN 96)
  have hcode:=exprP_code t
  clear hW hk hk0 hbx hX hN
  generalize hmm : w.heap.size = m at *
  generalize hTP : exprP t = tp at *
  obtain ⟨tx,te⟩:=tp
  simp only at hcode
  by_cases h0 : te = 0
  · subst h0
    obtain ⟨hS,htx⟩:=HOK.out rfl
    have HTX : Hid (tx = lay (tks quoteL 96 .exp t)):=htx
    clear htx
    by_cases hl : 20000 < tx.length
    · have hd : decide ((20000 : Int) < (tx.length : Int)) = true:=by simp; omega
      go_enter Tryz.func6,Tryz.ntmps6
      go_wp2_with fail
      refine c1.mono ?_
      rintro e w1 ⟨rfl,hb1⟩
      clear c1 y0 y1 y2 y3
      have c2:=awake_any w1 (HGW.out w1 hb1)
      go_wp2_with fail
      refine c2.mono ?_
      rintro e w2 ⟨rfl,hb2⟩
      clear c2
      have hb2':=hb1.trans (hb2.mono hb1.size)
      have c3:=awake_any w2 (HGW.out w2 hb2')
      go_wp2_with fail
      refine c3.mono ?_
      rintro e w3 ⟨rfl,hb3⟩
      go_wp2
      go_ret
      exact ⟨rfl,HB.out _ (hb2'.trans (hb3.mono hb2'.size))⟩
    · have hd : decide ((20000 : Int) < (tx.length : Int)) = false:=by simp; omega
      go_enter Tryz.func6,Tryz.ntmps6
      go_wp2_with fail
      refine c1.mono ?_
      rintro e w1 ⟨rfl,hb1⟩
      clear c1 y0 y1 y2 y3
      have c2:=awake_any w1 (HGW.out w1 hb1)
      go_wp2_with fail
      refine c2.mono ?_
      rintro e w2 ⟨rfl,hb2⟩
      clear c2
      have hb2':=hb1.trans (hb2.mono hb1.size)
      have o1:=one_back hS HN.out (by rw [← HTX.out]; omega)
      have o2:=two_back hS HN.out (by rw [← HTX.out]; omega)
      rw [← HTX.out] at o1 o2
      have HY : Hid (wayT (aroT t) [0,1,0,0] = some t):=aro_way t
      have HL : Hid (Lim 100 (aroT t)):=lim_of_small (by simp only [soundT,Bool.and_eq_true] at hS; exact hS.1)
      have zt : (⟨tx.toArray⟩ : ByteArray).size = tx.length:=by show tx.toArray.size = _; simp
      have z1 : ((⟨#[102,117,110,99,32,102,40,41,32,123,32,114,101,116,117,114,110,32]⟩ : ByteArray) ++ ⟨tx.toArray⟩ ++ ⟨#[59,32,125]⟩).size = 18 + tx.length + 3:=by rw [ByteArray.size_append,ByteArray.size_append,zt]; rfl
      have z2 : ((⟨#[102,117,110,99,32,102,40,41,32,123,32,114,101,116,117,114,110,32,40,40]⟩ : ByteArray) ++ ⟨tx.toArray⟩ ++ ⟨#[41,41,59,32,125]⟩).size = 20 + tx.length + 5:=by rw [ByteArray.size_append,ByteArray.size_append,zt]; rfl
      have cQ:=fun W (hg : Gl W) => parse_any ((⟨#[102,117,110,99,32,102,40,41,32,123,32,114,101,116,117,114,110,32,40,40]⟩ : ByteArray) ++ ⟨tx.toArray⟩ ++ ⟨#[41,41,59,32,125]⟩) (z2 ▸ (by unfold maxLen; omega)) W hg
      rw [show ((⟨#[102,117,110,99,32,102,40,41,32,123,32,114,101,116,117,114,110,32,40,40]⟩ : ByteArray) ++ ⟨tx.toArray⟩ ++ ⟨#[41,41,59,32,125]⟩).data.toList = [102,117,110,99,32,102,40,41,32,123,32,114,101,116,117,114,110,32,40,40] ++ (tx ++ [41,41,59,32,125]) from by simp] at cQ
      have c3:=parse_any ((⟨#[102,117,110,99,32,102,40,41,32,123,32,114,101,116,117,114,110,32]⟩ : ByteArray) ++ ⟨tx.toArray⟩ ++ ⟨#[59,32,125]⟩) (z1 ▸ (by unfold maxLen; omega)) w2 (HGW.out w2 hb2').gl
      rw [show ((⟨#[102,117,110,99,32,102,40,41,32,123,32,114,101,116,117,114,110,32]⟩ : ByteArray) ++ ⟨tx.toArray⟩ ++ ⟨#[59,32,125]⟩).data.toList = [102,117,110,99,32,102,40,41,32,123,32,114,101,116,117,114,110,32] ++ (tx ++ [59,32,125]) from by simp] at c3
      clear z1 z2 zt
      have HC:=Lib.hid cQ
      clear cQ
      have HLt : Hid (Lim 96 t):=aro_lim HL.out
      clear hS
      generalize aroT t = A at *
      rcases o1 with o1 | ⟨a1,o1⟩
      · rw [o1] at c3
        clear o1
        go_wp2_with fail
        refine c3.mono ?_
        rintro e w3 ⟨hb3,sl3,rfl,k3⟩
        clear c3
        obtain ⟨ao3,d3,rfl⟩:=(Lst.kids k3).slice
        have hb3':=hb2'.trans (hb3.mono hb2'.size)
        have hbV : Below w3.heap.size w3 (w3.alloc (nbx A (.slice ao3 A.kids.length d3))):=(Below.refl _ _).alloc (Nat.le_refl _) _
        obtain ⟨V,hV⟩ : ∃ V,w3.alloc (nbx A (.slice ao3 A.kids.length d3)) = V:=⟨_,rfl⟩
        rw [hV] at hbV
        have hV' : w3.alloc (.cells #[.int .i64 A.kind,.string ⟨A.text.toArray⟩,.int .i64 A.num,.slice ao3 A.kids.length d3] 24) = V:=hV
        have hbV':=hb3'.trans (hbV.mono hb3'.size)
        have nV : V.heap[w3.heap.size]? = some (nbx A (.slice ao3 A.kids.length d3)):=by rw [← hV]; exact heap_alloc_new w3 _
        have lV : w3.heap.size < V.heap.size:=by rw [← hV]; simp
        have kV : KT V (Rg w2.heap.size w3.heap.size) A (.slice ao3 A.kids.length d3):=k3.fr (fun b hb => hbV.block b hb.2) (fun _ h => h)
        have sV : ∀ b,Rg w2.heap.size w3.heap.size b → b < V.heap.size:=fun b hb => Nat.lt_of_lt_of_le hb.2 hbV.size
        have c4:=HC.out V (HGW.out V hbV').gl
        clear k3 hV hb3 hb3' hbV hb2
        rcases o2 with o2 | ⟨a2,o2⟩
        · rw [o2] at c4
          clear o2
          go_wp2_with fail
          refine c4.mono ?_
          rintro e w4 ⟨hb4,sl4,rfl,k4⟩
          clear c4
          obtain ⟨ao4,d4,rfl⟩:=(Lst.kids k4).slice
          have hb4':=hbV'.trans (hb4.mono hbV'.size)
          have hbU : Below w4.heap.size w4 (w4.alloc (nbx A (.slice ao4 A.kids.length d4))):=(Below.refl _ _).alloc (Nat.le_refl _) _
          obtain ⟨U,hU⟩ : ∃ U,w4.alloc (nbx A (.slice ao4 A.kids.length d4)) = U:=⟨_,rfl⟩
          rw [hU] at hbU
          have hU' : w4.alloc (.cells #[.int .i64 A.kind,.string ⟨A.text.toArray⟩,.int .i64 A.num,.slice ao4 A.kids.length d4] 24) = U:=hU
          have hbU':=hb4'.trans (hbU.mono hb4'.size)
          have hVU:=hb4.trans (hbU.mono hb4.size)
          have nU : U.heap[w4.heap.size]? = some (nbx A (.slice ao4 A.kids.length d4)):=by rw [← hU]; exact heap_alloc_new w4 _
          have nA : U.heap[w3.heap.size]? = some (nbx A (.slice ao3 A.kids.length d3)):=(hVU.block _ lV).trans nV
          have kU : KT U (Rg V.heap.size w4.heap.size) A (.slice ao4 A.kids.length d4):=k4.fr (fun b hb => hbU.block b hb.2) (fun _ h => h)
          have kA : KT U (Rg w2.heap.size w3.heap.size) A (.slice ao3 A.kids.length d3):=kV.fr (fun b hb => hVU.block b (sV b hb)) (fun _ h => h)
          have sA : ∀ b,Rg w2.heap.size w3.heap.size b → b < U.heap.size:=fun b hb => Nat.lt_of_lt_of_le (sV b hb) hVU.size
          have lA : w3.heap.size < U.heap.size:=Nat.lt_of_lt_of_le lV hVU.size
          have p0 : U.cell? ⟨w3.heap.size,0,none⟩ = some (.int .i64 A.kind):=by rw [Lib.cell_of_heap nA]; rfl
          have p1 : U.cell? ⟨w3.heap.size,1,none⟩ = some (.string ⟨A.text.toArray⟩):=by rw [Lib.cell_of_heap nA]; rfl
          have p2 : U.cell? ⟨w3.heap.size,2,none⟩ = some (.int .i64 A.num):=by rw [Lib.cell_of_heap nA]; rfl
          have p3 : U.cell? ⟨w3.heap.size,3,none⟩ = some (.slice ao3 A.kids.length d3):=by rw [Lib.cell_of_heap nA]; rfl
          have q0 : U.cell? ⟨w4.heap.size,0,none⟩ = some (.int .i64 A.kind):=by rw [Lib.cell_of_heap nU]; rfl
          have q1 : U.cell? ⟨w4.heap.size,1,none⟩ = some (.string ⟨A.text.toArray⟩):=by rw [Lib.cell_of_heap nU]; rfl
          have q2 : U.cell? ⟨w4.heap.size,2,none⟩ = some (.int .i64 A.num):=by rw [Lib.cell_of_heap nU]; rfl
          have q3 : U.cell? ⟨w4.heap.size,3,none⟩ = some (.slice ao4 A.kids.length d4):=by rw [Lib.cell_of_heap nU]; rfl
          have c5:=same_n 100 A ao3 ao4 d3 d4 _ _ U HL.out sA (fun b hb => Nat.lt_of_lt_of_le hb.2 hbU.size) kA kU
          clear k4 hU hb4 hb4' hbU nU kU kV sV lV nV hVU
          go_wp2_with fail
          refine c5.mono ?_
          rintro e w5 ⟨rfl,hb5⟩
          clear c5 p0 p1 p2 p3 q0 q1 q2 q3
          have hb5':=hbU'.trans (hb5.mono hbU'.size)
          have n5 : w5.heap[w3.heap.size]? = some (nbx A (.slice ao3 A.kids.length d3)):=(hb5.block _ lA).trans nA
          have k5 : KT w5 (Rg w2.heap.size w3.heap.size) A (.slice ao3 A.kids.length d3):=kA.fr (fun b hb => hb5.block b (sA b hb)) (fun _ h => h)
          have s5 : ∀ b,Rg w2.heap.size w3.heap.size b → b < w5.heap.size:=fun b hb => Nat.lt_of_lt_of_le (sA b hb) hb5.size
          have p0 : w5.cell? ⟨w3.heap.size,0,none⟩ = some (.int .i64 A.kind):=by rw [Lib.cell_of_heap n5]; rfl
          have p1 : w5.cell? ⟨w3.heap.size,1,none⟩ = some (.string ⟨A.text.toArray⟩):=by rw [Lib.cell_of_heap n5]; rfl
          have p2 : w5.cell? ⟨w3.heap.size,2,none⟩ = some (.int .i64 A.num):=by rw [Lib.cell_of_heap n5]; rfl
          have p3 : w5.cell? ⟨w3.heap.size,3,none⟩ = some (.slice ao3 A.kids.length d3):=by rw [Lib.cell_of_heap n5]; rfl
          have hbx5:=HBX.out w5 hb5'
          have x0 : w5.cell? ⟨m,0,none⟩ = some (.int .i64 t.kind):=by rw [Lib.cell_of_heap hbx5]; rfl
          have x1 : w5.cell? ⟨m,1,none⟩ = some (.string ⟨t.text.toArray⟩):=by rw [Lib.cell_of_heap hbx5]; rfl
          have x2 : w5.cell? ⟨m,2,none⟩ = some (.int .i64 t.num):=by rw [Lib.cell_of_heap hbx5]; rfl
          have x3 : w5.cell? ⟨m,3,none⟩ = some (.slice ao t.kids.length c):=by rw [Lib.cell_of_heap hbx5]; rfl
          have l5 : w3.heap.size < w5.heap.size:=Nat.lt_of_lt_of_le lA hb5.size
          have m5 : m < w5.heap.size:=Nat.lt_of_lt_of_le hz0 hb5'.size
          clear nA kA sA lA
          go_wp2_with fail
          have hd6 : Below w5.heap.size w5 w5.drew:=⟨rfl,rfl,rfl,Nat.le_refl _,fun _ _ => rfl⟩
          have hb6 : Below w5.heap.size w5 (w5.drew.alloc (.cells #[.int .i64 0,.int .i64 1,.int .i64 0,.int .i64 0] 3)):=hd6.alloc (Nat.le_refl _) _
          have n6 : (w5.drew.alloc (.cells #[.int .i64 0,.int .i64 1,.int .i64 0,.int .i64 0] 3)).heap[w5.heap.size]? = some (.cells #[.int .i64 0,.int .i64 1,.int .i64 0,.int .i64 0] 3 (0,0)):=heap_alloc_new w5.drew _
          have z6 : w5.heap.size < (w5.drew.alloc (.cells #[.int .i64 0,.int .i64 1,.int .i64 0,.int .i64 0] 3)).heap.size:=by rw [World.size_alloc]; exact Nat.lt_succ_self _
          obtain ⟨W6,hW6⟩ : ∃ W,w5.drew.alloc (.cells #[.int .i64 0,.int .i64 1,.int .i64 0,.int .i64 0] 3) = W:=⟨_,rfl⟩
          rw [hW6] at hb6 n6 z6
          have hb6':=hb5'.trans (hb6.mono hb5'.size)
          have d0 : w5.drew.heap.size = w5.heap.size:=rfl
          have np : w5.drew.heap[w3.heap.size]? = some (nbx A (.slice ao3 A.kids.length d3)):=n5
          have nx : w5.drew.heap[m]? = some (nbx t (.slice ao t.kids.length c)):=hbx5
          have np6 : W6.heap[w3.heap.size]? = some (nbx A (.slice ao3 A.kids.length d3)):=(hb6.block _ l5).trans n5
          have nx6 : W6.heap[m]? = some (nbx t (.slice ao t.kids.length c)):=(hb6.block _ m5).trans hbx5
          have pd0 : w5.drew.cell? ⟨w3.heap.size,0,none⟩ = some (.int .i64 A.kind):=by rw [Lib.cell_of_heap np]; rfl
          have pd1 : w5.drew.cell? ⟨w3.heap.size,1,none⟩ = some (.string ⟨A.text.toArray⟩):=by rw [Lib.cell_of_heap np]; rfl
          have pd2 : w5.drew.cell? ⟨w3.heap.size,2,none⟩ = some (.int .i64 A.num):=by rw [Lib.cell_of_heap np]; rfl
          have pd3 : w5.drew.cell? ⟨w3.heap.size,3,none⟩ = some (.slice ao3 A.kids.length d3):=by rw [Lib.cell_of_heap np]; rfl
          have xd0 : w5.drew.cell? ⟨m,0,none⟩ = some (.int .i64 t.kind):=by rw [Lib.cell_of_heap nx]; rfl
          have xd1 : w5.drew.cell? ⟨m,1,none⟩ = some (.string ⟨t.text.toArray⟩):=by rw [Lib.cell_of_heap nx]; rfl
          have xd2 : w5.drew.cell? ⟨m,2,none⟩ = some (.int .i64 t.num):=by rw [Lib.cell_of_heap nx]; rfl
          have xd3 : w5.drew.cell? ⟨m,3,none⟩ = some (.slice ao t.kids.length c):=by rw [Lib.cell_of_heap nx]; rfl
          have pe0 : W6.cell? ⟨w3.heap.size,0,none⟩ = some (.int .i64 A.kind):=by rw [Lib.cell_of_heap np6]; rfl
          have pe1 : W6.cell? ⟨w3.heap.size,1,none⟩ = some (.string ⟨A.text.toArray⟩):=by rw [Lib.cell_of_heap np6]; rfl
          have pe2 : W6.cell? ⟨w3.heap.size,2,none⟩ = some (.int .i64 A.num):=by rw [Lib.cell_of_heap np6]; rfl
          have pe3 : W6.cell? ⟨w3.heap.size,3,none⟩ = some (.slice ao3 A.kids.length d3):=by rw [Lib.cell_of_heap np6]; rfl
          have xe0 : W6.cell? ⟨m,0,none⟩ = some (.int .i64 t.kind):=by rw [Lib.cell_of_heap nx6]; rfl
          have xe1 : W6.cell? ⟨m,1,none⟩ = some (.string ⟨t.text.toArray⟩):=by rw [Lib.cell_of_heap nx6]; rfl
          have xe2 : W6.cell? ⟨m,2,none⟩ = some (.int .i64 t.num):=by rw [Lib.cell_of_heap nx6]; rfl
          have xe3 : W6.cell? ⟨m,3,none⟩ = some (.slice ao t.kids.length c):=by rw [Lib.cell_of_heap nx6]; rfl
          have k6 : KT W6 (Rg w2.heap.size w3.heap.size) A (.slice ao3 A.kids.length d3):=k5.fr (fun b hb => hb6.block b (s5 b hb)) (fun _ h => h)
          have s6 : ∀ b,Rg w2.heap.size w3.heap.size b → b < W6.heap.size:=fun b hb => Nat.lt_of_lt_of_le (s5 b hb) hb6.size
          have c6:=atW_any [0,1,0,0] (by decide) A t (.slice ao3 A.kids.length d3) _ W6 s6 k6 w5.heap.size 4 (fun i y hi => by
           match i,hi with
           | 0,hi => simp at hi; subst hi; exact ⟨by rw [Lib.cell_of_heap n6]; rfl,by decide⟩
           | 1,hi => simp at hi; subst hi; exact ⟨by rw [Lib.cell_of_heap n6]; rfl,by decide⟩
           | 2,hi => simp at hi; subst hi; exact ⟨by rw [Lib.cell_of_heap n6]; rfl,by decide⟩
           | 3,hi => simp at hi; subst hi; exact ⟨by rw [Lib.cell_of_heap n6]; rfl,by decide⟩
           | i + 4,hi => simp at hi) HY.out
          have HK6:=Lib.hid (HK.out W6 hb6')
          clear p0 p1 p2 p3 x0 x1 x2 x3 np nx np6 n5 hbx5 n6 k5 k6 s5 d0
          (first | go_region_with (first
            | (have k:=hb7; clear k; go_at_call 14; refine c7.mono ?_; rintro e w8 ⟨rfl,hb8⟩)
            | (go_at_call 15; refine c6.mono ?_; rintro e w7 ⟨sl7,rfl,hb7,k7⟩
               obtain ⟨ao7,d7,rfl⟩:=(Lst.kids k7).slice
               have nx7 : w7.heap[m]? = some (nbx t (.slice ao t.kids.length c)):=(hb7.block _ (Nat.lt_of_lt_of_le m5 hb6.size)).trans nx6
               have xf0 : w7.cell? ⟨m,0,none⟩ = some (.int .i64 t.kind):=by rw [Lib.cell_of_heap nx7]; rfl
               have xf1 : w7.cell? ⟨m,1,none⟩ = some (.string ⟨t.text.toArray⟩):=by rw [Lib.cell_of_heap nx7]; rfl
               have xf2 : w7.cell? ⟨m,2,none⟩ = some (.int .i64 t.num):=by rw [Lib.cell_of_heap nx7]; rfl
               have xf3 : w7.cell? ⟨m,3,none⟩ = some (.slice ao t.kids.length c):=by rw [Lib.cell_of_heap nx7]; rfl
               have c7:=same_n 96 t ao7 ao d7 c _ _ w7 HLt.out (fun b hb => Nat.lt_of_lt_of_le (s6 b hb) hb7.size) (fun b hb => Nat.lt_of_lt_of_le hb (Nat.le_trans hb6'.size hb7.size)) k7 (HK6.out.fr (fun b hb => hb7.block b (Nat.lt_of_lt_of_le hb hb6'.size)) (fun _ h => h)))) | fail)
          all_goals
           have hb7':=hb6'.trans (hb7.mono hb6'.size)
           have hb8':=hb7'.trans (hb8.mono hb7'.size)
           go_wp2
           go_ret
           exact ⟨rfl,HB.out _ hb8'⟩
        · rw [o2] at c4
          clear o2
          go_wp2_with fail
          refine c4.mono ?_
          rintro e w4 ⟨hb4,rfl⟩
          clear c4
          have hb4':=hbV'.trans (hb4.mono hbV'.size)
          go_wp2
          go_ret
          exact ⟨by simp,HB.out _ (hb4'.alloc hb4'.size _)⟩
      · rw [o1] at c3
        clear o1
        go_wp2_with fail
        refine c3.mono ?_
        rintro e w3 ⟨hb3,rfl⟩
        clear c3
        have hb3':=hb2'.trans (hb3.mono hb2'.size)
        have hbV':=hb3'.alloc hb3'.size (.cells #[.int .i64 0,.string ⟨#[]⟩,.int .i64 0,.slice none 0 0] 24)
        have c4:=HC.out _ (HGW.out _ hbV').gl
        rcases o2 with o2 | ⟨a2,o2⟩
        · rw [o2] at c4
          clear o2
          go_wp2_with fail
          refine c4.mono ?_
          rintro e w4 ⟨hb4,sl4,rfl,k4⟩
          clear c4
          obtain ⟨ao4,d4,rfl⟩:=(Lst.kids k4).slice
          have hb4':=hbV'.trans (hb4.mono hbV'.size)
          go_wp2
          go_ret
          exact ⟨by simp,HB.out _ (hb4'.alloc hb4'.size _)⟩
        · rw [o2] at c4
          clear o2
          go_wp2_with fail
          refine c4.mono ?_
          rintro e w4 ⟨hb4,rfl⟩
          clear c4
          have hb4':=hbV'.trans (hb4.mono hbV'.size)
          go_wp2
          go_ret
          exact ⟨by simp,HB.out _ (hb4'.alloc hb4'.size _)⟩
  · have h1 : (te != 0) = true:=by simpa using h0
    go_enter Tryz.func6,Tryz.ntmps6
    go_wp2_with fail
    refine c1.mono ?_
    rintro e w1 ⟨rfl,hb1⟩
    clear c1 y0 y1 y2 y3
    have c2:=awake_any w1 (HGW.out w1 hb1)
    go_wp2_with fail
    refine c2.mono ?_
    rintro e w2 ⟨rfl,hb2⟩
    clear c2
    have hb2':=hb1.trans (hb2.mono hb1.size)
    have c3:=awake_any w2 (HGW.out w2 hb2')
    go_wp2_with fail
    refine c3.mono ?_
    rintro e w3 ⟨rfl,hb3⟩
    go_wp2
    go_ret
    exact ⟨rfl,HB.out _ (hb2'.trans (hb3.mono hb2'.size))⟩
end Go.Proofs.YtffnaknidofobaaGreatDoor
