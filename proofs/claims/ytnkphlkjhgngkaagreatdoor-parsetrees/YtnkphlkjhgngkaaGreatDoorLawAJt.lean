/- awake: the simplest facts. -/
import Derived.Test.YtnkphlkjhgngkaaGreatDoorParAAJt
import Derived.Test.YtnkphlkjhgngkaaGreatDoorSndHJt
namespace Go.Proofs.YtnkphlkjhgngkaaGreatDoor
open Go.RowKit
attribute [local go_sem ↓] Go.wp_at_zero Go.wp_at_succ
def awT : Tr:=.mk 1 [] 0 [.mk 4 [109,97,105,110] 0 [.mk 7 [] 0 [],.mk 20 [] 0 [.mk 24 [] 0 [.mk 51 [] 0 [.mk 44 [112,114,105,110,116] 0 [],.mk 40 [] 1 []]]]]]
theorem awP : parseP [102,117,110,99,32,109,97,105,110,40,41,123,112,114,105,110,116,40,49,41,59,125] = (some awT,0,0):=by kernel_rfl
theorem awS : soundT awT = true:=by kernel_rfl
theorem awX : ∀ n,txtT n awT:=by
 intro n
 rcases n with _ | _ | _ | _ | _ | _ | _ | n <;> simp [txtT,awT,Tr.text,Tr.kids,maxLen]
set_option maxRecDepth 20000 in
set_option maxHeartbeats 1600000 in
theorem awake_any (w : World) (hG : Gl w) : Calls Tryz.prog 10 #[] w fun e w' => e = .returned (.bool true) ∧ Below w.heap.size w w':=by
 have c1:=parse_any ⟨#[102,117,110,99,32,109,97,105,110,40,41,123,112,114,105,110,116,40,49,41,59,125]⟩ (by decide) w hG
 rw [show (ByteArray.mk #[102,117,110,99,32,109,97,105,110,40,41,123,112,114,105,110,116,40,49,41,59,125]).data.toList = [102,117,110,99,32,109,97,105,110,40,41,123,112,114,105,110,116,40,49,41,59,125] from rfl,awP] at c1
 go_enter Tryz.func10,Tryz.ntmps10
 go_wp2_with fail
 refine c1.mono ?_
 rintro e w1 ⟨hb1,sl,rfl,hk⟩
 clear c1
 have hz1:=hb1.size
 obtain ⟨a,g0,o0,a0,n0,q0,hks,hao,y0,y1,y2,y3,hla,hka⟩ : ∃ a g o a0 n0 q0,awT.kids = [a] ∧ (∃ c,sl = .slice (some ⟨g,o,none⟩) 1 c) ∧ w1.cell? ⟨g,o + 0,none⟩ = some (.int .i64 a.kind) ∧ w1.cell? ⟨g,o + 1,none⟩ = some (.string ⟨a.text.toArray⟩) ∧ w1.cell? ⟨g,o + 2,none⟩ = some (.int .i64 a.num) ∧ w1.cell? ⟨g,o + 3,none⟩ = some (.slice a0 n0 q0) ∧ g < w1.heap.size ∧ KT w1 (Rg w.heap.size w1.heap.size) a (.slice a0 n0 q0):=by
  obtain ⟨ao,c,rfl⟩:=(Lst.kids hk).slice
  obtain ⟨a,g0,o0,a0,n0,q0,hks,hao,h⟩:=Lst.kid1 (Lst.kids hk) rfl (fun b hb => hb.2)
  subst hao
  exact ⟨a,g0,o0,a0,n0,q0,hks,⟨c,rfl⟩,h⟩
 obtain ⟨c,rfl⟩:=hao
 have hat : a.text = [109,97,105,110]:=by
  have : [a] = [Tr.mk 4 [109,97,105,110] 0 [.mk 7 [] 0 [],.mk 20 [] 0 [.mk 24 [] 0 [.mk 51 [] 0 [.mk 44 [112,114,105,110,116] 0 [],.mk 40 [] 1 []]]]]]:=hks.symm
  injection this with h; rw [h]; rfl
 rw [hat] at y1
 obtain ⟨W,hW⟩ : ∃ W,w1.alloc (.cells #[.int .i64 1,.string ⟨awT.text.toArray⟩,.int .i64 awT.num,.slice (some ⟨g0,o0,none⟩) 1 c] 24) = W:=⟨_,rfl⟩
 have hbW : Below w1.heap.size w1 W:=hW ▸ (Below.refl _ _).alloc (Nat.le_refl _) _
 have c2:=sound_any awT (.slice (some ⟨g0,o0,none⟩) 1 c) (Rg w.heap.size w1.heap.size) W ((hG.later hb1).later hbW) (fun b hb => Nat.lt_of_lt_of_le hb.2 hbW.size) awX (hk.fr (fun b hb => hbW.block b hb.2) (fun _ h => h))
 rw [awS] at c2
 clear hk hka hat hks
 subst hW
 go_wp2_with fail
 refine c2.mono ?_
 rintro e w2 ⟨rfl,hb2⟩
 clear c2
 go_wp2
 go_ret
 exact ⟨rfl,hb1.trans ((hbW.mono hz1).trans (hb2.mono (by have:=hbW.size; omega)))⟩
end Go.Proofs.YtnkphlkjhgngkaaGreatDoor

namespace Go.Proofs.YtnkphlkjhgngkaaGreatDoor
open Go.RowKit
attribute [local go_sem ↓] Go.wp_at_zero Go.wp_at_succ
mutual
def sameT : Tr → Tr → Bool
  | .mk k s n ks,.mk k' s' n' ks' => k == k' && (s == s' && (n == n' && (ks.length == ks'.length && sameL ks ks')))
def sameL : List Tr → List Tr → Bool
  | a :: xs,b :: ys => sameT a b && sameL xs ys
  | _,_ => true
end
mutual
theorem sameT_refl : ∀ a,sameT a a = true
  | .mk k s n ks => by simp [sameT,sameL_refl ks]
theorem sameL_refl : ∀ a,sameL a a = true
  | [] => rfl
  | a :: xs => by simp [sameL,sameT_refl a,sameL_refl xs]
end
mutual
theorem sameT_eq : ∀ a b,sameT a b = true → a = b
  | .mk k s n ks,.mk k' s' n' ks',h => by
   simp only [sameT,Bool.and_eq_true,beq_iff_eq] at h
   obtain ⟨rfl,rfl,rfl,hl,h⟩:=h
   rw [sameL_eq ks ks' hl h]
theorem sameL_eq : ∀ a b : List Tr,a.length = b.length → sameL a b = true → a = b
  | [],[],_,_ => rfl
  | a :: xs,b :: ys,hl,h => by
   simp only [sameL,Bool.and_eq_true] at h
   rw [sameT_eq a b h.1,sameL_eq xs ys (by simpa using hl) h.2]
  | [],_ :: _,hl,_ => by simp at hl
  | _ :: _,[],hl,_ => by simp at hl
end
theorem sameL_get : ∀ (xs ys : List Tr) (k : Nat) (a b : Tr),xs[k]? = some a → ys[k]? = some b → sameT a b = false → sameL xs ys = false
  | a :: xs,b :: ys,0,_,_,h1,h2,h => by simp at h1 h2; subst h1 h2; simp [sameL,h]
  | a :: xs,b :: ys,k + 1,_,_,h1,h2,h => by simp at h1 h2; simp [sameL,sameL_get xs ys k _ _ h1 h2 h]
  | [],_,_,_,_,h1,_,_ => by simp at h1
  | _ :: _,[],_,_,_,_,h2,_ => by simp at h2
theorem sameL_all : ∀ (xs ys : List Tr),(∀ (k : Nat) a b,xs[k]? = some a → ys[k]? = some b → sameT a b = true) → sameL xs ys = true
  | a :: xs,b :: ys,h => by
   simp only [sameL,Bool.and_eq_true]
   exact ⟨h 0 a b rfl rfl,sameL_all xs ys fun k x y hx hy => h (k + 1) x y (by simpa using hx) (by simpa using hy)⟩
  | [],_,_ => by simp [sameL]
  | _ :: _,[],_ => by simp [sameL]
/-- A tree is so deep at most, and its lists are not too long. -/
def Lim : Nat → Tr → Prop
  | 0,_ => False
  | n + 1,t => t.kids.length ≤ 20000 ∧ ∀ k ∈ t.kids,Lim n k
mutual
theorem lim_of_cnt : ∀ (t : Tr) (deep left l : Nat),cntT t deep left = some l → left ≤ 20000 → Lim deep t
  | .mk k s m ks,deep,left,l,h,hl => by
   simp only [cntT] at h
   split at h
   · cases h
   · rename_i hd
     obtain ⟨d,rfl⟩ : ∃ d,deep = d + 1:=⟨deep - 1,by omega⟩
     have h1:=cntL_len ks d (left - 1) l h
     exact ⟨by simp only [Tr.kids]; omega,lim_of_cntL ks d (left - 1) l h (by omega)⟩
theorem lim_of_cntL : ∀ (ts : List Tr) (deep left l : Nat),cntL ts deep left = some l → left ≤ 20000 → ∀ t ∈ ts,Lim deep t
  | [],_,_,_,_,_,t,hm => by cases hm
  | u :: ts,deep,left,l,h,hl,t,hm => by
   simp only [cntL] at h
   split at h
   · cases h
   · rename_i l1 h1
     rcases List.mem_cons.1 hm with he | hm
     · rw [he]; exact lim_of_cnt u deep left l1 h1 hl
     · exact lim_of_cntL ts deep l1 l h (by have:=cntT_le u deep left l1 h1; omega) t hm
end
theorem lim_of_small {t : Tr} (h : smallT t = true) : Lim 100 t:=by
 simp only [smallT,Option.isSome_iff_exists] at h
 obtain ⟨l,h⟩:=h
 exact lim_of_cnt t 100 20000 l h (Nat.le_refl _)
/-- Two nodes' boxes. -/
structure Hy (w : World) (c0 c1 c2 c3 d0 d1 d2 d3 : Value) (W : World) : Prop where
  bel : Below (w.heap.size + 2) ((w.alloc (.cells #[c0,c1,c2,c3] 24)).alloc (.cells #[d0,d1,d2,d3] 24)) W
section
variable {w W W' : World} {c0 c1 c2 c3 d0 d1 d2 d3 : Value}
theorem Hy.start : Hy w c0 c1 c2 c3 d0 d1 d2 d3 ((w.alloc (.cells #[c0,c1,c2,c3] 24)).alloc (.cells #[d0,d1,d2,d3] 24)):=⟨Below.refl _ _⟩
theorem Hy.size (h : Hy w c0 c1 c2 c3 d0 d1 d2 d3 W) : w.heap.size + 2 ≤ W.heap.size:=by have:=Below.size h.bel; simpa using this
theorem Hy.next (h : Hy w c0 c1 c2 c3 d0 d1 d2 d3 W) (hb : Below W.heap.size W W') : Hy w c0 c1 c2 c3 d0 d1 d2 d3 W':=⟨Below.trans h.bel (hb.mono h.size)⟩
theorem Hy.drew (h : Hy w c0 c1 c2 c3 d0 d1 d2 d3 W) : Hy w c0 c1 c2 c3 d0 d1 d2 d3 W.drew:=by
 have h':=h.bel
 exact ⟨⟨h'.os,h'.tape,h'.output,h'.size,h'.block⟩⟩
theorem Hy.out (h : Hy w c0 c1 c2 c3 d0 d1 d2 d3 W) : Below w.heap.size w W:=(((Below.refl w.heap.size w).alloc (Nat.le_refl _) _).alloc (by simp) _).trans (Below.mono h.bel (by omega))
theorem Hy.cells (h : Hy w c0 c1 c2 c3 d0 d1 d2 d3 W) : W.cell? ⟨w.heap.size,0,none⟩ = some c0 ∧ W.cell? ⟨w.heap.size,1,none⟩ = some c1 ∧ W.cell? ⟨w.heap.size,2,none⟩ = some c2 ∧ W.cell? ⟨w.heap.size,3,none⟩ = some c3 ∧ W.cell? ⟨w.heap.size + 1,0,none⟩ = some d0 ∧ W.cell? ⟨w.heap.size + 1,1,none⟩ = some d1 ∧ W.cell? ⟨w.heap.size + 1,2,none⟩ = some d2 ∧ W.cell? ⟨w.heap.size + 1,3,none⟩ = some d3:=by
 have r : ∀ o,W.cell? ⟨w.heap.size,o,none⟩ = (w.alloc (.cells #[c0,c1,c2,c3] 24)).cell? ⟨w.heap.size,o,none⟩:=fun o => (Below.cell (p:=⟨w.heap.size,o,none⟩) h.bel (by simp)).trans (World.cell?_of_block (Below.heap_alloc _ _ _ (by simp)))
 have r2 : ∀ o,W.cell? ⟨w.heap.size + 1,o,none⟩ = ((w.alloc (.cells #[c0,c1,c2,c3] 24)).alloc (.cells #[d0,d1,d2,d3] 24)).cell? ⟨(w.alloc (.cells #[c0,c1,c2,c3] 24)).heap.size,o,none⟩:=fun o => by
  rw [World.size_alloc]
  exact Below.cell (p:=⟨w.heap.size + 1,o,none⟩) h.bel (by simp)
 refine ⟨?_,?_,?_,?_,?_,?_,?_,?_⟩
 · rw [r,World.cell?_alloc_new]; rfl
 · rw [r,World.cell?_alloc_new]; rfl
 · rw [r,World.cell?_alloc_new]; rfl
 · rw [r,World.cell?_alloc_new]; rfl
 · rw [r2,World.cell?_alloc_new]; rfl
 · rw [r2,World.cell?_alloc_new]; rfl
 · rw [r2,World.cell?_alloc_new]; rfl
 · rw [r2,World.cell?_alloc_new]; rfl
end
/-- A kid of a list that lies. -/
theorem Lst.kid {w : World} {S : Nat → Prop} {ks : List Tr} {ao : Option Addr} {n c j : Nat} {a : Tr} (hL : Lst w S ks (.slice ao n c)) (ha : ks[j]? = some a) (hS : ∀ b,S b → b < w.heap.size) :
    ∃ g o a0 n0 q0,ao = some ⟨g,o,none⟩ ∧ w.cell? ⟨g,o + j * 4,none⟩ = some (.int .i64 a.kind) ∧ w.cell? ⟨g,o + j * 4 + 1,none⟩ = some (.string ⟨a.text.toArray⟩) ∧ w.cell? ⟨g,o + j * 4 + 2,none⟩ = some (.int .i64 a.num) ∧ w.cell? ⟨g,o + j * 4 + 3,none⟩ = some (.slice a0 n0 q0) ∧ g < w.heap.size ∧ KT w S a (.slice a0 n0 q0):=by
  obtain ⟨sls,h1,h2⟩:=hL
  have hl : j < ks.length:=by
   rcases Nat.lt_or_ge j ks.length with h | h
   · exact h
   · rw [List.getElem?_eq_none h] at ha; cases ha
  rcases h1 with ⟨h0,ao',cap,e⟩ | ⟨g,o,cap,e,_,hg,hc⟩
  · omega
  · injection e with e1 e2 e3
    obtain ⟨sl,hs⟩ : ∃ sl,sls[j]? = some sl:=⟨_,List.getElem?_eq_getElem (by rw [h2.length]; exact hl)⟩
    have hk:=h2.get ha hs
    obtain ⟨a0,n0,q0,rfl⟩:=hk.slice
    obtain ⟨q0',q1,q2,q3⟩:=cellsOf_get ha hs
    exact ⟨g,o,a0,n0,q0,e1,hc _ _ q0',hc _ _ q1,hc _ _ q2,hc _ _ q3,hS g hg,hk⟩
/-- What Same leaves. -/
def OutB (b : Bool) (w : World) (e : Ending) (w' : World) : Prop:=e = .returned (.bool b) ∧ Below w.heap.size w w'
theorem OutB.of {b b' : Bool} {w : World} {e : Ending} {w' : World} (hr : Hid (b = b')) (o : OutB b' w e w') : OutB b w e w':=by
 have:=hr.out; subst this; exact o
end Go.Proofs.YtnkphlkjhgngkaaGreatDoor

namespace Go.Proofs.YtnkphlkjhgngkaaGreatDoor
open Go.RowKit
attribute [local go_sem ↓] Go.wp_at_zero Go.wp_at_succ
set_option maxRecDepth 20000 in
set_option maxHeartbeats 40000000 in
theorem same_any : ∀ (n : Nat) (k : Int) (s : List UInt8) (m : Int) (ks : List Tr) (k' : Int) (s' : List UInt8) (m' : Int) (ks' : List Tr) (ao : Option Addr) (c : Nat) (ao' : Option Addr) (c' : Nat) (S S' : Nat → Prop) (w : World),Lim n (.mk k s m ks) → (∀ b,S b → b < w.heap.size) → (∀ b,S' b → b < w.heap.size) → KT w S (.mk k s m ks) (.slice ao ks.length c) → KT w S' (.mk k' s' m' ks') (.slice ao' ks'.length c') →
    Calls Tryz.prog 11 #[.agg #[.int .i64 k,.string ⟨s.toArray⟩,.int .i64 m,.slice ao ks.length c],.agg #[.int .i64 k',.string ⟨s'.toArray⟩,.int .i64 m',.slice ao' ks'.length c']] w (OutB (sameT (.mk k s m ks) (.mk k' s' m' ks')) w):=by
  intro n
  induction n with
  | zero => intro k s m ks k' s' m' ks' ao c ao' c' S S' w h; exact h.elim
  | succ n ih =>
   intro k s m ks k' s' m' ks' ao c ao' c' S S' w hF hS hS' hk hk'
   have HI:=Lib.hid ih
   clear ih
   obtain ⟨hF1,hF2⟩:=hF
   change ks.length ≤ 20000 at hF1
   change ∀ k ∈ ks,Lim n k at hF2
   have HF2:=Lib.hid hF2
   have hL:=Lst.of hk
   have hL':=Lst.of hk'
   have HR : Hid (sameT (.mk k s m ks) (.mk k' s' m' ks') = (k == k' && (s == s' && (m == m' && (ks.length == ks'.length && sameL ks ks'))))):=by simp [Hid,sameT]
   have hX0:=Hy.start (w:=w) (c0:=.int .i64 k) (c1:=.string ⟨s.toArray⟩) (c2:=.int .i64 m) (c3:=.slice ao ks.length c) (d0:=.int .i64 k') (d1:=.string ⟨s'.toArray⟩) (d2:=.int .i64 m') (d3:=.slice ao' ks'.length c')
   clear hF2 hk hk'
   by_cases e1 : k = k'
   · by_cases e2 : s = s'
     · by_cases e3 : m = m'
       · by_cases e4 : ks.length = ks'.length
         · have HX0 : Hid (sameT (.mk k s m ks) (.mk k' s' m' ks') = sameL ks ks'):=HR.out.trans (by simp [e1,e2,e3,e4])
           subst e1 e2 e3
           have f4 : ((ks.length : Int) != (ks'.length : Int)) = false:=by simp; omega
           have l1 : ks.length ≤ ks'.length:=by omega
           have l2 : ks'.length ≤ ks.length:=by omega
           clear e4
           go_enter Tryz.func11,Tryz.ntmps11
           go_wp2_with fail
           go_loopw [5] (fun v wr => ∃ j : Nat,j ≤ ks.length ∧ v = .int .i64 j ∧ Hy w (.int .i64 k) (.string ⟨s.toArray⟩) (.int .i64 m) (.slice ao ks.length c) (.int .i64 k) (.string ⟨s.toArray⟩) (.int .i64 m) (.slice ao' ks'.length c') wr ∧ Hid (∀ (i : Nat) a b,i < j → ks[i]? = some a → ks'[i]? = some b → sameT a b = true)) (fun v _ => ks.length - (intOf v).toNat)
           case atStart => exact ⟨0,Nat.zero_le _,rfl,hX0,Lib.hid (fun i q t hi => by omega)⟩
           case round =>
            obtain ⟨j,hj,rfl,hX,HA⟩:=hrel
            obtain ⟨x0,x1,x2,x3,x4,x5,x6,x7⟩:=hX.cells
            by_cases hlt : j < ks.length
            · obtain ⟨a,ha⟩ : ∃ t,ks[j]? = some t:=⟨_,List.getElem?_eq_getElem hlt⟩
              obtain ⟨b,hb⟩ : ∃ t,ks'[j]? = some t:=⟨_,List.getElem?_eq_getElem (by omega)⟩
              obtain ⟨g,o,a0,n0,q0,hao,y0,y1,y2,y3,hg,hka⟩:=hL.kid ha hS
              obtain ⟨g',o',a0',n0',q0',hao',u0,u1,u2,u3,hg',hkb⟩:=hL'.kid hb hS'
              subst hao hao'
              have hd:=hX.drew
              have z0:=(hX.out.cell (p:=⟨g,o + j * 4,none⟩) hg).trans y0
              have z1:=(hX.out.cell (p:=⟨g,o + j * 4 + 1,none⟩) hg).trans y1
              have z2:=(hX.out.cell (p:=⟨g,o + j * 4 + 2,none⟩) hg).trans y2
              have z3:=(hX.out.cell (p:=⟨g,o + j * 4 + 3,none⟩) hg).trans y3
              have v0:=(hX.out.cell (p:=⟨g',o' + j * 4,none⟩) hg').trans u0
              have v1:=(hX.out.cell (p:=⟨g',o' + j * 4 + 1,none⟩) hg').trans u1
              have v2:=(hX.out.cell (p:=⟨g',o' + j * 4 + 2,none⟩) hg').trans u2
              have v3:=(hX.out.cell (p:=⟨g',o' + j * 4 + 3,none⟩) hg').trans u3
              have hlt' : j < ks'.length:=by omega
              have hLa:=HF2.out a (List.mem_of_getElem? ha)
              obtain ⟨ak,av,am,aks⟩:=a
              obtain ⟨bk,bt,bm,bks⟩:=b
              obtain ⟨_,_,e⟩:=(Lst.of hka).slice
              injection e with e4 e5 e7
              clear e4 e7
              obtain ⟨_,_,e⟩:=(Lst.of hkb).slice
              injection e with e4 e6 e7
              clear e4 e7
              subst e5 e6
              have HAA:=Lib.hid ha
              have HBB:=Lib.hid hb
              simp only [Tr.kind,Tr.text,Tr.num] at z0 z1 z2 v0 v1 v2
              clear ha hb y0 y1 y2 y3 u0 u1 u2 u3
              go_wp2_with fail
              have HK : Hid (∀ WW,Hy w (.int .i64 k) (.string ⟨s.toArray⟩) (.int .i64 m) (.slice (some ⟨g,o,none⟩) ks.length c) (.int .i64 k) (.string ⟨s.toArray⟩) (.int .i64 m) (.slice (some ⟨g',o',none⟩) ks'.length c') WW ∧ WW.cell? ⟨w.heap.size,3,none⟩ = some (.slice (some ⟨g,o,none⟩) ks.length c) ∧ WW.cell? ⟨w.heap.size + 1,3,none⟩ = some (.slice (some ⟨g',o',none⟩) ks'.length c') ∧ WW.cell? ⟨g,o + j * 4,none⟩ = some (.int .i64 ak) ∧ WW.cell? ⟨g,o + j * 4 + 1,none⟩ = some (.string ⟨av.toArray⟩) ∧ WW.cell? ⟨g,o + j * 4 + 2,none⟩ = some (.int .i64 am) ∧ WW.cell? ⟨g,o + j * 4 + 3,none⟩ = some (.slice a0 aks.length q0) ∧ WW.cell? ⟨g',o' + j * 4,none⟩ = some (.int .i64 bk) ∧ WW.cell? ⟨g',o' + j * 4 + 1,none⟩ = some (.string ⟨bt.toArray⟩) ∧ WW.cell? ⟨g',o' + j * 4 + 2,none⟩ = some (.int .i64 bm) ∧ WW.cell? ⟨g',o' + j * 4 + 3,none⟩ = some (.slice a0' bks.length q0') → Calls Tryz.prog 11 #[.agg #[.int .i64 ak,.string ⟨av.toArray⟩,.int .i64 am,.slice a0 aks.length q0],.agg #[.int .i64 bk,.string ⟨bt.toArray⟩,.int .i64 bm,.slice a0' bks.length q0']] WW fun e WW => e = .returned (.bool (sameT (.mk ak av am aks) (.mk bk bt bm bks))) ∧ Hy w (.int .i64 k) (.string ⟨s.toArray⟩) (.int .i64 m) (.slice (some ⟨g,o,none⟩) ks.length c) (.int .i64 k) (.string ⟨s.toArray⟩) (.int .i64 m) (.slice (some ⟨g',o',none⟩) ks'.length c') WW ∧ WW.cell? ⟨w.heap.size,3,none⟩ = some (.slice (some ⟨g,o,none⟩) ks.length c) ∧ WW.cell? ⟨w.heap.size + 1,3,none⟩ = some (.slice (some ⟨g',o',none⟩) ks'.length c') ∧ WW.cell? ⟨g,o + j * 4,none⟩ = some (.int .i64 ak) ∧ WW.cell? ⟨g,o + j * 4 + 1,none⟩ = some (.string ⟨av.toArray⟩) ∧ WW.cell? ⟨g,o + j * 4 + 2,none⟩ = some (.int .i64 am) ∧ WW.cell? ⟨g,o + j * 4 + 3,none⟩ = some (.slice a0 aks.length q0) ∧ WW.cell? ⟨g',o' + j * 4,none⟩ = some (.int .i64 bk) ∧ WW.cell? ⟨g',o' + j * 4 + 1,none⟩ = some (.string ⟨bt.toArray⟩) ∧ WW.cell? ⟨g',o' + j * 4 + 2,none⟩ = some (.int .i64 bm) ∧ WW.cell? ⟨g',o' + j * 4 + 3,none⟩ = some (.slice a0' bks.length q0')):=by
               refine Lib.hid ?_
               rintro W ⟨hY,q3,q7,w0,w1,w2,w3,t0,t1,t2,t3⟩
               have hbo:=hY.out
               refine (HI.out ak av am aks bk bt bm bks a0 q0 a0' q0' S S' W hLa (fun b hb => Nat.lt_of_lt_of_le (hS b hb) hbo.size) (fun b hb => Nat.lt_of_lt_of_le (hS' b hb) hbo.size) (hka.fr (fun b hb => hbo.block b (hS b hb)) (fun _ h => h)) (hkb.fr (fun b hb => hbo.block b (hS' b hb)) (fun _ h => h))).mono ?_
               rintro e W2 ⟨rfl,hb2⟩
               have hp1 : w.heap.size < W.heap.size:=by have:=hY.size; omega
               have hp2 : w.heap.size + 1 < W.heap.size:=by have:=hY.size; omega
               have hp3 : g < W.heap.size:=Nat.lt_of_lt_of_le hg hbo.size
               have hp4 : g' < W.heap.size:=Nat.lt_of_lt_of_le hg' hbo.size
               exact ⟨rfl,hY.next hb2,(hb2.cell (p:=⟨w.heap.size,3,none⟩) hp1).trans q3,(hb2.cell (p:=⟨w.heap.size + 1,3,none⟩) hp2).trans q7,(hb2.cell (p:=⟨g,o + j * 4,none⟩) hp3).trans w0,(hb2.cell (p:=⟨g,o + j * 4 + 1,none⟩) hp3).trans w1,(hb2.cell (p:=⟨g,o + j * 4 + 2,none⟩) hp3).trans w2,(hb2.cell (p:=⟨g,o + j * 4 + 3,none⟩) hp3).trans w3,(hb2.cell (p:=⟨g',o' + j * 4,none⟩) hp4).trans t0,(hb2.cell (p:=⟨g',o' + j * 4 + 1,none⟩) hp4).trans t1,(hb2.cell (p:=⟨g',o' + j * 4 + 2,none⟩) hp4).trans t2,(hb2.cell (p:=⟨g',o' + j * 4 + 3,none⟩) hp4).trans t3⟩
              clear hX hX0 x0 x1 x2 x4 x5 x6 HF2 HI hL hL' hS hS' hLa hg hg' l1 l2 f4 HR hka hkb
              go_region_held3 (fun WW => Hy w (.int .i64 k) (.string ⟨s.toArray⟩) (.int .i64 m) (.slice (some ⟨g,o,none⟩) ks.length c) (.int .i64 k) (.string ⟨s.toArray⟩) (.int .i64 m) (.slice (some ⟨g',o',none⟩) ks'.length c') WW ∧ WW.cell? ⟨w.heap.size,3,none⟩ = some (.slice (some ⟨g,o,none⟩) ks.length c) ∧ WW.cell? ⟨w.heap.size + 1,3,none⟩ = some (.slice (some ⟨g',o',none⟩) ks'.length c') ∧ WW.cell? ⟨g,o + j * 4,none⟩ = some (.int .i64 ak) ∧ WW.cell? ⟨g,o + j * 4 + 1,none⟩ = some (.string ⟨av.toArray⟩) ∧ WW.cell? ⟨g,o + j * 4 + 2,none⟩ = some (.int .i64 am) ∧ WW.cell? ⟨g,o + j * 4 + 3,none⟩ = some (.slice a0 aks.length q0) ∧ WW.cell? ⟨g',o' + j * 4,none⟩ = some (.int .i64 bk) ∧ WW.cell? ⟨g',o' + j * 4 + 1,none⟩ = some (.string ⟨bt.toArray⟩) ∧ WW.cell? ⟨g',o' + j * 4 + 2,none⟩ = some (.int .i64 bm) ∧ WW.cell? ⟨g',o' + j * 4 + 3,none⟩ = some (.slice a0' bks.length q0')) (first | assumption | exact ⟨hd,x3,x7,z0,z1,z2,z3,v0,v1,v2,v3⟩) (first | (go_simp; go_at_call 11; refine (HK.out _ (by assumption)).mono ?_; rintro e w2 ⟨rfl,hs2⟩))
              all_goals
               have hX2:=hs2.1
               cases hp : sameT (.mk ak av am aks) (.mk bk bt bm bks) with
               | false =>
                have HX : Hid (sameT (.mk k s m ks) (.mk k s m ks') = false):=HX0.out.trans (sameL_get _ _ j _ _ HAA.out HBB.out hp)
                clear hp
                go_wp2
                go_ret
                exact OutB.of HX ⟨rfl,hX2.out⟩
               | true =>
                have HX : Hid (∀ (i : Nat) a b,i < j + 1 → ks[i]? = some a → ks'[i]? = some b → sameT a b = true):=by
                 refine Lib.hid ?_
                 intro i a b hi h1 h2
                 rcases Nat.lt_or_ge i j with h3 | h3
                 · exact HA.out i a b h3 h1 h2
                 · have : i = j:=by omega
                   subst this
                   rw [HAA.out] at h1; rw [HBB.out] at h2
                   cases h1; cases h2; exact hp
                clear hp
                go_wp2
                go_roundw
                case rel => exact ⟨j + 1,by omega,by go_num,hX2,HX⟩
                case measure => simp [intOf]; omega
            · have HX : Hid (sameT (.mk k s m ks) (.mk k s m ks') = true):=HX0.out.trans (sameL_all _ _ fun i a b h1 h2 => HA.out i a b (by
                have : i < ks.length:=by
                 rcases Nat.lt_or_ge i ks.length with h | h
                 · exact h
                 · rw [List.getElem?_eq_none h] at h1; cases h1
                omega) h1 h2)
              go_wp2
              go_ret
              exact OutB.of HX ⟨rfl,hX.out⟩
         · have HX : Hid (sameT (.mk k s m ks) (.mk k' s' m' ks') = false):=HR.out.trans (by simp [e4])
           subst e1 e2 e3
           have f4 : ((ks.length : Int) != (ks'.length : Int)) = true:=by simp; omega
           clear e4
           go_enter Tryz.func11,Tryz.ntmps11
           go_wp2
           go_ret
           exact OutB.of HX ⟨rfl,hX0.out⟩
       · have HX : Hid (sameT (.mk k s m ks) (.mk k' s' m' ks') = false):=HR.out.trans (by simp [e3])
         subst e1 e2
         have f3 : (m != m') = true:=by simpa using e3
         clear e3
         go_enter Tryz.func11,Tryz.ntmps11
         go_wp2
         go_ret
         exact OutB.of HX ⟨rfl,hX0.out⟩
     · have HX : Hid (sameT (.mk k s m ks) (.mk k' s' m' ks') = false):=HR.out.trans (by simp [e2])
       subst e1
       have f2 : (s != s') = true:=by simpa using e2
       go_enter Tryz.func11,Tryz.ntmps11
       go_wp2
       go_ret
       exact OutB.of HX ⟨rfl,hX0.out⟩
   · have HX : Hid (sameT (.mk k s m ks) (.mk k' s' m' ks') = false):=HR.out.trans (by simp [e1])
     have f1 : (k != k') = true:=by simpa using e1
     clear e1
     go_enter Tryz.func11,Tryz.ntmps11
     go_wp2
     go_ret
     exact OutB.of HX ⟨rfl,hX0.out⟩
end Go.Proofs.YtnkphlkjhgngkaaGreatDoor
