/- The parser's limits: how many nodes a tree has, and how deep it is. -/
import Derived.Test.YtnkphlkjhgngkaaGreatDoorParIJt
namespace Go.Proofs.YtnkphlkjhgngkaaGreatDoor
open Go.RowKit
mutual
/-- How many of so many nodes are left behind a tree; none: it has too many, or is too deep. -/
def cntT : Tr → Nat → Nat → Option Nat
  | .mk _ _ _ ks,deep,left => if deep = 0 ∨ left = 0 then none else cntL ks (deep - 1) (left - 1)
def cntL : List Tr → Nat → Nat → Option Nat
  | [],_,left => some left
  | t :: ts,deep,left => match cntT t deep left with
    | none => none
    | some l => cntL ts deep l
end
def smallT (t : Tr) : Bool:=(cntT t 100 20000).isSome
/-- What counted leaves. -/
def OutC (L : Nat) (w : World) (r : Option Nat) (e : Ending) (w' : World) : Prop :=
  But L w.heap.size w w' ∧ match r with
  | some l => e = .returned (.bool true) ∧ w'.heap[L]? = some (.cells #[.int .i64 l] 3 (0,0))
  | none => e = .returned (.bool false)
theorem OutC.of {L : Nat} {w : World} {r r' : Option Nat} {e : Ending} {w' : World} (hr : Hid (r = r')) (o : OutC L w r' e w') : OutC L w r e w':=by
 have:=hr.out; subst this; exact o
mutual
theorem cntT_le : ∀ (t : Tr) (deep left l : Nat),cntT t deep left = some l → l ≤ left
  | .mk _ _ _ ks,deep,left,l,h => by
   simp only [cntT] at h
   split at h
   · cases h
   · have:=cntL_le ks (deep - 1) (left - 1) l h
     omega
theorem cntL_le : ∀ (ts : List Tr) (deep left l : Nat),cntL ts deep left = some l → l ≤ left
  | [],_,left,l,h => by simp only [cntL] at h; cases h; exact Nat.le_refl _
  | t :: ts,deep,left,l,h => by
   simp only [cntL] at h
   split at h
   · cases h
   · rename_i l1 h1
     have a:=cntT_le t deep left l1 h1
     have b:=cntL_le ts deep l1 l h
     omega
end
mutual
/-- No tree of these has more kids than may be: what is counted, counts its kids. -/
theorem cntL_len : ∀ (ts : List Tr) (deep left l : Nat),cntL ts deep left = some l → l + ts.length ≤ left
  | [],_,left,l,h => by simp only [cntL] at h; cases h; simp
  | t :: ts,deep,left,l,h => by
   simp only [cntL] at h
   split at h
   · cases h
   · rename_i l1 h1
     have a:=cntT_lt t deep left l1 h1
     have b:=cntL_len ts deep l1 l h
     simp; omega
theorem cntT_lt : ∀ (t : Tr) (deep left l : Nat),cntT t deep left = some l → l + 1 ≤ left
  | .mk _ _ _ ks,deep,left,l,h => by
   simp only [cntT] at h
   split at h
   · cases h
   · have:=cntL_len ks (deep - 1) (left - 1) l h
     omega
end
theorem drop_get {ts : List Tr} {k : Nat} {t : Tr} (h : ts[k]? = some t) : ts.drop k = t :: ts.drop (k + 1):=by
 have hk : k < ts.length:=by
  rcases Nat.lt_or_ge k ts.length with h1 | h1
  · exact h1
  · rw [List.getElem?_eq_none h1] at h; cases h
 rw [List.getElem?_eq_getElem hk] at h
 cases h
 exact List.drop_eq_getElem_cons hk
set_option maxRecDepth 20000 in
set_option maxHeartbeats 1600000 in
theorem counted_any : ∀ (deep : Nat) (k : Int) (s : List UInt8) (num : Int) (ks : List Tr) (sl : Value) (S : Nat → Prop) (w : World) (L left : Nat),deep ≤ 100 → left ≤ 20000 → w.heap[L]? = some (.cells #[.int .i64 left] 3 (0,0)) → (∀ b,S b → b < w.heap.size ∧ b ≠ L) → KT w S (.mk k s num ks) sl →
    Calls Tryz.prog 36 #[.agg #[.int .i64 k,.string ⟨s.toArray⟩,.int .i64 num,sl],.int .i64 deep,.pointer (some ⟨L,0,none⟩)] w (OutC L w (cntT (.mk k s num ks) deep left)):=by
  intro deep
  induction deep with
  | zero =>
   intro k s num ks sl S w L left _ hl hL hS hk
   have lc : w.cell? ⟨L,0,none⟩ = some (.int .i64 left):=by simp [World.cell?,hL]
   obtain ⟨ao,nn,c,rfl⟩:=hk.slice
   have HR : Hid (cntT (.mk k s num ks) 0 left = none):=by simp [Hid,cntT]
   go_enter Tryz.func36,Tryz.ntmps36
   go_wp2
   go_ret
   exact OutC.of HR ⟨(But.refl _ _ _).alloc (Nat.le_refl _) _,rfl⟩
  | succ deep ih =>
   intro k s num ks sl S w L left hd hl hL hS hk
   have HI:=Lib.hid ih
   clear ih
   have lc : w.cell? ⟨L,0,none⟩ = some (.int .i64 left):=by simp [World.cell?,hL]
   have lf : w.frozen? ⟨L,0,none⟩ = false:=by simp [World.frozen?,hL]
   have lL:=lt_of_block hL
   have nL : L ≠ w.heap.size:=by omega
   have nL2 : w.heap.size ≠ L:=by omega
   by_cases h0 : left = 0
   · subst h0
     obtain ⟨ao,nn,c,rfl⟩:=hk.slice
     have HR : Hid (cntT (.mk k s num ks) (deep + 1) 0 = none):=by simp [Hid,cntT]
     have dz : (((deep : Int) + 1) == 0) = false:=by rw [beq_eq_false_iff_ne]; omega
     go_enter Tryz.func36,Tryz.ntmps36
     go_wp2
     go_ret
     exact OutC.of HR ⟨(But.refl _ _ _).alloc (Nat.le_refl _) _,rfl⟩
   · obtain ⟨l,rfl⟩ : ∃ l,left = l + 1:=⟨left - 1,by omega⟩
     have HR0 : Hid (cntT (.mk k s num ks) (deep + 1) (l + 1) = cntL ks deep l):=by simp [Hid,cntT]
     have dz : ((deep : Int) + 1 == 0) = false:=by rw [beq_eq_false_iff_ne]; omega
     have lz : ((l : Int) + 1 == 0) = false:=by rw [beq_eq_false_iff_ne]; omega
     clear h0
     have hk':=hk
     simp only [KT] at hk'
     obtain ⟨sls,hrow,hkl⟩:=hk'
     obtain ⟨ao,nn,c,rfl⟩:=hk.slice
     have hnn : nn = ks.length ∧ (0 < ks.length → ∃ g o,ao = some ⟨g,o,none⟩ ∧ S g ∧ ∀ (j : Nat) u,(cellsOf ks sls)[j]? = some u → w.cell? ⟨g,o + j,none⟩ = some u):=by
      rcases hrow with ⟨e0,a,c',e⟩ | ⟨g,o,cap,e,_,hg,hc⟩
      · cases e; exact ⟨e0.symm,fun h => by omega⟩
      · cases e; exact ⟨rfl,fun _ => ⟨g,o,rfl,hg,hc⟩⟩
     obtain ⟨rfl,hrows⟩:=hnn
     have HW:=Lib.hid hrows
     have HK:=Lib.hid hkl
     clear hrows hkl hrow
     have hL1:=heap_setCell_same w L 0 (.int .i64 l) hL
     obtain ⟨W1,hW1⟩ : ∃ W1,(w.setCell ⟨L,0,none⟩ (.int .i64 l)).alloc (.cells #[.int .i64 k,.string ⟨s.toArray⟩,.int .i64 num,.slice ao ks.length c] 24) = W1:=⟨_,rfl⟩
     have hB1 : But L w.heap.size w W1:=hW1 ▸ ((But.refl L w.heap.size w).setCell (p:=⟨L,0,none⟩) (.inl rfl) _).alloc (by simp) _
     have hL2 : W1.heap[L]? = some (.cells #[.int .i64 l] 3 (0,0)):=by rw [← hW1,Below.heap_alloc _ _ _ (by simp; omega),hL1]; rfl
     have kc3 : W1.cell? ⟨w.heap.size,3,none⟩ = some (.slice ao ks.length c):=by rw [← hW1]; have:=World.cell?_alloc_new (w.setCell ⟨L,0,none⟩ (.int .i64 l)) #[.int .i64 k,.string ⟨s.toArray⟩,.int .i64 num,.slice ao ks.length c] 24 3; rw [World.size_setCell] at this; rw [this]; rfl
     rw [show (((deep + 1 : Nat)) : Int) = (deep : Int) + 1 by omega]
     go_enter Tryz.func36,Tryz.ntmps36
     go_wp2_with fail
     go_loopw [25] (fun v wr => ∃ (q l2 : Nat),q ≤ ks.length ∧ v = .int .i64 q ∧ But L w.heap.size w wr ∧ wr.heap[L]? = some (.cells #[.int .i64 l2] 3 (0,0)) ∧ q + l2 ≤ 20000 ∧ Hid (cntT (.mk k s num ks) (deep + 1) (l + 1) = cntL (ks.drop q) deep l2)) (fun v _ => ks.length - (intOf v).toNat)
     case atStart => exact ⟨0,l,Nat.zero_le _,rfl,hB1,hL2,by omega,HR0.out⟩
     case round =>
      obtain ⟨q,l2,hq,rfl,hb,hL3,hl2,HQ⟩:=hrel
      clear hW1 hB1 hL2 hL1 kc3
      have hz:=hb.size
      by_cases hlt : q < ks.length
      · obtain ⟨g,o,rfl,hg,hc⟩:=HW.out (by omega)
        obtain ⟨t,ht⟩ : ∃ t,ks[q]? = some t:=⟨_,List.getElem?_eq_getElem hlt⟩
        obtain ⟨sl,hs⟩ : ∃ sl,sls[q]? = some sl:=⟨_,List.getElem?_eq_getElem (by rw [HK.out.length]; exact hlt)⟩
        have hkt:=HK.out.get ht hs
        obtain ⟨a3,n3,c3,rfl⟩:=hkt.slice
        obtain ⟨q0,q1,q2,q3⟩:=cellsOf_get ht hs
        have r : ∀ o,wr.cell? ⟨g,o,none⟩ = w.cell? ⟨g,o,none⟩:=fun o => hb.cell (hS g hg).1 (hS g hg).2
        have x0 : wr.cell? ⟨g,o + q * 4,none⟩ = some (.int .i64 t.kind):=(r _).trans (hc _ _ q0)
        have x1 : wr.cell? ⟨g,o + q * 4 + 1,none⟩ = some (.string ⟨t.text.toArray⟩):=(r _).trans (hc _ _ q1)
        have x2 : wr.cell? ⟨g,o + q * 4 + 2,none⟩ = some (.int .i64 t.num):=(r _).trans (hc _ _ q2)
        have x3 : wr.cell? ⟨g,o + q * 4 + 3,none⟩ = some (.slice a3 n3 c3):=(r _).trans (hc _ _ q3)
        have hlb:=lt_of_block hL3
        have HD:=Lib.hid (drop_get ht)
        have hkt3 : KT (wr.alloc (.cells #[.int .i64 t.kind,.string ⟨t.text.toArray⟩,.int .i64 t.num,.slice a3 n3 c3] 24)) S t (.slice a3 n3 c3):=hkt.fr (fun b hb' => (Below.heap_alloc wr _ b (by have:=(hS b hb').1; omega)).trans (hb.block b (hS b hb').1 (hS b hb').2)) (fun _ h => h)
        obtain ⟨tk,ts,tn,tks⟩:=t
        have cC:=HI.out tk ts tn tks (.slice a3 n3 c3) S _ L l2 (by omega) (by omega) ((Below.heap_alloc wr (.cells #[.int .i64 tk,.string ⟨ts.toArray⟩,.int .i64 tn,.slice a3 n3 c3] 24) L hlb).trans hL3) (fun b hb' => ⟨by rw [World.size_alloc]; have:=(hS b hb').1; omega,(hS b hb').2⟩) hkt3
        clear ht hs q0 q1 q2 q3 r hc hkt hkt3
        go_wp2_with fail
        refine cC.mono ?_
        rintro e w2 ⟨hb2,hr2⟩
        have z2:=hb2.size
        rw [World.size_alloc] at z2
        have hb3 : But L w.heap.size w w2:=(hb.alloc hz _).trans (hb2.mono (by simp; omega))
        clear cC
        cases hp : cntT (.mk tk ts tn tks) deep l2 with
        | none =>
         rw [hp] at hr2
         have HX : Hid (cntT (.mk k s num ks) (deep + 1) (l + 1) = none):=HQ.out.trans (by rw [HD.out]; simp only [cntL,hp])
         cases hr2
         clear hp
         go_wp2
         go_ret
         exact OutC.of HX ⟨hb3,rfl⟩
        | some l3 =>
         rw [hp] at hr2
         obtain ⟨rfl,hL4⟩:=hr2
         have hlt3:=cntT_lt _ _ _ _ hp
         have HX : Hid (cntT (.mk k s num ks) (deep + 1) (l + 1) = cntL (ks.drop (q + 1)) deep l3):=HQ.out.trans (by rw [HD.out]; simp only [cntL,hp])
         clear hp
         go_wp2
         go_roundw
         case rel => exact ⟨q + 1,l3,by omega,by go_num,hb3,hL4,by omega,HX⟩
         case measure => simp [intOf]; omega
      · have HX : Hid (cntT (.mk k s num ks) (deep + 1) (l + 1) = some l2):=HQ.out.trans (by rw [List.drop_eq_nil_of_le (by omega)]; rfl)
        go_wp2
        go_ret
        exact OutC.of HX ⟨hb,rfl,hL3⟩
set_option maxRecDepth 20000 in
theorem small_any (t : Tr) (sl : Value) (S : Nat → Prop) (w : World) (hS : ∀ b,S b → b < w.heap.size) (hk : KT w S t sl) :
    Calls Tryz.prog 21 #[tv t sl] w fun e w' => e = .returned (.bool (smallT t)) ∧ Below w.heap.size w w':=by
  obtain ⟨ao,nn,c,rfl⟩:=hk.slice
  obtain ⟨k,s,num,ks⟩:=t
  have hk1 : KT ((w.alloc (.cells #[.int .i64 k,.string ⟨s.toArray⟩,.int .i64 num,.slice ao nn c] 24)).alloc (.cells #[.int .i64 20000] 3)) S (.mk k s num ks) (.slice ao nn c):=hk.fr (((Fr.refl _ _).alloc hS _).alloc (fun b hb => by have:=hS b hb; simp; omega) _) (fun _ h => h)
  have hL : ((w.alloc (.cells #[.int .i64 k,.string ⟨s.toArray⟩,.int .i64 num,.slice ao nn c] 24)).alloc (.cells #[.int .i64 20000] 3)).heap[w.heap.size + 1]? = some (.cells #[.int .i64 (20000 : Nat)] 3 (0,0)):=by
   have:=heap_alloc_new (w.alloc (.cells #[.int .i64 k,.string ⟨s.toArray⟩,.int .i64 num,.slice ao nn c] 24)) (.cells #[.int .i64 20000] 3)
   rw [World.size_alloc] at this; exact this
  have cC:=counted_any 100 k s num ks (.slice ao nn c) S _ (w.heap.size + 1) 20000 (Nat.le_refl _) (Nat.le_refl _) hL (fun b hb => ⟨by have:=hS b hb; simp; omega,by have:=hS b hb; omega⟩) hk1
  clear hL hk1
  change Calls Tryz.prog 21 #[.agg #[.int .i64 k,.string ⟨s.toArray⟩,.int .i64 num,.slice ao nn c]] w _
  go_enter Tryz.func21,Tryz.ntmps21
  go_wp2_with fail
  refine cC.mono ?_
  rintro e w2 ⟨hb2,hr2⟩
  have hB : Below w.heap.size w w2:=⟨hb2.os,hb2.tape,hb2.output,by have:=hb2.size; simp at this; omega,fun b hb => (hb2.block b (by simp; omega) (by omega)).trans ((Below.heap_alloc _ _ b (by simp; omega)).trans (Below.heap_alloc w _ b hb))⟩
  cases hp : cntT (.mk k s num ks) 100 20000 with
  | none =>
   rw [hp] at hr2
   cases hr2
   have HX : Hid (smallT (.mk k s num ks) = false):=by simp [Hid,smallT,hp]
   clear hp cC
   go_wp2
   go_ret
   exact ⟨by simp [HX.out],hB⟩
  | some l =>
   rw [hp] at hr2
   obtain ⟨rfl,_⟩:=hr2
   have HX : Hid (smallT (.mk k s num ks) = true):=by simp [Hid,smallT,hp]
   clear hp cC
   go_wp2
   go_ret
   exact ⟨by simp [HX.out],hB⟩
end Go.Proofs.YtnkphlkjhgngkaaGreatDoor
