/- The parser's tests of lists: every; names, places and calls; assignments. -/
import Derived.Test.YtffnaknidofobaaGreatDoorParHJt
namespace Go.Proofs.YtffnaknidofobaaGreatDoor
open Go.RowKit
attribute [local go_sem ↓] Go.wp_at_zero Go.wp_at_succ
theorem isNameN_any (t : Tr) (ao : Option Addr) (n c : Nat) (w : World) : Calls Tryz.prog 155 #[tv t (.slice ao n c)] w fun e w' => e = .returned (.bool (isNameT t)) ∧ Below w.heap.size w w':=by
 go_enter Tryz.func155,Tryz.ntmps155
 go_wp2
 go_ret
 exact ⟨rfl,(Below.refl _ _).alloc (Nat.le_refl _) _⟩
theorem isCall_any (t : Tr) (ao : Option Addr) (n c : Nat) (w : World) : Calls Tryz.prog 157 #[tv t (.slice ao n c)] w fun e w' => e = .returned (.bool (isCallT t)) ∧ Below w.heap.size w w':=by
 go_enter Tryz.func157,Tryz.ntmps157
 go_wp2
 go_ret
 exact ⟨rfl,(Below.refl _ _).alloc (Nat.le_refl _) _⟩
set_option maxRecDepth 20000 in
theorem isPlaceV_any (k : Int) (s : List UInt8) (m : Int) (ao : Option Addr) (n c : Nat) (w : World) : Calls Tryz.prog 156 #[.agg #[.int .i64 k,.string ⟨s.toArray⟩,.int .i64 m,.slice ao n c]] w fun e w' => e = .returned (.bool (isPlaceT (.mk k s m []))) ∧ Below w.heap.size w w':=by
 have HR : Hid (isPlaceT (.mk k s m []) = (k == 44 || k == 48 || k == 49 || (k == 52 && s == [42]))):=rfl
 by_cases h1 : k = 44
 · have HX : Hid (isPlaceT (.mk k s m []) = true):=HR.out.trans (by simp [h1])
   subst h1
   go_enter Tryz.func156,Tryz.ntmps156
   go_wp2
   go_ret
   exact ⟨by simp [HX.out],(Below.refl _ _).alloc (Nat.le_refl _) _⟩
 by_cases h2 : k = 48
 · have HX : Hid (isPlaceT (.mk k s m []) = true):=HR.out.trans (by simp [h2])
   subst h2
   go_enter Tryz.func156,Tryz.ntmps156
   go_wp2
   go_ret
   exact ⟨by simp [HX.out],(Below.refl _ _).alloc (Nat.le_refl _) _⟩
 by_cases h3 : k = 49
 · have HX : Hid (isPlaceT (.mk k s m []) = true):=HR.out.trans (by simp [h3])
   subst h3
   go_enter Tryz.func156,Tryz.ntmps156
   go_wp2
   go_ret
   exact ⟨by simp [HX.out],(Below.refl _ _).alloc (Nat.le_refl _) _⟩
 by_cases h4 : k = 52
 · have HX : Hid (isPlaceT (.mk k s m []) = (s == [42])):=HR.out.trans (by simp [h4])
   clear h1 h2 h3
   subst h4
   go_enter Tryz.func156,Tryz.ntmps156
   go_wp2
   go_ret
   exact ⟨by simp [HX.out],(Below.refl _ _).alloc (Nat.le_refl _) _⟩
 have HX : Hid (isPlaceT (.mk k s m []) = false):=HR.out.trans (by simp [h1,h2,h3,h4])
 have e1 : (k == 44) = false:=by simpa using h1
 have e2 : (k == 48) = false:=by simpa using h2
 have e3 : (k == 49) = false:=by simpa using h3
 have e4 : (k == 52) = false:=by simpa using h4
 clear h1 h2 h3 h4
 go_enter Tryz.func156,Tryz.ntmps156
 go_wp2
 go_ret
 exact ⟨by simp [HX.out],(Below.refl _ _).alloc (Nat.le_refl _) _⟩
theorem isPlace_any (t : Tr) (ao : Option Addr) (n c : Nat) (w : World) : Calls Tryz.prog 156 #[tv t (.slice ao n c)] w fun e w' => e = .returned (.bool (isPlaceT t)) ∧ Below w.heap.size w w':=isPlaceV_any t.kind t.text t.num ao n c w
theorem cellsOf_get : ∀ {ts : List Tr} {sls : List Value} {k : Nat} {t : Tr} {sl : Value},ts[k]? = some t → sls[k]? = some sl →
    (cellsOf ts sls)[k * 4]? = some (.int .i64 t.kind) ∧ (cellsOf ts sls)[k * 4 + 1]? = some (.string ⟨t.text.toArray⟩) ∧ (cellsOf ts sls)[k * 4 + 2]? = some (.int .i64 t.num) ∧ (cellsOf ts sls)[k * 4 + 3]? = some sl
  | t :: ts,s :: sls,0,_,_,h1,h2 => by simp at h1 h2; subst h1 h2; simp [cellsOf]
  | t :: ts,s :: sls,k + 1,_,_,h1,h2 => by
   simp at h1 h2
   have:=cellsOf_get (ts:=ts) (sls:=sls) h1 h2
   have e : ∀ j,(k + 1) * 4 + j = k * 4 + j + 1 + 1 + 1 + 1:=by intro j; omega
   simp only [cellsOf]
   rw [show (k + 1) * 4 = k * 4 + 1 + 1 + 1 + 1 by omega]
   simpa [e,Nat.add_assoc] using this
  | [],_,_,_,_,h1,_ => by simp at h1
  | _ :: _,[],_,_,_,_,h2 => by simp at h2
set_option maxRecDepth 20000 in
set_option maxHeartbeats 1600000 in
theorem every_any (p : Tr → Bool) (g : Nat) (ls : Array Value) (he : Enters Tryz.prog g) (ts : List Tr) (sls : List Value) (hsl : sls.length = ts.length) (w : World) (b o cap : Nat) (hn : ts.length ≤ 1000000)
    (hc : ∀ (j : Nat) u,(cellsOf ts sls)[j]? = some u → w.cell? ⟨b,o + j,none⟩ = some u) (hsh : ∀ s ∈ sls,∃ ao n c,s = .slice ao n c)
    (hI : ∀ (k : Nat) t sl w1,ts[k]? = some t → sls[k]? = some sl → Below w.heap.size w w1 → Calls Tryz.prog g (#[tv t sl] ++ ls) w1 fun e w' => e = .returned (.bool (p t)) ∧ Below w1.heap.size w1 w') :
    Calls Tryz.prog 53 #[.slice (some ⟨b,o,none⟩) ts.length cap,.func (.func g) #[] ls] w fun e w' => e = .returned (.bool (ts.all p)) ∧ Below w.heap.size w w':=by
  have eg : ∀ args w,(callFunc g args).run Tryz.prog w = .ok (.enter g args) w:=he
  have HI:=Lib.hid hI
  have HC:=Lib.hid hc
  have HS:=Lib.hid hsh
  clear hI hc hsh
  go_enter Tryz.func53,Tryz.ntmps53
  go_wp2_with fail
  go_loopw [9] (fun v wr => ∃ k : Nat,k ≤ ts.length ∧ v = .int .i64 k ∧ Below w.heap.size w wr ∧ Hid ((ts.take k).all p = true)) (fun v _ => ts.length - (intOf v).toNat)
  case atStart => exact ⟨0,Nat.zero_le _,rfl,Below.refl _ _,by simp [Hid]⟩
  case round =>
   obtain ⟨k,hk,rfl,hb,HA⟩:=hrel
   have hz:=hb.size
   by_cases hlt : k < ts.length
   · obtain ⟨t,ht⟩ : ∃ t,ts[k]? = some t:=⟨_,List.getElem?_eq_getElem hlt⟩
     obtain ⟨sl,hs⟩ : ∃ sl,sls[k]? = some sl:=⟨_,List.getElem?_eq_getElem (by omega)⟩
     obtain ⟨ao,nn,c,rfl⟩:=HS.out sl (List.mem_of_getElem? hs)
     obtain ⟨q0,q1,q2,q3⟩:=cellsOf_get ht hs
     have a0:=HC.out _ _ q0
     have bl:=lt_of_cell a0
     have r : ∀ o,wr.cell? ⟨b,o,none⟩ = w.cell? ⟨b,o,none⟩:=fun o => hb.cell (p:=⟨b,o,none⟩) bl
     have x0 : wr.cell? ⟨b,o + k * 4,none⟩ = some (.int .i64 t.kind):=(r _).trans a0
     have x1 : wr.cell? ⟨b,o + k * 4 + 1,none⟩ = some (.string ⟨t.text.toArray⟩):=(r _).trans (HC.out _ _ q1)
     have x2 : wr.cell? ⟨b,o + k * 4 + 2,none⟩ = some (.int .i64 t.num):=(r _).trans (HC.out _ _ q2)
     have x3 : wr.cell? ⟨b,o + k * 4 + 3,none⟩ = some (.slice ao nn c):=(r _).trans (HC.out _ _ q3)
     have hba:=hb.alloc hz (.cells #[.int .i64 t.kind,.string ⟨t.text.toArray⟩,.int .i64 t.num,.slice ao nn c] 24)
     have cT:=HI.out k t (.slice ao nn c) _ ht hs hba
     have HT:=Lib.hid ht
     clear ht hs q0 q1 q2 q3 a0 r
     go_wp2_with fail
     refine cT.mono ?_
     rintro e w2 ⟨rfl,hb2⟩
     have hb3 : Below w.heap.size w w2:=hba.trans (hb2.mono (by simp; omega))
     clear cT
     cases hp : p t with
     | false =>
      have HX : Hid (ts.all p = false):=by
       rw [Hid,List.all_eq_false]
       exact ⟨t,List.mem_of_getElem? HT.out,by simp [hp]⟩
      clear hp
      go_wp2
      go_ret
      exact ⟨by simp [HX.out],hb3⟩
     | true =>
      have HX : Hid ((ts.take (k + 1)).all p = true):=by
       have e : ts.take (k + 1) = ts.take k ++ [t]:=by rw [List.take_add_one,HT.out]; rfl
       rw [Hid,e,List.all_append,HA.out]; simp [hp]
      clear hp
      go_wp2
      go_roundw
      case rel => exact ⟨k + 1,by omega,by go_num,hb3,HX⟩
      case measure => simp [intOf]; omega
   · have HX : Hid (ts.all p = true):=by
      have:=HA.out
      rwa [List.take_of_length_le (by omega)] at this
     go_wp2
     go_ret
     exact ⟨by simp [HX.out],hb⟩
theorem every_nil (v : Value) (ao : Option Addr) (c : Nat) (w : World) : Calls Tryz.prog 53 #[.slice ao 0 c,v] w fun e w' => e = .returned (.bool true) ∧ w' = w:=by
 go_enter Tryz.func53,Tryz.ntmps53
 go_wp2_with fail
 go_loopw [9] (fun v wr => v = .int .i64 0 ∧ wr = w) (fun _ _ => 0)
 case atStart => exact ⟨rfl,rfl⟩
 case round =>
  obtain ⟨rfl,rfl⟩:=hrel
  go_wp2
  go_ret
  exact ⟨rfl,rfl⟩
theorem enters_isName : Enters Tryz.prog 155:=enters_of Tryz.func155 (by kernel_rfl) rfl
theorem enters_isPlace : Enters Tryz.prog 156:=enters_of Tryz.func156 (by kernel_rfl) rfl
theorem KL.get {w : World} {S : Nat → Prop} : ∀ {ts : List Tr} {sls : List Value} {k : Nat} {t : Tr} {sl : Value},KL w S ts sls → ts[k]? = some t → sls[k]? = some sl → KT w S t sl
  | t :: ts,sls,0,_,_,h,h1,h2 => by
   simp only [KL] at h
   obtain ⟨sl,r,rfl,h3,_⟩:=h
   simp at h1 h2; subst h1 h2; exact h3
  | t :: ts,sls,k + 1,_,_,h,h1,h2 => by
   simp only [KL] at h
   obtain ⟨sl,r,rfl,_,h3⟩:=h
   simp at h1 h2; exact KL.get h3 h1 h2
  | [],_,_,_,_,_,h1,_ => by simp at h1
theorem KL.slices {w : World} {S : Nat → Prop} : ∀ {ts : List Tr} {sls : List Value},KL w S ts sls → ∀ s ∈ sls,∃ ao n c,s = Value.slice ao n c
  | [],sls,h,v,hv => by simp only [KL] at h; rw [h] at hv; simp at hv
  | t :: ts,sls,h,v,hv => by
   simp only [KL] at h
   obtain ⟨sl,r,rfl,h2,h3⟩:=h
   simp only [List.mem_cons] at hv
   rcases hv with rfl | hv
   · exact h2.slice
   · exact KL.slices h3 v hv
/-- every of an own list. -/
theorem every_own (p : Tr → Bool) (g : Nat) (he : Enters Tryz.prog g) {ts : List Tr} {v : Value} {w : World} {B : Nat} (T : OwnL w B v ts) (hn : ts.length ≤ 1000000)
    (hI : ∀ t ao n c w1,Calls Tryz.prog g #[tv t (.slice ao n c)] w1 fun e w' => e = .returned (.bool (p t)) ∧ Below w1.heap.size w1 w') :
    Calls Tryz.prog 53 #[v,.func (.func g) #[] #[]] w fun e w' => e = .returned (.bool (ts.all p)) ∧ Below w.heap.size w w':=by
  obtain ⟨sls,o1,k1⟩:=T
  rcases o1.2 with ⟨rfl,e0⟩ | ⟨q,cap,cur,rfl,hb,hg,hcap,_,hsz,htk⟩
  · have hu : ts = []:=List.eq_nil_of_length_eq_zero e0
    subst hu
    exact (every_nil _ none 0 w).mono fun e w' ⟨h1,h2⟩ => ⟨h1,h2 ▸ Below.refl _ _⟩
  · refine every_any p g #[] he ts sls k1.length w q 0 cap hn (fun j u hj => ?_) k1.slices (fun k t sl w1 ht hs _ => ?_)
    · rw [← htk] at hj
      have hj' : cur[j]? = some u:=by
       rw [List.getElem?_take] at hj
       split at hj
       · simpa using hj
       · cases hj
      simp [World.cell?,hg,hj']
    · obtain ⟨ao,nn,c,rfl⟩:=k1.slices sl (List.mem_of_getElem? hs)
      rw [Array.append_empty]
      exact hI t ao nn c w1
end Go.Proofs.YtffnaknidofobaaGreatDoor

namespace Go.Proofs.YtffnaknidofobaaGreatDoor
open Go.RowKit
mutual
/-- How many of so many nodes are left behind a tree; none: it has too many, or is too deep. -/
def cntT : Tr → Nat → Nat → Option Nat
  | .mk _ _ _ ks,deep,left => if deep = 0 ∨ left = 0 then none else cntL ks (deep - 1) (left - 1)
def cntL : List Tr → Nat → Nat → Option Nat
  | [],_,left => some left
  | t :: ts,deep,left => match cntT t deep left with
    | none => none
    | some l => cntL ts deep l
end
def smallT (t : Tr) : Bool:=(cntT t 100 20000).isSome
/-- What counted leaves. -/
def OutC (L : Nat) (w : World) (r : Option Nat) (e : Ending) (w' : World) : Prop :=
  But L w.heap.size w w' ∧ match r with
  | some l => e = .returned (.bool true) ∧ w'.heap[L]? = some (.cells #[.int .i64 l] 3 (0,0))
  | none => e = .returned (.bool false)
theorem OutC.of {L : Nat} {w : World} {r r' : Option Nat} {e : Ending} {w' : World} (hr : Hid (r = r')) (o : OutC L w r' e w') : OutC L w r e w':=by
 have:=hr.out; subst this; exact o
mutual
theorem cntT_le : ∀ (t : Tr) (deep left l : Nat),cntT t deep left = some l → l ≤ left
  | .mk _ _ _ ks,deep,left,l,h => by
   simp only [cntT] at h
   split at h
   · cases h
   · have:=cntL_le ks (deep - 1) (left - 1) l h
     omega
theorem cntL_le : ∀ (ts : List Tr) (deep left l : Nat),cntL ts deep left = some l → l ≤ left
  | [],_,left,l,h => by simp only [cntL] at h; cases h; exact Nat.le_refl _
  | t :: ts,deep,left,l,h => by
   simp only [cntL] at h
   split at h
   · cases h
   · rename_i l1 h1
     have a:=cntT_le t deep left l1 h1
     have b:=cntL_le ts deep l1 l h
     omega
end
mutual
/-- No tree of these has more kids than may be: what is counted, counts its kids. -/
theorem cntL_len : ∀ (ts : List Tr) (deep left l : Nat),cntL ts deep left = some l → l + ts.length ≤ left
  | [],_,left,l,h => by simp only [cntL] at h; cases h; simp
  | t :: ts,deep,left,l,h => by
   simp only [cntL] at h
   split at h
   · cases h
   · rename_i l1 h1
     have a:=cntT_lt t deep left l1 h1
     have b:=cntL_len ts deep l1 l h
     simp; omega
theorem cntT_lt : ∀ (t : Tr) (deep left l : Nat),cntT t deep left = some l → l + 1 ≤ left
  | .mk _ _ _ ks,deep,left,l,h => by
   simp only [cntT] at h
   split at h
   · cases h
   · have:=cntL_len ks (deep - 1) (left - 1) l h
     omega
end
theorem drop_get {ts : List Tr} {k : Nat} {t : Tr} (h : ts[k]? = some t) : ts.drop k = t :: ts.drop (k + 1):=by
 have hk : k < ts.length:=by
  rcases Nat.lt_or_ge k ts.length with h1 | h1
  · exact h1
  · rw [List.getElem?_eq_none h1] at h; cases h
 rw [List.getElem?_eq_getElem hk] at h
 cases h
 exact List.drop_eq_getElem_cons hk
set_option maxRecDepth 20000 in
set_option maxHeartbeats 1600000 in
theorem counted_any : ∀ (deep : Nat) (k : Int) (s : List UInt8) (num : Int) (ks : List Tr) (sl : Value) (S : Nat → Prop) (w : World) (L left : Nat),deep ≤ 100 → left ≤ 20000 → w.heap[L]? = some (.cells #[.int .i64 left] 3 (0,0)) → (∀ b,S b → b < w.heap.size ∧ b ≠ L) → KT w S (.mk k s num ks) sl →
    Calls Tryz.prog 51 #[.agg #[.int .i64 k,.string ⟨s.toArray⟩,.int .i64 num,sl],.int .i64 deep,.pointer (some ⟨L,0,none⟩)] w (OutC L w (cntT (.mk k s num ks) deep left)):=by
  intro deep
  induction deep with
  | zero =>
   intro k s num ks sl S w L left _ hl hL hS hk
   have lc : w.cell? ⟨L,0,none⟩ = some (.int .i64 left):=by simp [World.cell?,hL]
   obtain ⟨ao,nn,c,rfl⟩:=hk.slice
   have HR : Hid (cntT (.mk k s num ks) 0 left = none):=by simp [Hid,cntT]
   go_enter Tryz.func51,Tryz.ntmps51
   go_wp2
   go_ret
   exact OutC.of HR ⟨(But.refl _ _ _).alloc (Nat.le_refl _) _,rfl⟩
  | succ deep ih =>
   intro k s num ks sl S w L left hd hl hL hS hk
   have HI:=Lib.hid ih
   clear ih
   have lc : w.cell? ⟨L,0,none⟩ = some (.int .i64 left):=by simp [World.cell?,hL]
   have lf : w.frozen? ⟨L,0,none⟩ = false:=by simp [World.frozen?,hL]
   have lL:=lt_of_block hL
   have nL : L ≠ w.heap.size:=by omega
   have nL2 : w.heap.size ≠ L:=by omega
   by_cases h0 : left = 0
   · subst h0
     obtain ⟨ao,nn,c,rfl⟩:=hk.slice
     have HR : Hid (cntT (.mk k s num ks) (deep + 1) 0 = none):=by simp [Hid,cntT]
     have dz : (((deep : Int) + 1) == 0) = false:=by rw [beq_eq_false_iff_ne]; omega
     go_enter Tryz.func51,Tryz.ntmps51
     go_wp2
     go_ret
     exact OutC.of HR ⟨(But.refl _ _ _).alloc (Nat.le_refl _) _,rfl⟩
   · obtain ⟨l,rfl⟩ : ∃ l,left = l + 1:=⟨left - 1,by omega⟩
     have HR0 : Hid (cntT (.mk k s num ks) (deep + 1) (l + 1) = cntL ks deep l):=by simp [Hid,cntT]
     have dz : ((deep : Int) + 1 == 0) = false:=by rw [beq_eq_false_iff_ne]; omega
     have lz : ((l : Int) + 1 == 0) = false:=by rw [beq_eq_false_iff_ne]; omega
     clear h0
     have hk':=hk
     simp only [KT] at hk'
     obtain ⟨sls,hrow,hkl⟩:=hk'
     obtain ⟨ao,nn,c,rfl⟩:=hk.slice
     have hnn : nn = ks.length ∧ (0 < ks.length → ∃ g o,ao = some ⟨g,o,none⟩ ∧ S g ∧ ∀ (j : Nat) u,(cellsOf ks sls)[j]? = some u → w.cell? ⟨g,o + j,none⟩ = some u):=by
      rcases hrow with ⟨e0,a,c',e⟩ | ⟨g,o,cap,e,_,hg,hc⟩
      · cases e; exact ⟨e0.symm,fun h => by omega⟩
      · cases e; exact ⟨rfl,fun _ => ⟨g,o,rfl,hg,hc⟩⟩
     obtain ⟨rfl,hrows⟩:=hnn
     have HW:=Lib.hid hrows
     have HK:=Lib.hid hkl
     clear hrows hkl hrow
     have hL1:=heap_setCell_same w L 0 (.int .i64 l) hL
     obtain ⟨W1,hW1⟩ : ∃ W1,(w.setCell ⟨L,0,none⟩ (.int .i64 l)).alloc (.cells #[.int .i64 k,.string ⟨s.toArray⟩,.int .i64 num,.slice ao ks.length c] 24) = W1:=⟨_,rfl⟩
     have hB1 : But L w.heap.size w W1:=hW1 ▸ ((But.refl L w.heap.size w).setCell (p:=⟨L,0,none⟩) (.inl rfl) _).alloc (by simp) _
     have hL2 : W1.heap[L]? = some (.cells #[.int .i64 l] 3 (0,0)):=by rw [← hW1,Below.heap_alloc _ _ _ (by simp; omega),hL1]; rfl
     have kc3 : W1.cell? ⟨w.heap.size,3,none⟩ = some (.slice ao ks.length c):=by rw [← hW1]; have:=World.cell?_alloc_new (w.setCell ⟨L,0,none⟩ (.int .i64 l)) #[.int .i64 k,.string ⟨s.toArray⟩,.int .i64 num,.slice ao ks.length c] 24 3; rw [World.size_setCell] at this; rw [this]; rfl
     rw [show (((deep + 1 : Nat)) : Int) = (deep : Int) + 1 by omega]
     go_enter Tryz.func51,Tryz.ntmps51
     go_wp2_with fail
     go_loopw [25] (fun v wr => ∃ (q l2 : Nat),q ≤ ks.length ∧ v = .int .i64 q ∧ But L w.heap.size w wr ∧ wr.heap[L]? = some (.cells #[.int .i64 l2] 3 (0,0)) ∧ q + l2 ≤ 20000 ∧ Hid (cntT (.mk k s num ks) (deep + 1) (l + 1) = cntL (ks.drop q) deep l2)) (fun v _ => ks.length - (intOf v).toNat)
     case atStart => exact ⟨0,l,Nat.zero_le _,rfl,hB1,hL2,by omega,HR0.out⟩
     case round =>
      obtain ⟨q,l2,hq,rfl,hb,hL3,hl2,HQ⟩:=hrel
      clear hW1 hB1 hL2 hL1 kc3
      have hz:=hb.size
      by_cases hlt : q < ks.length
      · obtain ⟨g,o,rfl,hg,hc⟩:=HW.out (by omega)
        obtain ⟨t,ht⟩ : ∃ t,ks[q]? = some t:=⟨_,List.getElem?_eq_getElem hlt⟩
        obtain ⟨sl,hs⟩ : ∃ sl,sls[q]? = some sl:=⟨_,List.getElem?_eq_getElem (by rw [HK.out.length]; exact hlt)⟩
        have hkt:=HK.out.get ht hs
        obtain ⟨a3,n3,c3,rfl⟩:=hkt.slice
        obtain ⟨q0,q1,q2,q3⟩:=cellsOf_get ht hs
        have r : ∀ o,wr.cell? ⟨g,o,none⟩ = w.cell? ⟨g,o,none⟩:=fun o => hb.cell (hS g hg).1 (hS g hg).2
        have x0 : wr.cell? ⟨g,o + q * 4,none⟩ = some (.int .i64 t.kind):=(r _).trans (hc _ _ q0)
        have x1 : wr.cell? ⟨g,o + q * 4 + 1,none⟩ = some (.string ⟨t.text.toArray⟩):=(r _).trans (hc _ _ q1)
        have x2 : wr.cell? ⟨g,o + q * 4 + 2,none⟩ = some (.int .i64 t.num):=(r _).trans (hc _ _ q2)
        have x3 : wr.cell? ⟨g,o + q * 4 + 3,none⟩ = some (.slice a3 n3 c3):=(r _).trans (hc _ _ q3)
        have hlb:=lt_of_block hL3
        have HD:=Lib.hid (drop_get ht)
        have hkt3 : KT (wr.alloc (.cells #[.int .i64 t.kind,.string ⟨t.text.toArray⟩,.int .i64 t.num,.slice a3 n3 c3] 24)) S t (.slice a3 n3 c3):=hkt.fr (fun b hb' => (Below.heap_alloc wr _ b (by have:=(hS b hb').1; omega)).trans (hb.block b (hS b hb').1 (hS b hb').2)) (fun _ h => h)
        obtain ⟨tk,ts,tn,tks⟩:=t
        have cC:=HI.out tk ts tn tks (.slice a3 n3 c3) S _ L l2 (by omega) (by omega) ((Below.heap_alloc wr (.cells #[.int .i64 tk,.string ⟨ts.toArray⟩,.int .i64 tn,.slice a3 n3 c3] 24) L hlb).trans hL3) (fun b hb' => ⟨by rw [World.size_alloc]; have:=(hS b hb').1; omega,(hS b hb').2⟩) hkt3
        clear ht hs q0 q1 q2 q3 r hc hkt hkt3
        go_wp2_with fail
        refine cC.mono ?_
        rintro e w2 ⟨hb2,hr2⟩
        have z2:=hb2.size
        rw [World.size_alloc] at z2
        have hb3 : But L w.heap.size w w2:=(hb.alloc hz _).trans (hb2.mono (by simp; omega))
        clear cC
        cases hp : cntT (.mk tk ts tn tks) deep l2 with
        | none =>
         rw [hp] at hr2
         have HX : Hid (cntT (.mk k s num ks) (deep + 1) (l + 1) = none):=HQ.out.trans (by rw [HD.out]; simp only [cntL,hp])
         cases hr2
         clear hp
         go_wp2
         go_ret
         exact OutC.of HX ⟨hb3,rfl⟩
        | some l3 =>
         rw [hp] at hr2
         obtain ⟨rfl,hL4⟩:=hr2
         have hlt3:=cntT_lt _ _ _ _ hp
         have HX : Hid (cntT (.mk k s num ks) (deep + 1) (l + 1) = cntL (ks.drop (q + 1)) deep l3):=HQ.out.trans (by rw [HD.out]; simp only [cntL,hp])
         clear hp
         go_wp2
         go_roundw
         case rel => exact ⟨q + 1,l3,by omega,by go_num,hb3,hL4,by omega,HX⟩
         case measure => simp [intOf]; omega
      · have HX : Hid (cntT (.mk k s num ks) (deep + 1) (l + 1) = some l2):=HQ.out.trans (by rw [List.drop_eq_nil_of_le (by omega)]; rfl)
        go_wp2
        go_ret
        exact OutC.of HX ⟨hb,rfl,hL3⟩
set_option maxRecDepth 20000 in
theorem small_any (t : Tr) (sl : Value) (S : Nat → Prop) (w : World) (hS : ∀ b,S b → b < w.heap.size) (hk : KT w S t sl) :
    Calls Tryz.prog 24 #[tv t sl] w fun e w' => e = .returned (.bool (smallT t)) ∧ Below w.heap.size w w':=by
  obtain ⟨ao,nn,c,rfl⟩:=hk.slice
  obtain ⟨k,s,num,ks⟩:=t
  have hk1 : KT ((w.alloc (.cells #[.int .i64 k,.string ⟨s.toArray⟩,.int .i64 num,.slice ao nn c] 24)).alloc (.cells #[.int .i64 20000] 3)) S (.mk k s num ks) (.slice ao nn c):=hk.fr (((Fr.refl _ _).alloc hS _).alloc (fun b hb => by have:=hS b hb; simp; omega) _) (fun _ h => h)
  have hL : ((w.alloc (.cells #[.int .i64 k,.string ⟨s.toArray⟩,.int .i64 num,.slice ao nn c] 24)).alloc (.cells #[.int .i64 20000] 3)).heap[w.heap.size + 1]? = some (.cells #[.int .i64 (20000 : Nat)] 3 (0,0)):=by
   have:=heap_alloc_new (w.alloc (.cells #[.int .i64 k,.string ⟨s.toArray⟩,.int .i64 num,.slice ao nn c] 24)) (.cells #[.int .i64 20000] 3)
   rw [World.size_alloc] at this; exact this
  have cC:=counted_any 100 k s num ks (.slice ao nn c) S _ (w.heap.size + 1) 20000 (Nat.le_refl _) (Nat.le_refl _) hL (fun b hb => ⟨by have:=hS b hb; simp; omega,by have:=hS b hb; omega⟩) hk1
  clear hL hk1
  change Calls Tryz.prog 24 #[.agg #[.int .i64 k,.string ⟨s.toArray⟩,.int .i64 num,.slice ao nn c]] w _
  go_enter Tryz.func24,Tryz.ntmps24
  go_wp2_with fail
  refine cC.mono ?_
  rintro e w2 ⟨hb2,hr2⟩
  have hB : Below w.heap.size w w2:=⟨hb2.os,hb2.tape,hb2.output,by have:=hb2.size; simp at this; omega,fun b hb => (hb2.block b (by simp; omega) (by omega)).trans ((Below.heap_alloc _ _ b (by simp; omega)).trans (Below.heap_alloc w _ b hb))⟩
  cases hp : cntT (.mk k s num ks) 100 20000 with
  | none =>
   rw [hp] at hr2
   cases hr2
   have HX : Hid (smallT (.mk k s num ks) = false):=by simp [Hid,smallT,hp]
   clear hp cC
   go_wp2
   go_ret
   exact ⟨by simp [HX.out],hB⟩
  | some l =>
   rw [hp] at hr2
   obtain ⟨rfl,_⟩:=hr2
   have HX : Hid (smallT (.mk k s num ks) = true):=by simp [Hid,smallT,hp]
   clear hp cC
   go_wp2
   go_ret
   exact ⟨by simp [HX.out],hB⟩
end Go.Proofs.YtffnaknidofobaaGreatDoor

namespace Go.Proofs.YtffnaknidofobaaGreatDoor
open Go.RowKit
theorem wpList_joinQ {W : World} {ops : Array Oper} {rest : List Oper} {o : Oper} {a : Act} {Q : Exit → Act → World → Prop} {Z : Nat → Prop} (hgd : o.guard = none) (s x : Operand)
    (ho : o.op = .call { callee:=.builtin .append,args:=#[s,x],argTypes:=#[22,22] }) {B C : Nat} {v1 v2 : Value} {ts us : List Tr} (hs : a.eval s = v1) (hx : a.eval x = v2)
    (h1 : OwnQ Z W B v1 ts) (h2 : OwnQ Z W C v2 us) (hZ : Z W.heap.size) (hBC : B ≤ C) (hC : C ≤ W.heap.size) (hv : ∀ k,v1.ownBlock = some k → k < C) (hlen : ts.length + us.length ≤ 1000000)
    (h : ∀ ao cap w',OwnQ Z w' B (.slice ao (ts.length + us.length) cap) (ts ++ us) → W.grownBy w' v1.ownBlock → wpList Tryz.prog ops Q rest (a.put o.dst (.slice ao (ts.length + us.length) cap)) w') : wpList Tryz.prog ops Q (o :: rest) a W:=by
  refine wpList_plain hgd fun _ hK => ?_
  obtain ⟨ao,cap,w',hr,hO,hg⟩:=run_joinQ o.type h1 h2 hZ hBC hC hv hlen
  unfold Oper.wp execOp
  simp only [ho,resolve,invoke,builtin,Sem.run_bind,Sem.run_pure,Result.andThen_ok,List.map_toArray,List.map_cons,List.map_nil,hs,hx,hr]
  exact hK _ _ (h ao cap w' hO hg)
/-- What a part leaves that works on what its caller has made. -/
def OutA (X : Px) (w0 : World) (i : Nat) (h : Bool) (r : Res Tr) (e : Ending) (w' : World) : Prop:=match r with
  | .ok t j => i < j ∧ St X w0 w' j h ∧ ∃ ao n c,e = .returned (tv t (.slice ao n c)) ∧ Tre w0 w' t (.slice ao n c)
  | .bad j => e = pan ∧ But X.P w0.heap.size w0 w' ∧ ∃ h',Par X w' j h'
theorem OutA.of {X : Px} {w : World} {i : Nat} {h : Bool} {r r' : Res Tr} {e : Ending} {w' : World} (hr : Hid (r = r')) (o : OutA X w i h r' e w') : OutA X w i h r e w':=by
 have:=hr.out; subst this; exact o
set_option maxRecDepth 20000 in
set_option maxHeartbeats 1600000 in
theorem assigned_any (X : Px) (n : Nat) (A : Good X n) (w0 w : World) (i : Nat) (h : Bool) (first : List Tr) (ao : Option Addr) (c : Nat) (kd : Int) (S0 : St X w0 w i h) (T : Own w0 w (.slice ao first.length c) first) (nx : i + 1 < X.l.length) (hlen : first.length ≤ 20001) (hn : 3 * (X.l.length - (i + 1)) + 1 ≤ n) :
    Calls Tryz.prog 210 #[X.p,.int .i64 kd,.slice ao first.length c] w (OutA X w0 i h (assignedR X.l (ps X.l n) h kd first i)):=by
  have lv:=OwnL.lt T
  have TQ : OwnQ (fun b => b ≠ w.heap.size) w (w0.heap.size + 1) (.slice ao first.length c) first:=OwnQ.of T (fun b _ hb => Nat.ne_of_lt hb)
  have l0:=S0.lt
  have p0:=S0.plt
  obtain ⟨W1,hW1,S1⟩:=St.first S0.par
  have S0a : St X w0 W1 i h:=hW1 ▸ S0.alloc _
  have TQ1 : OwnQ (fun b => b ≠ w.heap.size) W1 (w0.heap.size + 1) (.slice ao first.length c) first:=hW1 ▸ TQ.later (by simp) (fun b _ h2 => Below.heap_alloc w _ b h2)
  have zW1 : W1.heap.size = w.heap.size + 1:=by rw [← hW1]; simp
  have c1:=S1.par.c1
  have f1:=S1.par.fz 1
  have bn:=S1.par.bnd
  have S2:=S1.next nx
  have S0b:=S0a.next nx
  have TQ2 : OwnQ (fun b => b ≠ w.heap.size) (W1.setCell ⟨X.P,1,none⟩ (.int .i64 ((i : Int) + 1))) (w0.heap.size + 1) (.slice ao first.length c) first:=TQ1.later (by simp) (fun b h1 _ => Below.heap_setCell _ _ _ _ (by simp only; omega))
  have zW2 : (W1.setCell ⟨X.P,1,none⟩ (.int .i64 ((i : Int) + 1))).heap.size = w.heap.size + 1:=by rw [World.size_setCell,zW1]
  go_enter Tryz.func210,Tryz.ntmps210
  go_wp2_with fail
  clear c1 f1
  generalize W1.setCell ⟨X.P,1,none⟩ (.int .i64 ((i : Int) + 1)) = W2 at *
  refine (expressions_any X n A W2 (i + 1) h S2.par hn).mono ?_
  rintro e w3 ⟨⟨hb3,hr3⟩,_⟩
  have z3:=hb3.size
  cases hp : exprsR X.l (ps X.l n) h (i + 1) with
  | bad j =>
   rw [hp] at hr3
   obtain ⟨rfl,h3,H3⟩:=hr3
   have HR : Hid (assignedR X.l (ps X.l n) h kd first i = .bad j):=by simp [Hid,assignedR,Res.bind,hp]
   exact ⟨rfl,OutA.of HR ⟨rfl,S0b.but.trans (hb3.mono (by omega)),h3,H3⟩⟩
  | ok l j =>
   rw [hp] at hr3
   obtain ⟨ij,H3,v3,rfl,hk3⟩:=hr3
   obtain ⟨ao3,c3,rfl⟩:=hk3.slice
   have HR : Hid (assignedR X.l (ps X.l n) h kd first i = .ok (.mk kd [] first.length (first ++ l)) j):=by simp [Hid,assignedR,Res.bind,hp]
   have S3:=S2.call hb3 H3
   have S0c:=S0b.call hb3 H3
   have TQ3:=TQ2.later hb3.size (fun b h1 h2 => hb3.block b h2 (by omega))
   have hk3q : OwnQ (fun b => b ≠ w.heap.size) w3 W2.heap.size (.slice ao3 l.length c3) l:=OwnQ.of hk3 (fun b hb _ => by omega)
   have bd3:=H3.bnd
   clear hp
   go_wp2_with (at_builtin; refine wpList_joinQ (by rfl) _ _ (by rfl) (by rfl) (by rfl) TQ3 hk3q (by omega) (by omega) (by omega) (fun q hq => by have:=(lv q hq).2; omega) (by omega) ?_)
   intro ao5 c5 w5 hO5 hg5
   have S0d:=S0c.grown hg5 (fun q hq => (lv q hq).1)
   have z5:=hg5.size
   have bx5 : Box w5 w.heap.size:=S3.box.of_block (hg5.block _ (by omega) (fun e => by have:=(lv _ e.symm).2; omega))
   clear hk3q TQ3 hk3
   go_wp2_with fail
   refine (node_any kd [] _ _ _ _).mono ?_
   rintro e w6 ⟨rfl,hb6⟩
   have z6:=hb6.size
   have S0e:=S0d.below hb6
   have bx6:=bx5.below hb6 (by omega)
   have hO6:=hO5.later hb6.size (fun b _ h2 => hb6.block b h2)
   obtain ⟨u0,u1,u2,u3,b0,b1,b2,b3,bf⟩:=bx6.open
   have bf0:=bf 0
   have bf1:=bf 1
   have bf2:=bf 2
   have bf3:=bf 3
   clear bf
   have nlt : w.heap.size < w6.heap.size:=bx6.lt
   have nne : w.heap.size ≠ w6.heap.size:=by omega
   have nne2 : w6.heap.size ≠ w.heap.size:=by omega
   go_wp2
   obtain ⟨Wf,hWf,hput,_,d0,d1,d2,d3⟩:=putN4 bx6 (.int .i64 kd) (.string ⟨([] : List UInt8).toArray⟩) (.int .i64 (first.length : Int)) (.slice ao5 (first.length + l.length) c5)
   rw [hWf]
   have hlz : w.heap.size < Wf.heap.size:=by rw [hput.size]; exact nlt
   have hT : Tre w0 Wf (.mk kd [] (first.length : Int) (first ++ l)) (.slice ao5 (first.length + l.length) c5):=OwnL.kt (hO6.put hput) kd [] (first.length : Int)
   exact bodyPost_ret (v:=.agg #[.int .i64 kd,.string ⟨([] : List UInt8).toArray⟩,.int .i64 (first.length : Int),.slice ao5 (first.length + l.length) c5]) (by simp [results,Tryz.results210,go_sem,d0,d1,d2,d3,hlz]) rfl
     (OutA.of HR ⟨by omega,(S0e.put hput (by omega)).alloc _,_,_,_,rfl,hT.alloc _⟩)
end Go.Proofs.YtffnaknidofobaaGreatDoor
