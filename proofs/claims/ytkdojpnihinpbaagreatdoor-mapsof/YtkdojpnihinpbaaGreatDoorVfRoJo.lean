/- Lists of numbers of one's own that grow; the document's all, kinded, targets. -/
import Derived.Test.YtkdojpnihinpbaaGreatDoorVfRrJo
import Derived.Test.YtkdojpnihinpbaaGreatDoorVfCnJo
import Derived.Test.YtkdojpnihinpbaaGreatDoorVfTkJo
namespace Go.Proofs.YtkdojpnihinpbaaGreatDoor
open Go.RowKit
def Bd (l:List Int):Prop:=∀ x∈l,-9223372036854775808≤x∧x≤9223372036854775807
def OwI (C:Nat) (W:World) (v:Value) (l:List Int):Prop:=W.ownsRow C 3 1 v l.length (ivs l)∧Bd l
section
variable {C B:Nat} {W X:World} {v u:Value} {l m:List Int}
theorem OwI.form (h:OwI C W v l):∃ a c,v=.slice a l.length c:=row_form h.1
theorem OwI.up (h:OwI C W v l) (hb:Below W.heap.size W X):OwI C X v l:=⟨ownsRow_keep h.1 (fun g hg=>hb.block g (own_ge h.1 g hg).2),h.2⟩
theorem OwI.new {g:Nat} (h:W.heap[g]?=some (.cells #[] 3 (0,0))):OwI g W (.slice (some ⟨g,0,none⟩) 0 0) []:=⟨owns_emp h,fun x hx=>by cases hx⟩
theorem ivs_app (l m:List Int):ivs (l++m)=ivs l++ivs m:=by simp [ivs]
theorem ivs_len (l:List Int):(ivs l).length=l.length:=by simp [ivs]
theorem ivs_one (l:List Int):∀ x∈ivs l,x.oneCell' = true:=by
 intro x hx
 obtain ⟨y,_,rfl⟩:=List.mem_map.1 hx
 rfl
theorem OwI.app (h:OwI C W v l) (R:SlAt 1 IntP B W u m) (hl:l.length+m.length≤400000000) (hC:C≤W.heap.size) :
    ∃ a8 c8 W8,(Builtin.append_ #[37,37] 37 #[v,u]).run Tryz.prog W=.ok (.slice a8 (l++m).length c8) W8∧OwI C W8 (.slice a8 (l++m).length c8) (l++m)∧Below C W W8:=by
  obtain ⟨i0,hi0,hz0,hz1,hz2⟩:=info_parts info_intD
  have hbd:Bd (l++m):=fun x hx=>by
   rw [List.mem_append] at hx
   rcases hx with hx | hx
   · exact h.2 x hx
   · obtain ⟨j,hj⟩:=List.getElem?_of_mem hx
     obtain ⟨_,_,_,_,_,_,h3⟩:=il_at R hj
     exact h3
  cases m with
  | nil =>
   obtain ⟨a,c,rfl⟩:=h.form
   obtain ⟨ao,cap,rfl,_,_⟩:=R
   rw [List.append_nil]
   cases ao with
   | none=>exact ⟨a,c,W,run_nil_cap Tryz.underlying37 hi0 h.1 cap,h,Below.refl _ _⟩
   | some ad =>
    obtain ⟨v',w',hr,ho,hgr,_,hat⟩:=run_append_own_at (P:=Tryz.prog) W C 37 37 3 i0 _ 1 8 Tryz.underlying37 hi0 hz0 hz1 hz2 rfl (by decide) _ l.length (ivs l) h.1 ad 0 cap [] (by simp) (fun j u h=>by simp at h) (fun u h=>by cases h) (by unfold maxLen;simp at hl;omega) (by simp at hl;omega) hC
    rw [Nat.add_zero,List.append_nil] at ho
    obtain ⟨a',c',rfl⟩:=row_form ho
    exact ⟨a',c',w',hr,⟨ho,h.2⟩,⟨hgr.os,hgr.tape,hgr.output,hgr.size,fun j hj=>hgr.block j (by omega) (fun e=>by have:=(own_ge h.1 j e.symm).1;omega)⟩⟩
  | cons x r =>
   obtain ⟨g,o,c,hu,hg,hc0,_,_⟩:=il_at R (j:=0) (x:=x) rfl
   subst hu
   obtain ⟨v',w',hr,ho,hgr,_,hat⟩:=run_append_own_at (P:=Tryz.prog) W C 37 37 3 i0 _ 1 8 Tryz.underlying37 hi0 hz0 hz1 hz2 rfl (by decide) v l.length (ivs l) h.1 ⟨g,o,none⟩ (x :: r).length c (ivs (x :: r)) (by rw [ivs_len,Nat.mul_one]) (fun j u hj=>by
    cases hy:(x :: r)[j]? with
    | none =>
     simp only [ivs,List.getElem?_map,hy] at hj
     cases hj
    | some y =>
     simp only [ivs,List.getElem?_map,hy] at hj
     cases hj
     obtain ⟨g',o',c',hv',_,hc',_⟩:=il_at R hy
     cases hv'
     have ha:(⟨g,o,none⟩ : Addr).add j=⟨g,o+j,none⟩:=by simp [Addr.add]
     rw [ha]
     exact hc') (ivs_one _) (by unfold maxLen;omega) (by omega) hC
   rw [← List.length_append,← ivs_app] at ho
   obtain ⟨a',c',rfl⟩:=row_form ho
   exact ⟨a',c',w',hr,⟨ho,hbd⟩,⟨hgr.os,hgr.tape,hgr.output,hgr.size,fun j hj=>hgr.block j (by omega) (fun e=>by have:=(own_ge h.1 j e.symm).1;omega)⟩⟩
theorem OwI.put (h:OwI C W v l) (m:List Int) (hm:Bd m) (hl:l.length+m.length≤400000000) (hml:m.length≤10000) (hC:C≤W.heap.size) :
    ∃ a8 c8 W8,(Builtin.append_ #[37,37] 37 #[v,.slice (some ⟨W.heap.size,0,none⟩) m.length m.length]).run Tryz.prog (W.alloc (.cells (ivs m).toArray 3))=.ok (.slice a8 (l++m).length c8) W8∧OwI C W8 (.slice a8 (l++m).length c8) (l++m)∧Below C W W8:=by
  have hb:Below W.heap.size W (W.alloc (.cells (ivs m).toArray 3)):=(Below.refl _ _).alloc (Nat.le_refl _) _
  obtain ⟨a8,c8,W8,r1,r2,r3⟩:=(h.up hb).app (ints_block (heap_new W (.cells (ivs m).toArray 3) rfl) hm (by omega)) hl (by have:=hb.size;omega)
  exact ⟨a8,c8,W8,r1,r2,(hb.mono hC).trans r3⟩
theorem sl_take {k:Nat} {α:Type} {P:World→List Value→α→Prop} {l:List α} {a:Option Addr} {c:Nat} (R:SlAt k P B W (.slice a l.length c) l) {n:Nat} (hn:n≤l.length):SlAt k P B W (.slice a n c) (l.take n):=by
 obtain ⟨ao,cap,hv,⟨h1,h2,h3⟩,hel⟩:=R
 cases hv
 refine ⟨a,c,by rw [List.length_take,Nat.min_eq_left hn],by rw [List.length_take,Nat.min_eq_left hn];exact ⟨by omega,by omega,h3⟩,fun j x hx=>?_⟩
 rw [List.getElem?_take] at hx
 split at hx
 · exact hel j x hx
 · cases hx
end
def RaR (s t:List Int) (w:World) (i:Value) (wr:World):Prop:=∃ j:Nat,i=.int .i64 j∧j≤t.length∧(∀ k,k<j→fitB ((s[s.length - t.length+k]?).getD 0) ((t[k]?).getD 0)=true)∧Below w.heap.size w wr
theorem fine_fit {s t:List Int} (hl:t.length≤s.length):(Must.fit t).fine (s.drop (s.length - t.length))=true ↔ ∀ k,k<t.length→fitB ((s[s.length - t.length+k]?).getD 0) ((t[k]?).getD 0)=true:=by
 unfold Must.fine
 rw [List.all_eq_true,List.length_drop,show s.length - (s.length - t.length)=t.length by omega]
 constructor
 · intro h k hk
   have:=h k (List.mem_range.2 hk)
   simp only [Must.at,List.getElem?_drop] at this
   exact this
 · intro h k hk
   rw [List.mem_range] at hk
   simp only [Must.at,List.getElem?_drop]
   exact h k hk
section
variable {B1 B2:Nat} {w:World} {va vb:Value} {s t:List Int}
set_option maxRecDepth 100000 in
set_option maxHeartbeats 1000000 in
theorem rall_any (R1:SlAt 1 IntP B1 w va s) (R2:SlAt 1 IntP B2 w vb t) (h1:B1≤w.heap.size) (h2:B2≤w.heap.size) (hl:t.length≤s.length) (hs:s.length≤400000000) (hk:∀ x∈s,-1≤x∧x≤2000000):Calls Tryz.prog 45 #[va,vb] w fun e w'=>e=.returned (.bool ((Must.fit t).fine (s.drop (s.length - t.length))))∧Below w.heap.size w w':=by
 obtain ⟨aa,da,hva⟩:=sl_form R1
 obtain ⟨ab,db,hvb⟩:=sl_form R2
 subst hva hvb
 have HR1:=hide (show ∀ W:World,Below w.heap.size w W→SlAt 1 IntP B1 W (.slice aa s.length da) s from fun W h=>ints_keep (Nat.le_refl _) (fun j hj=>h.block j (by omega)) R1)
 have HR2:=hide (show ∀ W:World,Below w.heap.size w W→SlAt 1 IntP B2 W (.slice ab t.length db) t from fun W h=>ints_keep (Nat.le_refl _) (fun j hj=>h.block j (by omega)) R2)
 have HK:=hide hk
 have HFI:=hide (fine_fit hl)
 clear R1 R2 hk
 obtain ⟨L,hL⟩ : ∃ L,s.length=L:=⟨_,rfl⟩
 obtain ⟨M,hM⟩ : ∃ M,t.length=M:=⟨_,rfl⟩
 rw [hL] at HR1 hl hs
 rw [hM] at HR2 hl
 rw [hL,hM]
 rw [hL,hM] at HFI
 have HL:=hide hL
 have HM:=hide hM
 clear hL hM
 generalize (Must.fit t).fine (s.drop (L - M))=fi at *
 have hw1:IntKind.i64.wrap ((L:Int) - (M:Int))=((L - M:Nat):Int):=by
  rw [show (L:Int) - (M:Int)=((L - M:Nat):Int) by omega]
  exact wrap_nat (by omega)
 go_enter Tryz.func45,Tryz.ntmps45
 go_wp2_with fail
 go_loopw [5] (fun i wr=>RaR s t w i wr) (fun i _=>M - (intOf i).toNat)
 case atStart=>exact ⟨0,rfl,Nat.zero_le _,fun k hk=>by omega,Below.refl _ _⟩
 case round =>
  obtain ⟨j,rfl,hj,hall,hb⟩:=hrel
  have HBR:=hide hb
  have HAL:=hide hall
  rw [HM.out] at hj
  clear hb hall
  by_cases hlt:j<M
  · obtain ⟨x,hx⟩ : ∃ x,s[L - M+j]?=some x:=⟨s[L - M+j]'(by rw [HL.out];omega),by simp⟩
    obtain ⟨y,hy⟩ : ∃ y,t[j]?=some y:=⟨t[j]'(by rw [HM.out];exact hlt),by simp⟩
    obtain ⟨g,o,c,hv,hg,hc,_,_⟩:=il_at (by have:=HR1.out wr HBR.out;rw [← HL.out] at this;exact this) hx
    cases hv
    obtain ⟨g',o',c',hv',hg',hc',_,_⟩:=il_at (by have:=HR2.out wr HBR.out;rw [← HM.out] at this;exact this) hy
    cases hv'
    have hgw:g<wr.heap.size:=Nat.lt_of_lt_of_le hg (Nat.le_trans h1 HBR.out.size)
    have hgw' : g' < wr.heap.size:=Nat.lt_of_lt_of_le hg' (Nat.le_trans h2 HBR.out.size)
    have dd1:decide (j<M)=true:=by simpa using hlt
    have dd3:(j:Int)≤9223372036854775807:=by omega
    have hw2:IntKind.i64.wrap (((L - M:Nat):Int)+(j:Int))=((L - M+j:Nat):Int):=by
     rw [show ((L - M:Nat):Int)+(j:Int)=((L - M+j:Nat):Int) by omega]
     exact wrap_nat (by omega)
    have hlt2:L - M+j<L:=by omega
    have HFT:=hide (rfits_any wr.drew (k:=x) (o:=y) (HK.out x (List.mem_of_getElem? hx)))
    have HX:=hide hx
    have HY:=hide hy
    clear hx hy
    obtain ⟨q,hq0⟩ : ∃ q,L - M+j=q:=⟨_,rfl⟩
    have HLQ:=hide hq0
    rw [hq0] at hc hw2 hlt2 HX
    clear hq0
    obtain ⟨lm,hlm⟩ : ∃ x,L - M=x:=⟨_,rfl⟩
    rw [hlm] at hw1 hw2
    clear hlm
    have dd4:decide (q<L)=true:=by simpa using hlt2
    go_upto_region 4 with (fail)
    refine wp_region_held_drew (S:=(fun W:World=>W=wr.drew∧W.cell? ⟨g,o+q,none⟩=some (.int .i64 x)∧W.cell? ⟨g',o' + j,none⟩=some (.int .i64 y))) (by kernel_rfl) ⟨rfl,hc,hc'⟩ (fun hHeld1=>?_)
    refine tk 0 ?_;simp only [sp]
    refine tk 1 ?_;simp only [sp]
    refine tk 2 ?_;simp only [sp]
    refine tk 3 ?_;simp only [sp]
    refine tk 4 ?_;simp only [sp]
    refine tk 5 ?_;simp only [sp]
    refine tk 6 ?_;simp only [sp]
    refine tk 7 ?_;simp only [sp]
    refine tk 8 ?_;simp only [sp]
    refine tk 9 ?_;simp only [sp]
    refine tk 10 ?_;simp only [sp]
    refine tk 11 ?_;simp only [sp]
    refine tk 12 ?_;simp only [sp]
    refine tk 13 ?_;simp only [sp]
    refine rd 14 (fun K hK=>?_)
    go_simp
    go_at_call 44
    refine HFT.out.mono ?_
    rintro e w3 ⟨rfl,hw3⟩
    subst hw3
    go_wp2_with fail
    refine hK.out _ _ ⟨rfl,hc,hc'⟩ (fun hHeld16=>?_)
    clear hK K
    try simp only [sp]
    refine tk 15 ?_;simp only [sp]
    refine wpAnyH_done (by kernel_rfl) ?_ _
    cases hq:fitB x y with
    | true =>
     have HN:=hide (show ∀ k,k<j+1→fitB ((s[s.length - t.length+k]?).getD 0) ((t[k]?).getD 0)=true from fun k hk=>by
      rcases Nat.lt_or_ge k j with h | h
      · exact HAL.out k h
      · obtain rfl:k=j:=by omega
        rw [HY.out,HL.out,HM.out,HLQ.out,HX.out]
        exact hq)
     clear HFT
     go_wp2
     go_roundw
     case rel=>exact ⟨j+1,by first | exact num_next hlt (by omega) | go_num,by rw [HM.out];exact hlt,HN.out,below_drew HBR.out⟩
     case measure=>first | exact meas_int hlt (by omega) | (rw [intOf_int,intOf_int];omega)
    | false =>
     have HN:=hide (show fi=false from by
      cases hfi:fi with
      | false=>rfl
      | true =>
       have:=(HFI.out.1 hfi) j hlt
       rw [HY.out,HLQ.out,HX.out] at this
       rw [show fitB ((some x).getD 0) ((some y).getD 0)=fitB x y from rfl,hq] at this
       cases this)
     clear HFT
     go_wp2
     go_ret
     exact ⟨by rw [HN.out];rfl,below_drew HBR.out⟩
  · obtain rfl:M=j:=by omega
    have dd1:decide (M<M)=false:=by simp
    have HE:=hide (show fi=true from HFI.out.2 (fun k hk=>by have:=HAL.out k hk;rw [HL.out,HM.out] at this;exact this))
    go_wp2
    go_ret
    exact ⟨by rw [HE.out];rfl,HBR.out⟩
end
section
variable {w:World}
theorem rkt_any (a:Option Addr) (n c:Nat):Calls Tryz.prog 54 #[.bool true,.slice a n c] w fun e w'=>e=.returned (.tuple #[.slice a n c,.int .i64 0])∧w' = w:=by
 go_enter Tryz.func54,Tryz.ntmps54
 go_wp2
 go_ret2
 exact ⟨rfl,rfl⟩
theorem rkf_any (a:Option Addr) (n c:Nat):Calls Tryz.prog 54 #[.bool false,.slice a n c] w fun e w'=>e=.returned (.tuple #[.slice none 0 0,.int .i64 8])∧w' = w:=by
 go_enter Tryz.func54,Tryz.ntmps54
 go_wp2
 go_ret2
 exact ⟨rfl,rfl⟩
end
end Go.Proofs.YtkdojpnihinpbaaGreatDoor
