/- The document's Check, and VerifyChecks: the law. -/
import Derived.Test.YtfkejdocklcpoaaDoorVfLbJs
import Derived.Test.YtfkejdocklcpoaaDoorVfRwJs
import Derived.Test.YtfkejdocklcpoaaDoorCdGsJs
import Derived.Test.YtfkejdocklcpoaaDoorVfAwJs
namespace Go.Proofs.YtfkejdocklcpoaaDoor
open Go.RowKit
def FnR (p:Pg) (W:World) (a:Value) (wr:World):Prop:=∃ j:Nat,a=.int .i64 j∧j≤p.fu.length∧funcsP p 0 p.fu=funcsP p j (p.fu.drop j)∧Below W.heap.size W wr
section
variable {B:Nat} {w:World} {p:Pg}
set_option maxRecDepth 100000 in
set_option maxHeartbeats 2000000 in
theorem rcheck_any {v1 v2 v3 v4:Value} (P:PgAt B w v1 v2 v3 v4 p) (hB:B≤w.heap.size):Calls Tryd.prog 9 #[.agg #[v1,v2,v3,v4]] w (CkO p w):=by
 obtain ⟨a1,d1,hv1⟩:=sl_form P.ty
 obtain ⟨a2,d2,hv2⟩:=sl_form P.fu
 obtain ⟨a3,d3,hv3⟩:=sl_form P.ta
 obtain ⟨a4,d4,hv4⟩:=sl_form P.st
 subst hv1 hv2 hv3 hv4
 obtain ⟨W1,hW1⟩ : ∃ W1,w.alloc (.cells #[.slice a1 p.ty.length d1,.slice a2 p.fu.length d2,.slice a3 p.ta.length d3,.slice a4 p.st.length d4] 27)=W1:=⟨_,rfl⟩
 have b1:Below w.heap.size w W1:=by rw [← hW1];exact (Below.refl _ _).alloc (Nat.le_refl _) _
 have e1:W1.heap[w.heap.size]?=some (.cells #[.slice a1 p.ty.length d1,.slice a2 p.fu.length d2,.slice a3 p.ta.length d3,.slice a4 p.st.length d4] 27 (0,0)):=by rw [← hW1];exact heap_new _ _ rfl
 have HBX:=hide (show ∀ W:World,Below W1.heap.size W1 W→(W.cell? ⟨w.heap.size,0,none⟩=some (.slice a1 p.ty.length d1)∧W.cell? ⟨w.heap.size,1,none⟩=some (.slice a2 p.fu.length d2)∧W.cell? ⟨w.heap.size,2,none⟩=some (.slice a3 p.ta.length d3)∧W.cell? ⟨w.heap.size,3,none⟩=some (.slice a4 p.st.length d4))∧w.heap.size<W.heap.size from fun W h=>by
  have h1:=(h.block _ (lt_of_block e1)).trans e1
  exact ⟨⟨cell_of h1 rfl,cell_of h1 rfl,cell_of h1 rfl,cell_of h1 rfl⟩,lt_of_block h1⟩)
 have HB1:=hide (show ∀ W:World,Below W1.heap.size W1 W→Below w.heap.size w W from fun W h=>b1.trans (h.mono b1.size))
 have HKP:=hide (show ∀ W:World,Below W1.heap.size W1 W→PgAt B W (.slice a1 p.ty.length d1) (.slice a2 p.fu.length d2) (.slice a3 p.ta.length d3) (.slice a4 p.st.length d4) p∧B≤W.heap.size from fun W h=>⟨P.keep (Nat.le_refl _) fun i hi=>((HB1.out W h).block i (Nat.lt_of_lt_of_le hi hB)),Nat.le_trans hB (HB1.out W h).size⟩)
 obtain ⟨⟨k0,k1,k2,k3⟩,k4⟩:=HBX.out W1 (Below.refl _ _)
 have HSO:=hide (gsound_any (HKP.out W1 (Below.refl _ _)).1 (HKP.out W1 (Below.refl _ _)).2)
 clear P hB b1 e1
 obtain ⟨sb,hsb⟩ : ∃ b,sndP p=b:=⟨_,rfl⟩
 rw [hsb] at HSO
 have HSB:=hide hsb
 clear hsb
 go_enter Tryd.func9,Tryd.ntmps9
 go_wp2_with fail
 refine HSO.out.mono ?_
 rintro e w2 ⟨rfl,hb2⟩
 have HB2:=hide hb2
 clear hb2 HSO k0 k1 k2 k3 k4 hW1
 cases sb with
 | false =>
  have HF:=hide (show checkP p=(0,0,2) from by unfold checkP;rw [if_pos HSB.out])
  go_wp2_with fail
  go_ret3
  exact ⟨by rw [HF.out];first | done | rfl,HB1.out _ HB2.out⟩
 | true =>
  obtain ⟨⟨k0,k1,k2,k3⟩,k4⟩:=HBX.out w2 HB2.out
  obtain ⟨⟨l1,l2,l3,l4⟩,t1,t2,t3,t4⟩:=(sndP_iff p).mp HSB.out
  have HHD:=hide (rheads_any (HKP.out w2 HB2.out).1 (HKP.out w2 HB2.out).2 (fun f hf=>by
   obtain ⟨⟨h1,h2,h3,h4,h5,h6⟩,_⟩:=(sndF_iff f).mp (List.all_eq_true.mp t2 f hf)
   exact ⟨h2,h3,h1,h4,h5⟩) (fun t ht=>by have:=List.all_eq_true.mp t3 t ht;simpa [sndL] using this) l1 l2 l3)
  have HN2:=hide l2
  clear l1 l2 l3 l4 t1 t2 t3 t4
  obtain ⟨hp,hhp⟩ : ∃ h,headsP p=h:=⟨_,rfl⟩
  unfold RhO at HHD
  rw [hhp] at HHD
  have HHP:=hide hhp
  clear hhp
  cases hp with
  | some i =>
   have HF:=hide (show checkP p=((i:Int),0,12) from by unfold checkP;rw [if_neg (by rw [HSB.out];simp),HHP.out])
   go_wp2_with fail
   refine HHD.out.mono ?_
   rintro e w3 ⟨rfl,hb3⟩
   have HB3:=hide (bel_tr HB2.out hb3)
   clear hb3 HHD k0 k1 k2 k3 k4
   go_wp2_with fail
   go_ret3
   exact ⟨by rw [HF.out];first | done | rfl,HB1.out _ HB3.out⟩
  | none =>
   have HF:=hide (show checkP p=funcsP p 0 p.fu from by unfold checkP;rw [if_neg (by rw [HSB.out];simp),HHP.out])
   have HOK:=hide (hok_of HSB.out HHP.out)
   go_wp2_with fail
   refine HHD.out.mono ?_
   rintro e w3 ⟨rfl,hb3⟩
   have HB3:=hide (bel_tr HB2.out hb3)
   clear hb3 HHD k0 k1 k2 k3 k4
   obtain ⟨nf,hnf⟩ : ∃ n,p.fu.length=n:=⟨_,rfl⟩
   rw [hnf] at HBX HKP
   have HNF:=hide hnf
   have hn4:nf≤4096:=by rw [← hnf];exact HN2.out
   clear hnf
   go_wp2
   go_loopw [7] (fun a wr=>FnR p W1 a wr) (fun a _=>nf - (intOf a).toNat)
   case atStart=>exact ⟨0,rfl,Nat.zero_le _,rfl,HB3.out⟩
   case round =>
    obtain ⟨j,rfl,hj,hfn,hb⟩:=hrel
    have HFN:=hide hfn
    have HBR:=hide hb
    rw [HNF.out] at hj
    clear hfn hb
    obtain ⟨⟨k0,k1,k2,k3⟩,k4⟩:=HBX.out wr HBR.out
    by_cases hlt:j<nf
    · obtain ⟨f,hf⟩ : ∃ f,p.fu[j]?=some f:=⟨p.fu[j]'(by rw [HNF.out];exact hlt),by simp⟩
      have HLK:=hide (rlook_any (by have h:=(HKP.out wr HBR.out).1;rw [← HNF.out] at h;exact h) (HKP.out wr HBR.out).2 HOK.out hf)
      have HDR:=hide (show p.fu.drop j=f :: p.fu.drop (j+1) from by rw [List.drop_eq_getElem_cons (by rw [HNF.out];exact hlt)];congr 1;exact (List.getElem?_eq_some_iff.mp hf).2)
      rw [HNF.out] at HLK
      have d1:decide (j<nf)=true:=by simpa using hlt
      have dj:(j:Int)≤4096:=by omega
      clear hf
      go_wp2_with fail
      refine HLK.out.mono ?_
      rintro e w4 ⟨hb4,(⟨x,c,cb,sb,L,m,hfo,rfl⟩ | ⟨F,cb,sb,hfo,rfl,_⟩)⟩
      · have HB4:=hide (bel_tr HBR.out hb4)
        have hc0:(c != 0)=true:=by simpa using run_err hfo
        have HE:=hide (show checkP p=((j:Int),(x:Int),c) from by
         rw [HF.out,HFN.out,HDR.out]
         unfold funcsP
         rw [hfo])
        have HAL:=hide (show ∀ o,Below w.heap.size w (w4.alloc o) from fun o=>(HB1.out w4 (bel_tr HBR.out hb4)).alloc (HB1.out w4 (bel_tr HBR.out hb4)).size o)
        clear hb4 hfo HLK k0 k1 k2 k3 k4
        go_wp2_with fail
        go_ret3
        exact ⟨by rw [HE.out];first | done | rfl,HAL.out _⟩
      · have HB4:=hide (bel_tr HBR.out hb4)
        have HN:=hide (show funcsP p 0 p.fu=funcsP p (j+1) (p.fu.drop (j+1)) from by
         rw [HFN.out,HDR.out]
         conv=>lhs;unfold funcsP
         rw [hfo])
        have HAL:=hide (show ∀ o,Below W1.heap.size W1 (w4.alloc o) from fun o=>(bel_tr HBR.out hb4).alloc (bel_tr HBR.out hb4).size o)
        clear hb4 hfo HLK k0 k1 k2 k3 k4
        go_wp2
        go_roundw
        case rel=>exact ⟨j+1,by first | exact num_next hlt (by omega) | go_num,by rw [HNF.out];exact hlt,HN.out,HAL.out _⟩
        case measure=>first | exact meas_int hlt (by omega) | (rw [intOf_int,intOf_int];omega)
    · obtain rfl:nf=j:=by omega
      have d1:decide (nf<nf)=false:=by simp
      have HE:=hide (show checkP p=(0,0,0) from by rw [HF.out,HFN.out,← HNF.out,List.drop_length];rfl)
      go_wp2
      go_ret3
      exact ⟨by rw [HE.out];first | done | rfl,HB1.out _ HBR.out⟩
end
end Go.Proofs.YtfkejdocklcpoaaDoor
