/- The document's reader: stmt. -/
import Derived.Test.YtnkphlkjhgngkaaGreatDoorRdKJt
import Derived.Deep.CutRange
namespace Go.Proofs.YtnkphlkjhgngkaaGreatDoor
open Go.RowKit
attribute [local go_sem ↓] Go.wp_at_zero Go.wp_at_succ
theorem own2_ne {w W : World} {m : Nat} {t1 t2 : Tr} {s1 s2 : Value} (hB : w.heap.size + 1 ≤ W.heap.size) (h1 : KT W (fun b => (w.heap.size + 1 ≤ b ∧ b < W.heap.size) ∧ b ≠ m) t1 s1) (h2 : KT W (fun b => (w.heap.size + 1 ≤ b ∧ b < W.heap.size) ∧ b ≠ m) t2 s2) (hm : m ≠ W.heap.size) :
    OwnQ (fun b => b ≠ m) (W.alloc (.cells #[.int .i64 t1.kind,.string ⟨t1.text.toArray⟩,.int .i64 t1.num,s1,.int .i64 t2.kind,.string ⟨t2.text.toArray⟩,.int .i64 t2.num,s2] 24)) (w.heap.size + 1) (.slice (some ⟨W.heap.size,0,none⟩) 2 2) [t1,t2]:=by
  have hk : KL W (fun b => (w.heap.size + 1 ≤ b ∧ b < W.heap.size) ∧ b ≠ m) [t1,t2] [s1,s2]:=by simp only [KL]; exact ⟨s1,[s2],rfl,h1,s2,[],rfl,h2,rfl⟩
  refine ⟨[s1,s2],⟨rfl,.inr ⟨W.heap.size,2,_,rfl,hB,heap_alloc_new W _,Nat.le_refl _,by unfold maxLen; omega,rfl,rfl⟩⟩,hk.fr (fun b hb => Below.heap_alloc W _ b hb.1.2) (fun b hb => ⟨⟨⟨hb.1.1,by simp; omega⟩,by simp [Value.ownBlock]; omega⟩,hb.2⟩),fun k hk => ?_⟩
  simp [Value.ownBlock] at hk
  omega
theorem NBox.put4 {X : Px} {w W : World} {m : Nat} {k num : Int} {x : List UInt8} {V v0 v1 v2 v3 : Value} {ts : List Tr} (hB : Box W m) (hlt : w.heap.size < m) (hO : OwnQ (fun b => b ≠ m) W (w.heap.size + 1) V ts) (e0 : v0 = .int .i64 k) (e1 : v1 = .string ⟨x.toArray⟩) (e2 : v2 = .int .i64 num) (e3 : v3 = V) :
    NBox X w ((((W.setCell ⟨m,0,none⟩ v0).setCell ⟨m,1,none⟩ v1).setCell ⟨m,2,none⟩ v2).setCell ⟨m,3,none⟩ v3) m k x num V ts:=by
  subst e0 e1 e2 e3
  obtain ⟨c0,c1,c2,c3,e⟩:=hB
  refine ⟨?_,hlt,hO.putQ ((((Put.refl m W).setCell 0 _).setCell 1 _).setCell 2 _ |>.setCell 3 _)⟩
  rw [heap_setCell_same _ m 3 _ (heap_setCell_same _ m 2 _ (heap_setCell_same _ m 1 _ (heap_setCell_same _ m 0 _ e)))]; rfl
theorem vs_if (l : List Tk) (n : Nat) : (vs l (n + 1)).ifS = ifV l (vs l n):=rfl
theorem isV_not {l : List Tk} {s : Sg} {a b : List UInt8} (h : isV l s a = true) (hab : a ≠ b) : isV l s b = false:=by
 have:=now_of h
 simp only [isV,this]
 simpa using hab
theorem else_stm {l : List Tk} {p : Vs} {s : Sg} (h : isV l s [105,102] = true ∨ isV l s [123] = true) : elseV l p s = stmV l p s:=by
 rcases h with h | h
 · simp [elseV,stmV,h,isV_not h (b:=[123]) (by decide)]
 · simp [elseV,stmV,h,isV_not h (b:=[105,102]) (by decide)]
set_option maxRecDepth 20000 in
set_option maxHeartbeats 4000000 in
theorem rstmt_any (X : Px) (n : Nat) (A : GoodR X (n + 1)) (A0 : GoodR X n) (B0 : StmR X n) (w : World) (s : Sg) (H : Rdr X w s false) (hn : mS X.toks.length s + 2 ≤ n + 1) :
    Calls Tryz.prog 77 #[X.p] w (OutR X w false (stmV X.l (vs X.l (n + 1)) s)):=by
  obtain ⟨W0,hW0,S0⟩:=Sd.first H
  go_enter Tryz.func77,Tryz.ntmps77
  cases hm1 : isV X.l s [123] with
  | true =>
   have hx1:=now_of hm1
   have hl1:=isV_at (by decide) hm1 S0.rdr.le
   have X1:=Lib.hid hx1
   have E1:=Lib.hid hm1
   clear hm1 hx1
   go_wp2_with fail
   refine (nowX_any X W0 s false S0.rdr [123] X1.out).mono ?_
   rintro e w2 ⟨rfl,hd2⟩
   have hb2 : But X.P W0.heap.size W0 w2:=But.of_below hd2
   have H2:=S0.rdr.below hd2 (Nat.le_refl _)
   clear hd2
   have S2:=S0.call hb2 H2
   have c3:=A.blk w2 s false S2.rdr (by omega)
   have u3:=((upV X.l (n + 1)).blk s).up
   rcases hs3 : (vs X.l (n + 1)).blk s with ⟨t3,s3⟩
   rw [hs3] at c3 u3
   have q3:=u3.mS (n:=X.toks.length)
   have a3:=u3.at_
   have E3:=Lib.hid hs3
   clear hs3
   go_wp2_with fail
   refine c3.mono ?_
   rintro e w3 ⟨hb3,H3,sl3,rfl,hk3⟩
   obtain ⟨ao3,n3,p3,rfl⟩:=hk3.slice
   have Tt3:=Tre.newD S2 hk3
   clear c3 hk3
   have S3:=S2.call hb3 H3
   have HR : Hid (stmV X.l (vs X.l (n + 1)) s = (t3,s3)):=Lib.hid (by simp [stmV,E1.out,E3.out])
   obtain ⟨y0,y1,y2,y3,b0,b1,b2,b3,bf⟩:=S3.box.open
   have bf0:=bf 0
   have bf1:=bf 1
   have bf2:=bf 2
   have bf3:=bf 3
   clear bf
   go_wp2
   obtain ⟨Wf,hWf,hput,_,d0,d1,d2,d3⟩:=putN4 S3.box (.int .i64 t3.kind) (.string ⟨t3.text.toArray⟩) (.int .i64 t3.num) (.slice ao3 n3 p3)
   rw [hWf]
   exact bodyPost_ret (v:=.agg #[.int .i64 t3.kind,.string ⟨t3.text.toArray⟩,.int .i64 t3.num,.slice ao3 n3 p3]) (by simp [results,Tryz.results77,go_sem,d0,d1,d2,d3]) rfl (OutR.of HR (S3.done Tt3 hput))
  | false =>
   have E1:=Lib.hid hm1
   clear hm1
   cases hm4 : isV X.l s [105,102] with
   | true =>
    have hx4:=now_of hm4
    have hl4:=isV_at (by decide) hm4 S0.rdr.le
    have X4:=Lib.hid hx4
    have E4:=Lib.hid hm4
    clear hm4 hx4
    go_wp2_with fail
    refine (nowX_any X W0 s false S0.rdr [105,102] X4.out).mono ?_
    rintro e w5 ⟨rfl,hd5⟩
    have hb5 : But X.P W0.heap.size W0 w5:=But.of_below hd5
    have H5:=S0.rdr.below hd5 (Nat.le_refl _)
    clear hd5
    have S5:=S0.call hb5 H5
    have cA6:=S5.rdr.c1
    have fA6:=S5.rdr.fz 1
    have bA6:=S5.rdr.bnd
    have H6:=S5.rdr.step hl4.2
    have hb6:=but_set w5 X.P w5.heap.size 1 (.int .i64 ((s.1 : Int) + 1))
    obtain ⟨s6,hs6⟩ : ∃ z,stepV s = z:=⟨_,rfl⟩
    rw [hs6] at H6
    have u6 : Up s s6:=hs6 ▸ (su_step s).up
    have q6 : mS X.toks.length s6 + 3 ≤ mS X.toks.length s:=hs6 ▸ mS_step hl4.1 hl4.2
    have a6 : s.1 + 1 = s6.1:=hs6 ▸ rfl
    have a6a:=Nat.le_of_eq a6
    have a6b:=Nat.le_of_eq a6.symm
    clear a6
    have E6:=Lib.hid hs6
    clear hs6
    have S6:=S5.call hb6 H6
    have c7:=rcond_any X n A0 (w5.setCell ⟨X.P,1,none⟩ (.int .i64 ((s.1 : Int) + 1))) s6 false S6.rdr (by omega)
    have u7:=up_expr (upV X.l n) true s6
    rcases hs7 : exprV (vs X.l n) true s6 with ⟨t7,s7⟩
    rw [hs7] at c7 u7
    have q7:=u7.mS (n:=X.toks.length)
    have a7:=u7.at_
    have E7:=Lib.hid hs7
    clear hs7
    go_wp2_with fail
    refine c7.mono ?_
    rintro e w7 ⟨hb7,H7,sl7,rfl,hk7⟩
    obtain ⟨ao7,n7,p7,rfl⟩:=hk7.slice
    have Tt7:=Tre.newD S6 hk7
    clear c7 hk7
    have S7:=S6.call hb7 H7
    have Dc_8:=Held.newD S7 Tt7
    have hb9:=but_alloc w7 X.P (.cells #[.int .i64 t7.kind,.string ⟨t7.text.toArray⟩,.int .i64 t7.num,.slice ao7 n7 p7] 24)
    have H9:=S7.rdr.alloc (.cells #[.int .i64 t7.kind,.string ⟨t7.text.toArray⟩,.int .i64 t7.num,.slice ao7 n7 p7] 24)
    have S9:=S7.call hb9 H9
    go_upto_region 7 with fail
    generalize hW9 : (w7.alloc (.cells #[.int .i64 t7.kind,.string ⟨t7.text.toArray⟩,.int .i64 t7.num,.slice ao7 n7 p7] 24)) = w9 at *
    clear hW9
    have cB:=A0.blk w9.drew s7 false S9.drew.rdr (by omega)
    have cC:=A0.blk (w9.drew.alloc (.cells #[.int .i64 0,.string ⟨#[]⟩,.int .i64 0,.slice none 0 0] 24)) s7 false (S9.drew.alloc (.cells #[.int .i64 0,.string ⟨#[]⟩,.int .i64 0,.slice none 0 0] 24)).rdr (by omega)
    have u10:=((upV X.l n).blk s7).up
    rcases hs10 : (vs X.l n).blk s7 with ⟨t10,s10⟩
    rw [hs10] at cB cC u10
    have q10:=u10.mS (n:=X.toks.length)
    have a10:=u10.at_
    have E10:=Lib.hid hs10
    clear hs10
    have sb10:=S9.lt
    have pl10:=S9.plt
    have dz10:=Dc_8.ltz
    have dm10 : w9.drew.heap.size = w9.heap.size:=rfl
    have dn10 : w7.heap.size ≠ w9.heap.size:=Nat.ne_of_lt dz10
    have do10 : w9.heap.size ≠ w7.heap.size:=fun e => dn10 e.symm
    go_cut [4] from 24 to 28 (fun v4 wc => ∃ mN gN : Nat,v4 = .pointer (some ⟨mN,0,none⟩) ∧ NBox X w wc mN 25 [] 0 (.slice (some ⟨gN,0,none⟩) 2 2) [t7,t10] ∧ Sd X w wc s10 false)
    case first =>
     obtain ⟨zq100,zq101,zq102,zq103,zq10f⟩:=Dc_8.cells
     have zq10g0:=zq10f 0
     have zq10g1:=zq10f 1
     have zq10g2:=zq10f 2
     have zq10g3:=zq10f 3
     clear zq10f
     go_region_law (first
       | (go_simp; go_at_call 44
          first
            | (refine cC.mono ?_; rintro e w10 ⟨hb10,H10,sl10,rfl,hk10⟩; obtain ⟨ao10,n10,p10,rfl⟩:=hk10.slice
               have sz10:=hb10.size
               rw [World.size_alloc] at sz10
               have S10a:=(S9.drew.alloc (.cells #[.int .i64 0,.string ⟨#[]⟩,.int .i64 0,.slice none 0 0] 24)).call hb10 H10
               have D10a:=(Dc_8.drew.alloc (.cells #[.int .i64 0,.string ⟨#[]⟩,.int .i64 0,.slice none 0 0] 24)).mv (S9.drew.alloc (.cells #[.int .i64 0,.string ⟨#[]⟩,.int .i64 0,.slice none 0 0] 24)) hb10
               have bxA : Box w10 w9.heap.size:=(Box.new w9.drew (.int .i64 0) (.string ⟨#[]⟩) (.int .i64 0) (.slice none 0 0)).later hb10 (by simp) (by omega)
               have TA : KT w10 (fun b => (w.heap.size + 1 ≤ b ∧ b < w10.heap.size) ∧ b ≠ w9.heap.size) t7 (.slice ao7 n7 p7):=KT.fr (Dc_8.drew).tre (fun b hb => (hb10.block b (by have:=hb.1.2; rw [World.size_alloc]; omega) (by have:=hb.1.1; omega)).trans (Below.heap_alloc _ _ b hb.1.2)) (fun b hb => ⟨⟨hb.1.1,by have:=hb.1.2; omega⟩,by have:=hb.1.2; omega⟩)
               have TB : KT w10 (fun b => (w.heap.size + 1 ≤ b ∧ b < w10.heap.size) ∧ b ≠ w9.heap.size) t10 (.slice ao10 n10 p10):=hk10.fr (Fr.refl _ _) (fun b hb => by rw [World.size_alloc] at hb; exact ⟨⟨by omega,hb.2⟩,by omega⟩)
               obtain ⟨y100,y101,y102,y103,_⟩:=D10a.cells)
            | (refine cB.mono ?_; rintro e w10 ⟨hb10,H10,sl10,rfl,hk10⟩; obtain ⟨ao10,n10,p10,rfl⟩:=hk10.slice
               have sz10:=hb10.size
               have S10a:=S9.drew.call hb10 H10
               have D10a:=Dc_8.drew.mv S9.drew hb10
               have T10a:=Tre.newD S9.drew hk10
               have dz10k:=D10a.ltz
               have de10 : w7.heap.size ≠ w10.heap.size:=Nat.ne_of_lt dz10k
               have df10 : w10.heap.size ≠ w7.heap.size:=fun e => de10 e.symm
               obtain ⟨y100,y101,y102,y103,_⟩:=D10a.cells))
       | (go_simp; go_at_call 23; refine (rnode_any 25 [] _ _ _ _).mono ?_; rintro e wE ⟨rfl,hdE⟩
          first
            | (have QE : OwnQ (fun b => b ≠ w9.heap.size) wE (w.heap.size + 1) (.slice (some ⟨w10.heap.size,0,none⟩) 2 2) [t7,t10]:=(own2_ne (w:=w) (W:=w10) (by omega) TA TB (by omega)).later hdE.size (fun b _ h2 => hdE.block b h2)
               have BE : Box wE w9.heap.size:=(bxA.of_block (Below.heap_alloc w10 _ _ bxA.lt)).below hdE (by simp; have:=bxA.lt; omega)
               have SE:=(S10a.alloc _).below hdE
               have lmE : w.heap.size < w9.heap.size:=by omega
               obtain ⟨eE0,eE1,eE2,eE3,fE0,fE1,fE2,fE3,gE⟩:=BE.open
               have gE0:=gE 0
               have gE1:=gE 1
               have gE2:=gE 2
               have gE3:=gE 3
               clear gE)
            | (have QE : OwnQ (fun b => b ≠ w10.heap.size) wE (w.heap.size + 1) (.slice (some ⟨w10.heap.size + 1,0,none⟩) 2 2) [t7,t10]:=by
                 have h0:=(own2_ne (w:=w) (W:=w10.alloc (.cells #[.int .i64 0,.string ⟨#[]⟩,.int .i64 0,.slice none 0 0] 24)) (m:=w10.heap.size) (by simp; omega) (KT.fr D10a.out (fun b hb => Below.heap_alloc w10 _ b hb.2) (fun b hb => ⟨⟨hb.1,by have:=hb.2; simp; omega⟩,Nat.ne_of_lt hb.2⟩)) (KT.fr T10a (fun b hb => Below.heap_alloc w10 _ b hb.2) (fun b hb => ⟨⟨hb.1,by have:=hb.2; simp; omega⟩,Nat.ne_of_lt hb.2⟩)) (by simp)).later hdE.size (fun b _ h2 => hdE.block b h2)
                 rw [World.size_alloc] at h0; exact h0
               have BE : Box wE w10.heap.size:=((Box.new w10 (.int .i64 0) (.string ⟨#[]⟩) (.int .i64 0) (.slice none 0 0)).of_block (Below.heap_alloc (w10.alloc (.cells #[.int .i64 0,.string ⟨#[]⟩,.int .i64 0,.slice none 0 0] 24)) _ _ (by simp))).below hdE (by simp <;> omega)
               have SE:=((S10a.alloc (.cells #[.int .i64 0,.string ⟨#[]⟩,.int .i64 0,.slice none 0 0] 24)).alloc _).below hdE
               have lmE : w.heap.size < w10.heap.size:=by omega
               obtain ⟨eE0,eE1,eE2,eE3,fE0,fE1,fE2,fE3,gE⟩:=BE.open
               have gE0:=gE 0
               have gE1:=gE 1
               have gE2:=gE 2
               have gE3:=gE 3
               clear gE)
            | (have QE : OwnQ (fun b => b ≠ w10.heap.size + 1) wE (w.heap.size + 1) (.slice (some ⟨w10.heap.size,0,none⟩) 2 2) [t7,t10]:=by
                 have h0:=((OwnQ.of (Q:=fun b => b ≠ w10.heap.size + 1) (Own.one2 S10a D10a.out T10a) (fun b _ hb => by rw [World.size_alloc] at hb; omega)).later (w':=(w10.alloc (.cells #[.int .i64 t7.kind,.string ⟨t7.text.toArray⟩,.int .i64 t7.num,.slice ao7 n7 p7,.int .i64 t10.kind,.string ⟨t10.text.toArray⟩,.int .i64 t10.num,.slice ao10 n10 p10] 24)).alloc (.cells #[.int .i64 0,.string ⟨#[]⟩,.int .i64 0,.slice none 0 0] 24)) (by simp) (fun b _ h2 => Below.heap_alloc _ _ b h2)).later hdE.size (fun b _ h2 => hdE.block b h2)
                 exact h0
               have BE : Box wE (w10.heap.size + 1):=by
                have h0:=(Box.new (w10.alloc (.cells #[.int .i64 t7.kind,.string ⟨t7.text.toArray⟩,.int .i64 t7.num,.slice ao7 n7 p7,.int .i64 t10.kind,.string ⟨t10.text.toArray⟩,.int .i64 t10.num,.slice ao10 n10 p10] 24)) (.int .i64 0) (.string ⟨#[]⟩) (.int .i64 0) (.slice none 0 0)).below hdE (by simp)
                rw [World.size_alloc] at h0; exact h0
               have SE:=((S10a.alloc (.cells #[.int .i64 t7.kind,.string ⟨t7.text.toArray⟩,.int .i64 t7.num,.slice ao7 n7 p7,.int .i64 t10.kind,.string ⟨t10.text.toArray⟩,.int .i64 t10.num,.slice ao10 n10 p10] 24)).alloc (.cells #[.int .i64 0,.string ⟨#[]⟩,.int .i64 0,.slice none 0 0] 24)).below hdE
               have lmE : w.heap.size < w10.heap.size + 1:=by omega
               obtain ⟨eE0,eE1,eE2,eE3,fE0,fE1,fE2,fE3,gE⟩:=BE.open
               have gE0:=gE 0
               have gE1:=gE 1
               have gE2:=gE 2
               have gE3:=gE 3
               clear gE)
            | (have LE:=(Own.one2 S10a D10a.out T10a).below hdE
               have SE:=(S10a.alloc _).below hdE)))
     all_goals
      go_wp2_with fail
      go_meet
      first
        | exact ⟨_,_,rfl,NBox.put4 (X:=X) BE lmE QE rfl rfl rfl rfl,SE.put ((((Put.refl _ wE).setCell 0 _).setCell 1 _).setCell 2 _ |>.setCell 3 _) lmE⟩
        | exact ⟨_,_,rfl,NBox.new (X:=X) LE SE.lt,SE.alloc _⟩
    case rest =>
    obtain ⟨mN,gN,rfl,NN,SN⟩:=hcut
    clear cB cC
    cases hm11 : isV X.l s10 [101,108,115,101] with
    | true =>
     have hl11:=isV_at (by decide) hm11 SN.rdr.le
     have c11:=rtake_yes X wc s10 false SN.rdr [101,108,115,101] (by decide) hm11
     obtain ⟨s11,hs11⟩ : ∃ z,stepV s10 = z:=⟨_,rfl⟩
     rw [hs11] at c11
     have u11 : Up s10 s11:=hs11 ▸ (su_step s10).up
     have q11 : mS X.toks.length s11 + 3 ≤ mS X.toks.length s10:=hs11 ▸ mS_step hl11.1 hl11.2
     have a11 : s10.1 + 1 = s11.1:=hs11 ▸ rfl
     have a11a:=Nat.le_of_eq a11
     have a11b:=Nat.le_of_eq a11.symm
     clear a11
     have E11 : Hid (takeV X.l [101,108,115,101] s10 = (true,s11)):=Lib.hid (by simp [takeV,hm11,hs11])
     clear hm11 hs11 hl11
     go_wp2_with fail
     refine c11.mono ?_
     rintro e w11 ⟨rfl,hb11,H11⟩
     clear c11
     have S11:=SN.call hb11 H11
     have Nn_11:=NN.mv SN hb11
     cases hm12 : isV X.l s11 [105,102] with
     | true =>
      have hx12:=now_of hm12
      have hl12:=isV_at (by decide) hm12 S11.rdr.le
      have X12:=Lib.hid hx12
      have E12:=Lib.hid hm12
      clear hm12 hx12
      go_wp2_with fail
      refine (nowX_any X w11 s11 false S11.rdr [105,102] X12.out).mono ?_
      rintro e w13 ⟨rfl,hd13⟩
      have hb13 : But X.P w11.heap.size w11 w13:=But.of_below hd13
      have H13:=S11.rdr.below hd13 (Nat.le_refl _)
      clear hd13
      have S13:=S11.call hb13 H13
      have Nn_13:=Nn_11.mv S11 hb13
      have cB:=B0 w13.drew s11 S13.drew.rdr (by omega)
      have u14:=(su_stm (l:=X.l) (upV X.l n) s11).up
      rcases hs14 : stmV X.l (vs X.l n) s11 with ⟨t14,s14⟩
      rw [hs14] at cB u14
      have q14:=u14.mS (n:=X.toks.length)
      have a14:=u14.at_
      have E14:=Lib.hid hs14
      clear hs14
      have sb14:=S13.lt
      obtain ⟨zq140,zq141,zq142,zq143,zq14f⟩:=Nn_13.cells
      have zq14g0:=zq14f 0
      have zq14g1:=zq14f 1
      have zq14g2:=zq14f 2
      have zq14g3:=zq14f 3
      clear zq14f
      go_wp2_with fail
      clear zq140 zq141 zq142 zq143 zq14g0 zq14g1 zq14g2 zq14g3
      generalize (Value.slice (some ⟨gN,0,none⟩) 2 2) = V14 at *
      have lo14:=OwnL.lt Nn_13.own.own
      obtain ⟨zr140,zr141,zr142,zr143,zr14f⟩:=Nn_13.cells
      have zr14g0:=zr14f 0
      have zr14g1:=zr14f 1
      have zr14g2:=zr14f 2
      have zr14g3:=zr14f 3
      clear zr14f
      have ln14 : ([t7,t10] : List Tr).length ≤ 500000:=by simp
      go_region_law (first
        | (go_simp; go_at_call 77; refine cB.mono ?_; rintro e w14 ⟨hb14,H14,sl14,rfl,hk14⟩; obtain ⟨ao14,n14,p14,rfl⟩:=hk14.slice
           have S14a:=S13.drew.call hb14 H14
           have N14a:=Nn_13.drew.mv S13.drew hb14
           have lz14:=hb14.size
           have ld14 : (w13).drew.heap.size = (w13).heap.size:=rfl
           have bd14:=H14.bnd
           have lm14:=Nn_13.ltz
           have hO14:=OwnQ.of (Q:=fun b => b ≠ mN) (OwnL.one (B:=(w13).heap.size) lz14 hk14 (Nat.le_refl _) (Nat.le_refl _)) (fun b hb _ => by omega)
           have N14b:=N14a.alloc (.cells #[.int .i64 t14.kind,.string ⟨t14.text.toArray⟩,.int .i64 t14.num,.slice ao14 n14 p14] 24)
           have S14b:=S14a.alloc (.cells #[.int .i64 t14.kind,.string ⟨t14.text.toArray⟩,.int .i64 t14.num,.slice ao14 n14 p14] 24)
           obtain ⟨y140,y141,y142,y143,y14f⟩:=N14a.cells
           have y14g:=y14f 3
           have ym14:=N14a.ltz
           have yn14 : mN ≠ w14.heap.size:=Nat.ne_of_lt ym14
           have yo14 : w14.heap.size ≠ mN:=fun e => yn14 e.symm
           clear y14f)
        | (refine step_join (by rfl) _ _ (by rfl) (by rfl) (by rfl) N14b.own hO14 ?_ ?_ ?_ ?_ ?_ ?_
           · first | omega | (simp <;> omega)
           · omega
           · first | omega | (simp <;> omega)
           · exact fun q hq => (lo14 q hq).2
           · first | omega | (simp <;> omega)
           intro ao14c c14c w14c hO14c hg14c
           generalize hL14 : ([t7,t10] : List Tr).length + ([t14] : List Tr).length = L14 at *
           have S14c:=S14b.grown hg14c (fun q hq => (lo14 q hq).1)
           have B14c:=N14b.grown hg14c
           obtain ⟨x140,x141,x142,x143,x14f⟩:=cells_of_blk B14c
           have x14g:=x14f 3
           clear x14f))
      all_goals
       have S14d:=S14c.put ((Put.refl (mN) w14c).setCell 3 (.slice ao14c L14 c14c)) Nn_13.lt
       have N14d : NBox X w (w14c.setCell ⟨mN,3,none⟩ (.slice ao14c L14 c14c)) (mN) 25 [] 0 (.slice ao14c L14 c14c) ([t7,t10,t14]):=NBox.setKids (X:=X) B14c Nn_13.lt hO14c
       clear x140 x141 x142 x143 x14g
       generalize w14c.setCell ⟨mN,3,none⟩ (.slice ao14c L14 c14c) = w14d at *
       have EE : Hid (elseV X.l (vs X.l n) s11 = (t14,s14)):=Lib.hid ((else_stm (.inl E12.out)).trans E14.out)
       obtain ⟨zv150,zv151,zv152,zv153,zv15f⟩:=N14d.cells
       have zv15g0:=zv15f 0
       have zv15g1:=zv15f 1
       have zv15g2:=zv15f 2
       have zv15g3:=zv15f 3
       clear zv15f
       have Tt15:=N14d.tre
       have HR : Hid (stmV X.l (vs X.l (n + 1)) s = ((.mk 25 [] 0 [t7,t10,t14]),s14)):=Lib.hid (by simp [stmV,bindV,E1.out,E4.out,E6.out,E7.out,E10.out,E11.out,E12.out,EE.out,vs_if,ifV])
       obtain ⟨y0,y1,y2,y3,b0,b1,b2,b3,bf⟩:=S14d.box.open
       have bf0:=bf 0
       have bf1:=bf 1
       have bf2:=bf 2
       have bf3:=bf 3
       clear bf
       go_wp2
       obtain ⟨Wf,hWf,hput,_,d0,d1,d2,d3⟩:=putN4 S14d.box (.int .i64 25) (.string ⟨([] : List UInt8).toArray⟩) (.int .i64 0) (.slice ao14c L14 c14c)
       rw [hWf]
       exact bodyPost_ret (v:=.agg #[.int .i64 25,.string ⟨([] : List UInt8).toArray⟩,.int .i64 0,.slice ao14c L14 c14c]) (by simp [results,Tryz.results77,go_sem,d0,d1,d2,d3]) rfl (OutR.of HR (S14d.done Tt15 hput))
     | false =>
      have E12:=Lib.hid hm12
      clear hm12
      cases hm16 : isV X.l s11 [123] with
      | true =>
       have hx16:=now_of hm16
       have hl16:=isV_at (by decide) hm16 S11.rdr.le
       have X16:=Lib.hid hx16
       have E16:=Lib.hid hm16
       clear hm16 hx16
       go_wp2_with fail
       refine (nowX_any X w11 s11 false S11.rdr [123] X16.out).mono ?_
       rintro e w17 ⟨rfl,hd17⟩
       have hb17 : But X.P w11.heap.size w11 w17:=But.of_below hd17
       have H17:=S11.rdr.below hd17 (Nat.le_refl _)
       clear hd17
       have S17:=S11.call hb17 H17
       have Nn_17:=Nn_11.mv S11 hb17
       go_wp2_with fail
       refine (nowX_any X w17 s11 false S17.rdr [123] X16.out).mono ?_
       rintro e w18 ⟨rfl,hd18⟩
       have hb18 : But X.P w17.heap.size w17 w18:=But.of_below hd18
       have H18:=S17.rdr.below hd18 (Nat.le_refl _)
       clear hd18
       have S18:=S17.call hb18 H18
       have Nn_18:=Nn_17.mv S17 hb18
       have cB:=B0 w18.drew s11 S18.drew.rdr (by omega)
       have u19:=(su_stm (l:=X.l) (upV X.l n) s11).up
       rcases hs19 : stmV X.l (vs X.l n) s11 with ⟨t19,s19⟩
       rw [hs19] at cB u19
       have q19:=u19.mS (n:=X.toks.length)
       have a19:=u19.at_
       have E19:=Lib.hid hs19
       clear hs19
       have sb19:=S18.lt
       obtain ⟨zq190,zq191,zq192,zq193,zq19f⟩:=Nn_18.cells
       have zq19g0:=zq19f 0
       have zq19g1:=zq19f 1
       have zq19g2:=zq19f 2
       have zq19g3:=zq19f 3
       clear zq19f
       go_wp2_with fail
       clear zq190 zq191 zq192 zq193 zq19g0 zq19g1 zq19g2 zq19g3
       generalize (Value.slice (some ⟨gN,0,none⟩) 2 2) = V19 at *
       have lo19:=OwnL.lt Nn_18.own.own
       obtain ⟨zr190,zr191,zr192,zr193,zr19f⟩:=Nn_18.cells
       have zr19g0:=zr19f 0
       have zr19g1:=zr19f 1
       have zr19g2:=zr19f 2
       have zr19g3:=zr19f 3
       clear zr19f
       have ln19 : ([t7,t10] : List Tr).length ≤ 500000:=by simp
       go_region_law (first
         | (go_simp; go_at_call 77; refine cB.mono ?_; rintro e w19 ⟨hb19,H19,sl19,rfl,hk19⟩; obtain ⟨ao19,n19,p19,rfl⟩:=hk19.slice
            have S19a:=S18.drew.call hb19 H19
            have N19a:=Nn_18.drew.mv S18.drew hb19
            have lz19:=hb19.size
            have ld19 : (w18).drew.heap.size = (w18).heap.size:=rfl
            have bd19:=H19.bnd
            have lm19:=Nn_18.ltz
            have hO19:=OwnQ.of (Q:=fun b => b ≠ mN) (OwnL.one (B:=(w18).heap.size) lz19 hk19 (Nat.le_refl _) (Nat.le_refl _)) (fun b hb _ => by omega)
            have N19b:=N19a.alloc (.cells #[.int .i64 t19.kind,.string ⟨t19.text.toArray⟩,.int .i64 t19.num,.slice ao19 n19 p19] 24)
            have S19b:=S19a.alloc (.cells #[.int .i64 t19.kind,.string ⟨t19.text.toArray⟩,.int .i64 t19.num,.slice ao19 n19 p19] 24)
            obtain ⟨y190,y191,y192,y193,y19f⟩:=N19a.cells
            have y19g:=y19f 3
            have ym19:=N19a.ltz
            have yn19 : mN ≠ w19.heap.size:=Nat.ne_of_lt ym19
            have yo19 : w19.heap.size ≠ mN:=fun e => yn19 e.symm
            clear y19f)
         | (refine step_join (by rfl) _ _ (by rfl) (by rfl) (by rfl) N19b.own hO19 ?_ ?_ ?_ ?_ ?_ ?_
            · first | omega | (simp <;> omega)
            · omega
            · first | omega | (simp <;> omega)
            · exact fun q hq => (lo19 q hq).2
            · first | omega | (simp <;> omega)
            intro ao19c c19c w19c hO19c hg19c
            generalize hL19 : ([t7,t10] : List Tr).length + ([t19] : List Tr).length = L19 at *
            have S19c:=S19b.grown hg19c (fun q hq => (lo19 q hq).1)
            have B19c:=N19b.grown hg19c
            obtain ⟨x190,x191,x192,x193,x19f⟩:=cells_of_blk B19c
            have x19g:=x19f 3
            clear x19f))
       all_goals
        have S19d:=S19c.put ((Put.refl (mN) w19c).setCell 3 (.slice ao19c L19 c19c)) Nn_18.lt
        have N19d : NBox X w (w19c.setCell ⟨mN,3,none⟩ (.slice ao19c L19 c19c)) (mN) 25 [] 0 (.slice ao19c L19 c19c) ([t7,t10,t19]):=NBox.setKids (X:=X) B19c Nn_18.lt hO19c
        clear x190 x191 x192 x193 x19g
        generalize w19c.setCell ⟨mN,3,none⟩ (.slice ao19c L19 c19c) = w19d at *
        have EE : Hid (elseV X.l (vs X.l n) s11 = (t19,s19)):=Lib.hid ((else_stm (.inr E16.out)).trans E19.out)
        obtain ⟨zv200,zv201,zv202,zv203,zv20f⟩:=N19d.cells
        have zv20g0:=zv20f 0
        have zv20g1:=zv20f 1
        have zv20g2:=zv20f 2
        have zv20g3:=zv20f 3
        clear zv20f
        have Tt20:=N19d.tre
        have HR : Hid (stmV X.l (vs X.l (n + 1)) s = ((.mk 25 [] 0 [t7,t10,t19]),s19)):=Lib.hid (by simp [stmV,bindV,E1.out,E4.out,E6.out,E7.out,E10.out,E11.out,E12.out,E16.out,EE.out,vs_if,ifV])
        obtain ⟨y0,y1,y2,y3,b0,b1,b2,b3,bf⟩:=S19d.box.open
        have bf0:=bf 0
        have bf1:=bf 1
        have bf2:=bf 2
        have bf3:=bf 3
        clear bf
        go_wp2
        obtain ⟨Wf,hWf,hput,_,d0,d1,d2,d3⟩:=putN4 S19d.box (.int .i64 25) (.string ⟨([] : List UInt8).toArray⟩) (.int .i64 0) (.slice ao19c L19 c19c)
        rw [hWf]
        exact bodyPost_ret (v:=.agg #[.int .i64 25,.string ⟨([] : List UInt8).toArray⟩,.int .i64 0,.slice ao19c L19 c19c]) (by simp [results,Tryz.results77,go_sem,d0,d1,d2,d3]) rfl (OutR.of HR (S19d.done Tt20 hput))
      | false =>
       have E16:=Lib.hid hm16
       clear hm16
       obtain ⟨x21,hx21⟩ : ∃ z,nowV X.l s11 = z:=⟨_,rfl⟩
       have n21_0:=now_no (m:=[105,102]) hx21 E12.out
       have n21_1:=now_no (m:=[123]) hx21 E16.out
       have X21:=Lib.hid hx21
       clear hx21
       go_wp2_with fail
       refine (nowX_any X w11 s11 false S11.rdr x21 X21.out).mono ?_
       rintro e w22 ⟨rfl,hd22⟩
       have hb22 : But X.P w11.heap.size w11 w22:=But.of_below hd22
       have H22:=S11.rdr.below hd22 (Nat.le_refl _)
       clear hd22
       have S22:=S11.call hb22 H22
       have Nn_22:=Nn_11.mv S11 hb22
       go_wp2_with fail
       refine (nowX_any X w22 s11 false S22.rdr x21 X21.out).mono ?_
       rintro e w23 ⟨rfl,hd23⟩
       have hb23 : But X.P w22.heap.size w22 w23:=But.of_below hd23
       have H23:=S22.rdr.below hd23 (Nat.le_refl _)
       clear hd23
       have S23:=S22.call hb23 H23
       have Nn_23:=Nn_22.mv S22 hb23
       have cA24:=S23.rdr.c2
       have fA24:=S23.rdr.fz 2
       have H24:=S23.rdr.bad
       have hb24:=but_set w23 X.P w23.heap.size 2 (.bool true)
       have S24:=S23.call hb24 H24
       have Nn_24:=Nn_23.mv S23 hb24
       obtain ⟨zv250,zv251,zv252,zv253,zv25f⟩:=Nn_24.cells
       have zv25g0:=zv25f 0
       have zv25g1:=zv25f 1
       have zv25g2:=zv25f 2
       have zv25g3:=zv25f 3
       clear zv25f
       have Tt25:=Nn_24.tre
       have HR : Hid (stmV X.l (vs X.l (n + 1)) s = ((.mk 25 [] 0 [t7,t10]),(badV s11))):=Lib.hid (by simp [stmV,bindV,E1.out,E4.out,E6.out,E7.out,E10.out,E11.out,E12.out,E16.out,vs_if,ifV])
       obtain ⟨y0,y1,y2,y3,b0,b1,b2,b3,bf⟩:=S24.box.open
       have bf0:=bf 0
       have bf1:=bf 1
       have bf2:=bf 2
       have bf3:=bf 3
       clear bf
       go_wp2
       obtain ⟨Wf,hWf,hput,_,d0,d1,d2,d3⟩:=putN4 S24.box (.int .i64 25) (.string ⟨([] : List UInt8).toArray⟩) (.int .i64 0) (.slice (some ⟨gN,0,none⟩) 2 2)
       rw [hWf]
       exact bodyPost_ret (v:=.agg #[.int .i64 25,.string ⟨([] : List UInt8).toArray⟩,.int .i64 0,.slice (some ⟨gN,0,none⟩) 2 2]) (by simp [results,Tryz.results77,go_sem,d0,d1,d2,d3]) rfl (OutR.of HR (S24.done Tt25 hput))
    | false =>
     have c11:=rtake_no X wc s10 false SN.rdr [101,108,115,101] hm11
     have E11 : Hid (takeV X.l [101,108,115,101] s10 = (false,s10)):=Lib.hid (by simp [takeV,hm11])
     clear hm11
     go_wp2_with fail
     refine c11.mono ?_
     rintro e w11 ⟨rfl,hb11,H11⟩
     clear c11
     have S11:=SN.call hb11 H11
     have Nn_11:=NN.mv SN hb11
     obtain ⟨zv260,zv261,zv262,zv263,zv26f⟩:=Nn_11.cells
     have zv26g0:=zv26f 0
     have zv26g1:=zv26f 1
     have zv26g2:=zv26f 2
     have zv26g3:=zv26f 3
     clear zv26f
     have Tt26:=Nn_11.tre
     have HR : Hid (stmV X.l (vs X.l (n + 1)) s = ((.mk 25 [] 0 [t7,t10]),s10)):=Lib.hid (by simp [stmV,bindV,E1.out,E4.out,E6.out,E7.out,E10.out,E11.out,vs_if,ifV])
     obtain ⟨y0,y1,y2,y3,b0,b1,b2,b3,bf⟩:=S11.box.open
     have bf0:=bf 0
     have bf1:=bf 1
     have bf2:=bf 2
     have bf3:=bf 3
     clear bf
     go_wp2
     obtain ⟨Wf,hWf,hput,_,d0,d1,d2,d3⟩:=putN4 S11.box (.int .i64 25) (.string ⟨([] : List UInt8).toArray⟩) (.int .i64 0) (.slice (some ⟨gN,0,none⟩) 2 2)
     rw [hWf]
     exact bodyPost_ret (v:=.agg #[.int .i64 25,.string ⟨([] : List UInt8).toArray⟩,.int .i64 0,.slice (some ⟨gN,0,none⟩) 2 2]) (by simp [results,Tryz.results77,go_sem,d0,d1,d2,d3]) rfl (OutR.of HR (S11.done Tt26 hput))
   | false =>
    have E4:=Lib.hid hm4
    clear hm4
    cases hm27 : isV X.l s [102,111,114] with
    | true =>
     have hx27:=now_of hm27
     have hl27:=isV_at (by decide) hm27 S0.rdr.le
     have X27:=Lib.hid hx27
     have E27:=Lib.hid hm27
     clear hm27 hx27
     go_wp2_with fail
     refine (nowX_any X W0 s false S0.rdr [102,111,114] X27.out).mono ?_
     rintro e w28 ⟨rfl,hd28⟩
     have hb28 : But X.P W0.heap.size W0 w28:=But.of_below hd28
     have H28:=S0.rdr.below hd28 (Nat.le_refl _)
     clear hd28
     have S28:=S0.call hb28 H28
     have cA29:=S28.rdr.c1
     have fA29:=S28.rdr.fz 1
     have bA29:=S28.rdr.bnd
     have H29:=S28.rdr.step hl27.2
     have hb29:=but_set w28 X.P w28.heap.size 1 (.int .i64 ((s.1 : Int) + 1))
     obtain ⟨s29,hs29⟩ : ∃ z,stepV s = z:=⟨_,rfl⟩
     rw [hs29] at H29
     have u29 : Up s s29:=hs29 ▸ (su_step s).up
     have q29 : mS X.toks.length s29 + 3 ≤ mS X.toks.length s:=hs29 ▸ mS_step hl27.1 hl27.2
     have a29 : s.1 + 1 = s29.1:=hs29 ▸ rfl
     have a29a:=Nat.le_of_eq a29
     have a29b:=Nat.le_of_eq a29.symm
     clear a29
     have E29:=Lib.hid hs29
     clear hs29
     have S29:=S28.call hb29 H29
     cases hm30 : isV X.l s29 [123] with
     | true =>
      have hx30:=now_of hm30
      have hl30:=isV_at (by decide) hm30 S29.rdr.le
      have X30:=Lib.hid hx30
      have E30:=Lib.hid hm30
      clear hm30 hx30
      go_wp2_with fail
      refine (nowX_any X (w28.setCell ⟨X.P,1,none⟩ (.int .i64 ((s.1 : Int) + 1))) s29 false S29.rdr [123] X30.out).mono ?_
      rintro e w31 ⟨rfl,hd31⟩
      have hb31 : But X.P (w28.setCell ⟨X.P,1,none⟩ (.int .i64 ((s.1 : Int) + 1))).heap.size (w28.setCell ⟨X.P,1,none⟩ (.int .i64 ((s.1 : Int) + 1))) w31:=But.of_below hd31
      have H31:=S29.rdr.below hd31 (Nat.le_refl _)
      clear hd31
      have S31:=S29.call hb31 H31
      have c32:=A.blk w31 s29 false S31.rdr (by omega)
      have u32:=((upV X.l (n + 1)).blk s29).up
      rcases hs32 : (vs X.l (n + 1)).blk s29 with ⟨t32,s32⟩
      rw [hs32] at c32 u32
      have q32:=u32.mS (n:=X.toks.length)
      have a32:=u32.at_
      have E32:=Lib.hid hs32
      clear hs32
      go_wp2_with fail
      refine c32.mono ?_
      rintro e w32 ⟨hb32,H32,sl32,rfl,hk32⟩
      obtain ⟨ao32,n32,p32,rfl⟩:=hk32.slice
      have Tt32:=Tre.newD S31 hk32
      clear c32 hk32
      have S32:=S31.call hb32 H32
      have Tl33:=Own.one1 S32 Tt32
      have hb34:=but_alloc w32 X.P (.cells #[.int .i64 t32.kind,.string ⟨t32.text.toArray⟩,.int .i64 t32.num,.slice ao32 n32 p32] 24)
      have H34:=S32.rdr.alloc (.cells #[.int .i64 t32.kind,.string ⟨t32.text.toArray⟩,.int .i64 t32.num,.slice ao32 n32 p32] 24)
      have S34:=S32.call hb34 H34
      go_wp2_with fail
      refine (rnode_any 26 [] _ _ _ _).mono ?_
      rintro e w35 ⟨rfl,hd35⟩
      have hb35 : But X.P (w32.alloc (.cells #[.int .i64 t32.kind,.string ⟨t32.text.toArray⟩,.int .i64 t32.num,.slice ao32 n32 p32] 24)).heap.size (w32.alloc (.cells #[.int .i64 t32.kind,.string ⟨t32.text.toArray⟩,.int .i64 t32.num,.slice ao32 n32 p32] 24)) w35:=But.of_below hd35
      have H35:=S34.rdr.below hd35 (Nat.le_refl _)
      clear hd35
      have S35:=S34.call hb35 H35
      have Tl33_35:=Tl33.mv S34 hb35
      have Tt35:=Tl33_35.tre 26 [] 0
      have HR : Hid (stmV X.l (vs X.l (n + 1)) s = ((.mk 26 [] 0 [t32]),s32)):=Lib.hid (by simp [stmV,bindV,E1.out,E4.out,E27.out,E29.out,E30.out,E32.out,forV])
      obtain ⟨y0,y1,y2,y3,b0,b1,b2,b3,bf⟩:=S35.box.open
      have bf0:=bf 0
      have bf1:=bf 1
      have bf2:=bf 2
      have bf3:=bf 3
      clear bf
      go_wp2
      obtain ⟨Wf,hWf,hput,_,d0,d1,d2,d3⟩:=putN4 S35.box (.int .i64 26) (.string ⟨([] : List UInt8).toArray⟩) (.int .i64 0) (.slice (some ⟨w32.heap.size,0,none⟩) 1 1)
      rw [hWf]
      exact bodyPost_ret (v:=.agg #[.int .i64 26,.string ⟨([] : List UInt8).toArray⟩,.int .i64 0,.slice (some ⟨w32.heap.size,0,none⟩) 1 1]) (by simp [results,Tryz.results77,go_sem,d0,d1,d2,d3]) rfl (OutR.of HR (S35.done Tt35 hput))
     | false =>
      have E30:=Lib.hid hm30
      clear hm30
      obtain ⟨x36,hx36⟩ : ∃ z,nowV X.l s29 = z:=⟨_,rfl⟩
      have n36_0:=now_no (m:=[123]) hx36 E30.out
      have X36:=Lib.hid hx36
      clear hx36
      go_wp2_with fail
      refine (nowX_any X (w28.setCell ⟨X.P,1,none⟩ (.int .i64 ((s.1 : Int) + 1))) s29 false S29.rdr x36 X36.out).mono ?_
      rintro e w37 ⟨rfl,hd37⟩
      have hb37 : But X.P (w28.setCell ⟨X.P,1,none⟩ (.int .i64 ((s.1 : Int) + 1))).heap.size (w28.setCell ⟨X.P,1,none⟩ (.int .i64 ((s.1 : Int) + 1))) w37:=But.of_below hd37
      have H37:=S29.rdr.below hd37 (Nat.le_refl _)
      clear hd37
      have S37:=S29.call hb37 H37
      have c38:=rcond_any X (n + 1) A w37 s29 false S37.rdr (by omega)
      have u38:=up_expr (upV X.l (n + 1)) true s29
      rcases hs38 : exprV (vs X.l (n + 1)) true s29 with ⟨t38,s38⟩
      rw [hs38] at c38 u38
      have q38:=u38.mS (n:=X.toks.length)
      have a38:=u38.at_
      have E38:=Lib.hid hs38
      clear hs38
      go_wp2_with fail
      refine c38.mono ?_
      rintro e w38 ⟨hb38,H38,sl38,rfl,hk38⟩
      obtain ⟨ao38,n38,p38,rfl⟩:=hk38.slice
      have Tt38:=Tre.newD S37 hk38
      clear c38 hk38
      have S38:=S37.call hb38 H38
      have Dc_39:=Held.newD S38 Tt38
      have hb40:=but_alloc w38 X.P (.cells #[.int .i64 t38.kind,.string ⟨t38.text.toArray⟩,.int .i64 t38.num,.slice ao38 n38 p38] 24)
      have H40:=S38.rdr.alloc (.cells #[.int .i64 t38.kind,.string ⟨t38.text.toArray⟩,.int .i64 t38.num,.slice ao38 n38 p38] 24)
      have S40:=S38.call hb40 H40
      have cB:=A.blk (w38.alloc (.cells #[.int .i64 t38.kind,.string ⟨t38.text.toArray⟩,.int .i64 t38.num,.slice ao38 n38 p38] 24)).drew s38 false S40.drew.rdr (by omega)
      have u41:=((upV X.l (n + 1)).blk s38).up
      rcases hs41 : (vs X.l (n + 1)).blk s38 with ⟨t41,s41⟩
      rw [hs41] at cB u41
      have q41:=u41.mS (n:=X.toks.length)
      have a41:=u41.at_
      have E41:=Lib.hid hs41
      clear hs41
      have sb41:=S40.lt
      obtain ⟨zq410,zq411,zq412,zq413,zq41f⟩:=Dc_39.cells
      have zq41g0:=zq41f 0
      have zq41g1:=zq41f 1
      have zq41g2:=zq41f 2
      have zq41g3:=zq41f 3
      clear zq41f
      go_wp2_with fail
      go_region_law (first
        | (go_simp; go_at_call 44; refine cB.mono ?_; rintro e w41 ⟨hb41,H41,sl41,rfl,hk41⟩; obtain ⟨ao41,n41,p41,rfl⟩:=hk41.slice
           have S41a:=S40.drew.call hb41 H41
           have D41a:=Dc_39.drew.mv S40.drew hb41
           have T41a:=Tre.newD S40.drew hk41
           have L41a:=Own.one2 S41a D41a.out T41a
           have S41b:=S41a.alloc (.cells #[.int .i64 t38.kind,.string ⟨t38.text.toArray⟩,.int .i64 t38.num,.slice ao38 n38 p38,.int .i64 t41.kind,.string ⟨t41.text.toArray⟩,.int .i64 t41.num,.slice ao41 n41 p41] 24)
           obtain ⟨y410,y411,y412,y413,y41f⟩:=D41a.cells
           clear y41f)
        | (go_simp; go_at_call 23; refine (rnode_any 26 [] _ _ _ _).mono ?_; rintro e w41e ⟨rfl,hd41⟩
           have S41e:=S41b.below hd41
           have L41e:=L41a.below hd41
           obtain ⟨r410,r411,r412,r413,j410,j411,j412,j413,jf41⟩:=S41e.box.open
           have jf41_0:=jf41 0
           have jf41_1:=jf41 1
           have jf41_2:=jf41 2
           have jf41_3:=jf41 3
           clear jf41))
      all_goals
       have Tt41:=L41e.tre 26 [] 0
       have HR : Hid (stmV X.l (vs X.l (n + 1)) s = ((.mk 26 [] 0 [t38,t41]),s41)):=Lib.hid (by simp [stmV,bindV,E1.out,E4.out,E27.out,E29.out,E30.out,E38.out,E41.out,forV])
       go_wp2
       obtain ⟨Wf,hWf,hput,_,d0,d1,d2,d3⟩:=putN4 S41e.box (.int .i64 26) (.string ⟨([] : List UInt8).toArray⟩) (.int .i64 0) (.slice (some ⟨w41.heap.size,0,none⟩) 2 2)
       rw [hWf]
       exact bodyPost_ret (v:=.agg #[.int .i64 26,.string ⟨([] : List UInt8).toArray⟩,.int .i64 0,.slice (some ⟨w41.heap.size,0,none⟩) 2 2]) (by simp [results,Tryz.results77,go_sem,d0,d1,d2,d3]) rfl (OutR.of HR (S41e.done Tt41 hput))
    | false =>
     have E27:=Lib.hid hm27
     clear hm27
     obtain ⟨x42,hx42⟩ : ∃ z,nowV X.l s = z:=⟨_,rfl⟩
     have n42_0:=now_no (m:=[123]) hx42 E1.out
     have n42_1:=now_no (m:=[105,102]) hx42 E4.out
     have n42_2:=now_no (m:=[102,111,114]) hx42 E27.out
     have X42:=Lib.hid hx42
     clear hx42
     go_wp2_with fail
     refine (nowX_any X W0 s false S0.rdr x42 X42.out).mono ?_
     rintro e w43 ⟨rfl,hd43⟩
     have hb43 : But X.P W0.heap.size W0 w43:=But.of_below hd43
     have H43:=S0.rdr.below hd43 (Nat.le_refl _)
     clear hd43
     have S43:=S0.call hb43 H43
     have c44:=rline_any X (n + 1) A w43 s S43.rdr (by omega)
     have u44:=up_line (l:=X.l) (upV X.l (n + 1)) s
     rcases hs44 : lineV X.l (vs X.l (n + 1)) s with ⟨t44,s44⟩
     rw [hs44] at c44 u44
     have q44:=u44.mS (n:=X.toks.length)
     have a44:=u44.at_
     have E44:=Lib.hid hs44
     clear hs44
     go_wp2_with fail
     refine c44.mono ?_
     rintro e w44 ⟨hb44,H44,sl44,rfl,hk44⟩
     obtain ⟨ao44,n44,p44,rfl⟩:=hk44.slice
     have Tt44:=Tre.newD S43 hk44
     clear c44 hk44
     have S44:=S43.call hb44 H44
     have Dn_45:=Held.newD S44 Tt44
     have hb46:=but_alloc w44 X.P (.cells #[.int .i64 t44.kind,.string ⟨t44.text.toArray⟩,.int .i64 t44.num,.slice ao44 n44 p44] 24)
     have H46:=S44.rdr.alloc (.cells #[.int .i64 t44.kind,.string ⟨t44.text.toArray⟩,.int .i64 t44.num,.slice ao44 n44 p44] 24)
     have S46:=S44.call hb46 H46
     go_wp2_with fail
     refine (rneed_any X (w44.alloc (.cells #[.int .i64 t44.kind,.string ⟨t44.text.toArray⟩,.int .i64 t44.num,.slice ao44 n44 p44] 24)) s44 false S46.rdr [59] (by decide)).mono ?_
     rintro e w47 ⟨rfl,hb47,H47⟩
     obtain ⟨s47,hs47⟩ : ∃ z,needV X.l [59] s44 = z:=⟨_,rfl⟩
     rw [hs47] at H47
     have u47 : Up s44 s47:=hs47 ▸ (su_need X.l [59] s44).up
     have q47:=u47.mS (n:=X.toks.length)
     have a47:=u47.at_
     have E47:=Lib.hid hs47
     clear hs47
     have S47:=S46.call hb47 H47
     have Dn_47:=Dn_45.mv S46 hb47
     obtain ⟨zv480,zv481,zv482,zv483,zv48f⟩:=Dn_47.cells
     have zv48g0:=zv48f 0
     have zv48g1:=zv48f 1
     have zv48g2:=zv48f 2
     have zv48g3:=zv48f 3
     clear zv48f
     have Tt48:=Dn_47.out
     have HR : Hid (stmV X.l (vs X.l (n + 1)) s = (t44,s47)):=Lib.hid (by simp [stmV,bindV,E1.out,E4.out,E27.out,E44.out,E47.out])
     obtain ⟨y0,y1,y2,y3,b0,b1,b2,b3,bf⟩:=S47.box.open
     have bf0:=bf 0
     have bf1:=bf 1
     have bf2:=bf 2
     have bf3:=bf 3
     clear bf
     go_wp2
     obtain ⟨Wf,hWf,hput,_,d0,d1,d2,d3⟩:=putN4 S47.box (.int .i64 t44.kind) (.string ⟨t44.text.toArray⟩) (.int .i64 t44.num) (.slice ao44 n44 p44)
     rw [hWf]
     exact bodyPost_ret (v:=.agg #[.int .i64 t44.kind,.string ⟨t44.text.toArray⟩,.int .i64 t44.num,.slice ao44 n44 p44]) (by simp [results,Tryz.results77,go_sem,d0,d1,d2,d3]) rfl (OutR.of HR (S47.done Tt48 hput))
end Go.Proofs.YtnkphlkjhgngkaaGreatDoor
