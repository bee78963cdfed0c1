/- The document's reader: line. -/
import Derived.Test.YtnkphlkjhgngkaaGreatDoorRdGJt
import Derived.Test.YtnkphlkjhgngkaaGreatDoorParIJt
namespace Go.Proofs.YtnkphlkjhgngkaaGreatDoor
open Go.RowKit
attribute [local go_sem ↓] Go.wp_at_zero Go.wp_at_succ
theorem OwnL.row {w : World} {B : Nat} {v : Value} {ts : List Tr} (T : OwnL w B v ts) : ts = [] ∨ ∃ g cap,v = .slice (some ⟨g,0,none⟩) ts.length cap ∧ ∀ (k : Nat) t,ts[k]? = some t → w.cell? ⟨g,k * 4,none⟩ = some (.int .i64 t.kind) ∧ w.cell? ⟨g,k * 4 + 1,none⟩ = some (.string ⟨t.text.toArray⟩):=by
 obtain ⟨sls,o1,k1⟩:=T
 rcases o1.2 with ⟨rfl,e0⟩ | ⟨q,cap,cur,rfl,hb,hg,hcap,_,hsz,htk⟩
 · exact .inl (List.eq_nil_of_length_eq_zero e0)
 · refine .inr ⟨q,cap,rfl,fun k t ht => ?_⟩
   have hl:=k1.length
   have hk : k < ts.length:=by
    rcases Nat.lt_or_ge k ts.length with h | h
    · exact h
    · rw [List.getElem?_eq_none h] at ht; cases ht
   obtain ⟨sl,hs⟩ : ∃ sl,sls[k]? = some sl:=⟨_,List.getElem?_eq_getElem (by omega)⟩
   obtain ⟨q0,q1,_,_⟩:=cellsOf_get ht hs
   have cell : ∀ (j : Nat) u,(cellsOf ts sls)[j]? = some u → w.cell? ⟨q,j,none⟩ = some u:=fun j u hj => by
    rw [← htk] at hj
    have hj' : cur[j]? = some u:=by
     rw [List.getElem?_take] at hj
     split at hj
     · simpa using hj
     · cases hj
    simp [World.cell?,hg,hj']
   exact ⟨cell _ _ q0,cell _ _ q1⟩
theorem commaV_ne (l : List Tk) (item : Sg → Tr × Sg) : ∀ (f : Nat) (acc : List Tr) (s : Sg),acc ≠ [] → (commaV l item f acc s).1 ≠ []
  | 0,_,_,h => h
  | f + 1,acc,s,h => by
   simp only [commaV,bindV]
   split
   · exact commaV_ne l item f _ _ (by simp)
   · exact h
theorem commasV_ne (l : List Tk) (item : Sg → Tr × Sg) (s : Sg) : (commasV l item s).1 ≠ []:=commaV_ne l item _ _ _ (by simp)
theorem all_take_succ {l : List Tr} {p : Tr → Bool} {j : Nat} {t : Tr} (h : l[j]? = some t) : (l.take (j + 1)).all p = ((l.take j).all p && p t):=by
 rw [List.take_add_one,h,List.all_append]; simp
theorem oneCall_ne : ∀ l : List Tr,¬ l.length = 1 → (match l with | [e] => isCallT e | _ => false) = false
  | [],_ => rfl
  | [_],h => absurd rfl h
  | _ :: _ :: _,_ => rfl
theorem OwnQ.mv {Z : Nat → Prop} {X : Px} {w W W' : World} {s : Sg} {h : Bool} {v : Value} {ts : List Tr} (T : OwnQ Z W (w.heap.size + 1) v ts) (S : Sd X w W s h) (hb : But X.P W.heap.size W W') : OwnQ Z W' (w.heap.size + 1) v ts :=
  T.later hb.size (fun b h1 h2 => hb.block b h2 (by have:=S.plt; omega))
theorem OwnQ.cell0 {Z : Nat → Prop} {W : World} {B g n c : Nat} {k num : Int} {x : List UInt8} {ks ts : List Tr} (T : OwnQ Z W B (.slice (some ⟨g,0,none⟩) n c) (.mk k x num ks :: ts)) : W.cell? ⟨g,0,none⟩ = some (.int .i64 k):=by
 rcases OwnL.row T.own with h | ⟨g',cap,hv,hc⟩
 · cases h
 · injection hv with h1 h2 h3
   injection h1 with h1
   injection h1 with h1
   have:=(hc 0 _ rfl).1
   rw [h1]; simpa [Tr.kind] using this
set_option maxRecDepth 20000 in
set_option maxHeartbeats 4000000 in
theorem rline_any (X : Px) (n : Nat) (A : GoodR X n) (w : World) (s : Sg) (H : Rdr X w s false) (hn : mS X.toks.length s + 2 ≤ n) :
    Calls Tryz.prog 113 #[X.p] w (OutR X w false (lineV X.l (vs X.l n) s)):=by
  obtain ⟨W0,hW0,S0⟩:=Sd.first H
  go_enter Tryz.func113,Tryz.ntmps113
  cases hm1 : isV X.l s [118,97,114] with
  | true =>
   have hx1:=now_of hm1
   have hl1:=isV_at (by decide) hm1 S0.rdr.le
   have X1:=Lib.hid hx1
   have E1:=Lib.hid hm1
   clear hm1 hx1
   go_wp2_with fail
   refine (nowX_any X W0 s false S0.rdr [118,97,114] X1.out).mono ?_
   rintro e w2 ⟨rfl,hd2⟩
   have hb2 : But X.P W0.heap.size W0 w2:=But.of_below hd2
   have H2:=S0.rdr.below hd2 (Nat.le_refl _)
   clear hd2
   have S2:=S0.call hb2 H2
   have cA3:=S2.rdr.c1
   have fA3:=S2.rdr.fz 1
   have bA3:=S2.rdr.bnd
   have H3:=S2.rdr.step hl1.2
   have hb3:=but_set w2 X.P w2.heap.size 1 (.int .i64 ((s.1 : Int) + 1))
   obtain ⟨s3,hs3⟩ : ∃ z,stepV s = z:=⟨_,rfl⟩
   rw [hs3] at H3
   have u3 : Up s s3:=hs3 ▸ (su_step s).up
   have q3 : mS X.toks.length s3 + 3 ≤ mS X.toks.length s:=hs3 ▸ mS_step hl1.1 hl1.2
   have a3 : s.1 + 1 = s3.1:=hs3 ▸ rfl
   have a3a:=Nat.le_of_eq a3
   have a3b:=Nat.le_of_eq a3.symm
   clear a3
   have E3:=Lib.hid hs3
   clear hs3
   have S3:=S2.call hb3 H3
   have c4:=rname_any X (w2.setCell ⟨X.P,1,none⟩ (.int .i64 ((s.1 : Int) + 1))) s3 false S3.rdr
   have u4:=(su_name X.l s3).up
   rcases hs4 : nameV X.l s3 with ⟨x4,s4⟩
   rw [hs4] at c4 u4
   have q4:=u4.mS (n:=X.toks.length)
   have a4:=u4.at_
   have E4:=Lib.hid hs4
   clear hs4
   go_wp2_with fail
   refine c4.mono ?_
   rintro e w4 ⟨rfl,hb4,H4⟩
   clear c4
   have S4:=S3.call hb4 H4
   have c5:=A.typ w4 s4 false S4.rdr (by omega)
   have u5:=(upV X.l n).typ s4
   rcases hs5 : (vs X.l n).typ s4 with ⟨t5,s5⟩
   rw [hs5] at c5 u5
   have q5:=u5.mS (n:=X.toks.length)
   have a5:=u5.at_
   have E5:=Lib.hid hs5
   clear hs5
   go_wp2_with fail
   refine c5.mono ?_
   rintro e w5 ⟨hb5,H5,sl5,rfl,hk5⟩
   obtain ⟨ao5,n5,p5,rfl⟩:=hk5.slice
   have Tt5:=Tre.newD S4 hk5
   clear c5 hk5
   have S5:=S4.call hb5 H5
   have Tl6:=Own.one1 S5 Tt5
   have hb7:=but_alloc w5 X.P (.cells #[.int .i64 t5.kind,.string ⟨t5.text.toArray⟩,.int .i64 t5.num,.slice ao5 n5 p5] 24)
   have H7:=S5.rdr.alloc (.cells #[.int .i64 t5.kind,.string ⟨t5.text.toArray⟩,.int .i64 t5.num,.slice ao5 n5 p5] 24)
   have S7:=S5.call hb7 H7
   go_wp2_with fail
   refine (rnode_any 21 x4 _ _ _ _).mono ?_
   rintro e w8 ⟨rfl,hd8⟩
   have hb8 : But X.P (w5.alloc (.cells #[.int .i64 t5.kind,.string ⟨t5.text.toArray⟩,.int .i64 t5.num,.slice ao5 n5 p5] 24)).heap.size (w5.alloc (.cells #[.int .i64 t5.kind,.string ⟨t5.text.toArray⟩,.int .i64 t5.num,.slice ao5 n5 p5] 24)) w8:=But.of_below hd8
   have H8:=S7.rdr.below hd8 (Nat.le_refl _)
   clear hd8
   have S8:=S7.call hb8 H8
   have Tl6_8:=Tl6.mv S7 hb8
   have Tt8:=Tl6_8.tre 21 x4 0
   have Nn_9:=NBox.new (X:=X) (k:=21) (s:=x4) (num:=0) Tl6_8 S8.lt
   have hb10:=but_alloc w8 X.P (.cells #[.int .i64 21,.string ⟨(x4 : List UInt8).toArray⟩,.int .i64 0,.slice (some ⟨w5.heap.size,0,none⟩) 1 1] 24)
   have H10:=S8.rdr.alloc (.cells #[.int .i64 21,.string ⟨(x4 : List UInt8).toArray⟩,.int .i64 0,.slice (some ⟨w5.heap.size,0,none⟩) 1 1] 24)
   have S10:=S8.call hb10 H10
   cases hm11 : isV X.l s5 [61] with
   | true =>
    have hl11:=isV_at (by decide) hm11 S10.rdr.le
    have c11:=rtake_yes X (w8.alloc (.cells #[.int .i64 21,.string ⟨(x4 : List UInt8).toArray⟩,.int .i64 0,.slice (some ⟨w5.heap.size,0,none⟩) 1 1] 24)) s5 false S10.rdr [61] (by decide) hm11
    obtain ⟨s11,hs11⟩ : ∃ z,stepV s5 = z:=⟨_,rfl⟩
    rw [hs11] at c11
    have u11 : Up s5 s11:=hs11 ▸ (su_step s5).up
    have q11 : mS X.toks.length s11 + 3 ≤ mS X.toks.length s5:=hs11 ▸ mS_step hl11.1 hl11.2
    have a11 : s5.1 + 1 = s11.1:=hs11 ▸ rfl
    have a11a:=Nat.le_of_eq a11
    have a11b:=Nat.le_of_eq a11.symm
    clear a11
    have E11 : Hid (takeV X.l [61] s5 = (true,s11)):=Lib.hid (by simp [takeV,hm11,hs11])
    clear hm11 hs11 hl11
    go_wp2_with fail
    refine c11.mono ?_
    rintro e w11 ⟨rfl,hb11,H11⟩
    clear c11
    have S11:=S10.call hb11 H11
    have Nn_11:=Nn_9.mv S10 hb11
    have cB:=rexpr_any X n A w11.drew s11 false S11.drew.rdr (by omega)
    have u12:=up_expr (upV X.l n) false s11
    rcases hs12 : exprV (vs X.l n) false s11 with ⟨t12,s12⟩
    rw [hs12] at cB u12
    have q12:=u12.mS (n:=X.toks.length)
    have a12:=u12.at_
    have E12:=Lib.hid hs12
    clear hs12
    have sb12:=S11.lt
    obtain ⟨zq120,zq121,zq122,zq123,zq12f⟩:=Nn_11.cells
    have zq12g0:=zq12f 0
    have zq12g1:=zq12f 1
    have zq12g2:=zq12f 2
    have zq12g3:=zq12f 3
    clear zq12f
    go_wp2_with fail
    clear zq120 zq121 zq122 zq123 zq12g0 zq12g1 zq12g2 zq12g3
    generalize (Value.slice (some ⟨w5.heap.size,0,none⟩) 1 1) = V12 at *
    have lo12:=OwnL.lt Nn_11.own.own
    obtain ⟨zr120,zr121,zr122,zr123,zr12f⟩:=Nn_11.cells
    have zr12g0:=zr12f 0
    have zr12g1:=zr12f 1
    have zr12g2:=zr12f 2
    have zr12g3:=zr12f 3
    clear zr12f
    have ln12 : ([t5] : List Tr).length ≤ 500000:=by simp
    go_region_law (first
      | (go_simp; go_at_call 138; refine cB.mono ?_; rintro e w12 ⟨hb12,H12,sl12,rfl,hk12⟩; obtain ⟨ao12,n12,p12,rfl⟩:=hk12.slice
         have S12a:=S11.drew.call hb12 H12
         have N12a:=Nn_11.drew.mv S11.drew hb12
         have lz12:=hb12.size
         have ld12 : (w11).drew.heap.size = (w11).heap.size:=rfl
         have bd12:=H12.bnd
         have lm12:=Nn_11.ltz
         have hO12:=OwnQ.of (Q:=fun b => b ≠ w8.heap.size) (OwnL.one (B:=(w11).heap.size) lz12 hk12 (Nat.le_refl _) (Nat.le_refl _)) (fun b hb _ => by omega)
         have N12b:=N12a.alloc (.cells #[.int .i64 t12.kind,.string ⟨t12.text.toArray⟩,.int .i64 t12.num,.slice ao12 n12 p12] 24)
         have S12b:=S12a.alloc (.cells #[.int .i64 t12.kind,.string ⟨t12.text.toArray⟩,.int .i64 t12.num,.slice ao12 n12 p12] 24)
         obtain ⟨y120,y121,y122,y123,y12f⟩:=N12a.cells
         have y12g:=y12f 3
         have ym12:=N12a.ltz
         have yn12 : w8.heap.size ≠ w12.heap.size:=Nat.ne_of_lt ym12
         have yo12 : w12.heap.size ≠ w8.heap.size:=fun e => yn12 e.symm
         clear y12f)
      | (refine step_join (by rfl) _ _ (by rfl) (by rfl) (by rfl) N12b.own hO12 ?_ ?_ ?_ ?_ ?_ ?_
         · first | omega | (simp <;> omega)
         · omega
         · first | omega | (simp <;> omega)
         · exact fun q hq => (lo12 q hq).2
         · first | omega | (simp <;> omega)
         intro ao12c c12c w12c hO12c hg12c
         generalize hL12 : ([t5] : List Tr).length + ([t12] : List Tr).length = L12 at *
         have S12c:=S12b.grown hg12c (fun q hq => (lo12 q hq).1)
         have B12c:=N12b.grown hg12c
         obtain ⟨x120,x121,x122,x123,x12f⟩:=cells_of_blk B12c
         have x12g:=x12f 3
         clear x12f))
    all_goals
     have S12d:=S12c.put ((Put.refl (w8.heap.size) w12c).setCell 3 (.slice ao12c L12 c12c)) Nn_11.lt
     have N12d : NBox X w (w12c.setCell ⟨w8.heap.size,3,none⟩ (.slice ao12c L12 c12c)) (w8.heap.size) 21 x4 0 (.slice ao12c L12 c12c) ([t5,t12]):=NBox.setKids (X:=X) B12c Nn_11.lt hO12c
     clear x120 x121 x122 x123 x12g
     generalize w12c.setCell ⟨w8.heap.size,3,none⟩ (.slice ao12c L12 c12c) = w12d at *
     obtain ⟨zv130,zv131,zv132,zv133,zv13f⟩:=N12d.cells
     have zv13g0:=zv13f 0
     have zv13g1:=zv13f 1
     have zv13g2:=zv13f 2
     have zv13g3:=zv13f 3
     clear zv13f
     have Tt13:=N12d.tre
     have HR : Hid (lineV X.l (vs X.l n) s = ((.mk 21 x4 0 [t5,t12]),s12)):=Lib.hid (by simp [lineV,bindV,E1.out,E3.out,E4.out,E5.out,E11.out,E12.out])
     obtain ⟨y0,y1,y2,y3,b0,b1,b2,b3,bf⟩:=S12d.box.open
     have bf0:=bf 0
     have bf1:=bf 1
     have bf2:=bf 2
     have bf3:=bf 3
     clear bf
     go_wp2
     obtain ⟨Wf,hWf,hput,_,d0,d1,d2,d3⟩:=putN4 S12d.box (.int .i64 21) (.string ⟨(x4 : List UInt8).toArray⟩) (.int .i64 0) (.slice ao12c L12 c12c)
     rw [hWf]
     exact bodyPost_ret (v:=.agg #[.int .i64 21,.string ⟨(x4 : List UInt8).toArray⟩,.int .i64 0,.slice ao12c L12 c12c]) (by simp [results,Tryz.results113,go_sem,d0,d1,d2,d3]) rfl (OutR.of HR (S12d.done Tt13 hput))
   | false =>
    have c11:=rtake_no X (w8.alloc (.cells #[.int .i64 21,.string ⟨(x4 : List UInt8).toArray⟩,.int .i64 0,.slice (some ⟨w5.heap.size,0,none⟩) 1 1] 24)) s5 false S10.rdr [61] hm11
    have E11 : Hid (takeV X.l [61] s5 = (false,s5)):=Lib.hid (by simp [takeV,hm11])
    clear hm11
    go_wp2_with fail
    refine c11.mono ?_
    rintro e w11 ⟨rfl,hb11,H11⟩
    clear c11
    have S11:=S10.call hb11 H11
    have Nn_11:=Nn_9.mv S10 hb11
    obtain ⟨zv140,zv141,zv142,zv143,zv14f⟩:=Nn_11.cells
    have zv14g0:=zv14f 0
    have zv14g1:=zv14f 1
    have zv14g2:=zv14f 2
    have zv14g3:=zv14f 3
    clear zv14f
    have Tt14:=Nn_11.tre
    have HR : Hid (lineV X.l (vs X.l n) s = ((.mk 21 x4 0 [t5]),s5)):=Lib.hid (by simp [lineV,bindV,E1.out,E3.out,E4.out,E5.out,E11.out])
    obtain ⟨y0,y1,y2,y3,b0,b1,b2,b3,bf⟩:=S11.box.open
    have bf0:=bf 0
    have bf1:=bf 1
    have bf2:=bf 2
    have bf3:=bf 3
    clear bf
    go_wp2
    obtain ⟨Wf,hWf,hput,_,d0,d1,d2,d3⟩:=putN4 S11.box (.int .i64 21) (.string ⟨(x4 : List UInt8).toArray⟩) (.int .i64 0) (.slice (some ⟨w5.heap.size,0,none⟩) 1 1)
    rw [hWf]
    exact bodyPost_ret (v:=.agg #[.int .i64 21,.string ⟨(x4 : List UInt8).toArray⟩,.int .i64 0,.slice (some ⟨w5.heap.size,0,none⟩) 1 1]) (by simp [results,Tryz.results113,go_sem,d0,d1,d2,d3]) rfl (OutR.of HR (S11.done Tt14 hput))
  | false =>
   have E1:=Lib.hid hm1
   clear hm1
   cases hm15 : isV X.l s [114,101,116,117,114,110] with
   | true =>
    have hx15:=now_of hm15
    have hl15:=isV_at (by decide) hm15 S0.rdr.le
    have X15:=Lib.hid hx15
    have E15:=Lib.hid hm15
    clear hm15 hx15
    go_wp2_with fail
    refine (nowX_any X W0 s false S0.rdr [114,101,116,117,114,110] X15.out).mono ?_
    rintro e w16 ⟨rfl,hd16⟩
    have hb16 : But X.P W0.heap.size W0 w16:=But.of_below hd16
    have H16:=S0.rdr.below hd16 (Nat.le_refl _)
    clear hd16
    have S16:=S0.call hb16 H16
    have cA17:=S16.rdr.c1
    have fA17:=S16.rdr.fz 1
    have bA17:=S16.rdr.bnd
    have H17:=S16.rdr.step hl15.2
    have hb17:=but_set w16 X.P w16.heap.size 1 (.int .i64 ((s.1 : Int) + 1))
    obtain ⟨s17,hs17⟩ : ∃ z,stepV s = z:=⟨_,rfl⟩
    rw [hs17] at H17
    have u17 : Up s s17:=hs17 ▸ (su_step s).up
    have q17 : mS X.toks.length s17 + 3 ≤ mS X.toks.length s:=hs17 ▸ mS_step hl15.1 hl15.2
    have a17 : s.1 + 1 = s17.1:=hs17 ▸ rfl
    have a17a:=Nat.le_of_eq a17
    have a17b:=Nat.le_of_eq a17.symm
    clear a17
    have E17:=Lib.hid hs17
    clear hs17
    have S17:=S16.call hb17 H17
    cases hm18 : isV X.l s17 [59] with
    | true =>
     have hx18:=now_of hm18
     have hl18:=isV_at (by decide) hm18 S17.rdr.le
     have X18:=Lib.hid hx18
     have E18:=Lib.hid hm18
     clear hm18 hx18
     go_wp2_with fail
     refine (nowX_any X (w16.setCell ⟨X.P,1,none⟩ (.int .i64 ((s.1 : Int) + 1))) s17 false S17.rdr [59] X18.out).mono ?_
     rintro e w19 ⟨rfl,hd19⟩
     have hb19 : But X.P (w16.setCell ⟨X.P,1,none⟩ (.int .i64 ((s.1 : Int) + 1))).heap.size (w16.setCell ⟨X.P,1,none⟩ (.int .i64 ((s.1 : Int) + 1))) w19:=But.of_below hd19
     have H19:=S17.rdr.below hd19 (Nat.le_refl _)
     clear hd19
     have S19:=S17.call hb19 H19
     go_wp2_with fail
     refine (rnode_any 27 [] _ _ _ _).mono ?_
     rintro e w20 ⟨rfl,hd20⟩
     have hb20 : But X.P w19.heap.size w19 w20:=But.of_below hd20
     have H20:=S19.rdr.below hd20 (Nat.le_refl _)
     clear hd20
     have S20:=S19.call hb20 H20
     have Tt20:=Tre.leaf w w20 27 [] 0 none 0
     have HR : Hid (lineV X.l (vs X.l n) s = ((.mk 27 [] 0 []),s17)):=Lib.hid (by simp [lineV,E1.out,E15.out,E17.out,E18.out])
     obtain ⟨y0,y1,y2,y3,b0,b1,b2,b3,bf⟩:=S20.box.open
     have bf0:=bf 0
     have bf1:=bf 1
     have bf2:=bf 2
     have bf3:=bf 3
     clear bf
     go_wp2
     obtain ⟨Wf,hWf,hput,_,d0,d1,d2,d3⟩:=putN4 S20.box (.int .i64 27) (.string ⟨([] : List UInt8).toArray⟩) (.int .i64 0) (.slice none 0 0)
     rw [hWf]
     exact bodyPost_ret (v:=.agg #[.int .i64 27,.string ⟨([] : List UInt8).toArray⟩,.int .i64 0,.slice none 0 0]) (by simp [results,Tryz.results113,go_sem,d0,d1,d2,d3]) rfl (OutR.of HR (S20.done Tt20 hput))
    | false =>
     have E18:=Lib.hid hm18
     clear hm18
     obtain ⟨x21,hx21⟩ : ∃ z,nowV X.l s17 = z:=⟨_,rfl⟩
     have n21_0:=now_no (m:=[59]) hx21 E18.out
     have X21:=Lib.hid hx21
     clear hx21
     go_wp2_with fail
     refine (nowX_any X (w16.setCell ⟨X.P,1,none⟩ (.int .i64 ((s.1 : Int) + 1))) s17 false S17.rdr x21 X21.out).mono ?_
     rintro e w22 ⟨rfl,hd22⟩
     have hb22 : But X.P (w16.setCell ⟨X.P,1,none⟩ (.int .i64 ((s.1 : Int) + 1))).heap.size (w16.setCell ⟨X.P,1,none⟩ (.int .i64 ((s.1 : Int) + 1))) w22:=But.of_below hd22
     have H22:=S17.rdr.below hd22 (Nat.le_refl _)
     clear hd22
     have S22:=S17.call hb22 H22
     have c23:=rexprs_any X n A w22 s17 false S22.rdr (by omega)
     have u23:=up_commas (l:=X.l) (up_expr (upV X.l n) false) s17
     rcases hs23 : commasV X.l (exprV (vs X.l n) false) s17 with ⟨l23,s23⟩
     rw [hs23] at c23 u23
     have q23:=u23.mS (n:=X.toks.length)
     have a23:=u23.at_
     have E23:=Lib.hid hs23
     clear hs23
     go_wp2_with fail
     refine c23.mono ?_
     rintro e w23 ⟨hb23,H23,ll23,v23,rfl,hk23⟩
     obtain ⟨ao23,p23,rfl⟩:=hk23.slice
     have Tl23:=Own.newD S22 hk23
     have bd23:=H23.bnd
     clear c23
     have S23:=S22.call hb23 H23
     go_wp2_with fail
     refine (rnode_any 27 [] _ _ _ _).mono ?_
     rintro e w24 ⟨rfl,hd24⟩
     have hb24 : But X.P w23.heap.size w23 w24:=But.of_below hd24
     have H24:=S23.rdr.below hd24 (Nat.le_refl _)
     clear hd24
     have S24:=S23.call hb24 H24
     have Tl23_24:=Tl23.mv S23 hb24
     have Tt24:=Tl23_24.tre 27 [] 0
     have HR : Hid (lineV X.l (vs X.l n) s = ((.mk 27 [] 0 l23),s23)):=Lib.hid (by simp [lineV,bindV,E1.out,E15.out,E17.out,E18.out,E23.out,exprsV])
     obtain ⟨y0,y1,y2,y3,b0,b1,b2,b3,bf⟩:=S24.box.open
     have bf0:=bf 0
     have bf1:=bf 1
     have bf2:=bf 2
     have bf3:=bf 3
     clear bf
     go_wp2
     obtain ⟨Wf,hWf,hput,_,d0,d1,d2,d3⟩:=putN4 S24.box (.int .i64 27) (.string ⟨([] : List UInt8).toArray⟩) (.int .i64 0) (.slice ao23 l23.length p23)
     rw [hWf]
     exact bodyPost_ret (v:=.agg #[.int .i64 27,.string ⟨([] : List UInt8).toArray⟩,.int .i64 0,.slice ao23 l23.length p23]) (by simp [results,Tryz.results113,go_sem,d0,d1,d2,d3]) rfl (OutR.of HR (S24.done Tt24 hput))
   | false =>
    have E15:=Lib.hid hm15
    clear hm15
    cases hm25 : isV X.l s [98,114,101,97,107] with
    | true =>
     have hx25:=now_of hm25
     have hl25:=isV_at (by decide) hm25 S0.rdr.le
     have X25:=Lib.hid hx25
     have E25:=Lib.hid hm25
     clear hm25 hx25
     go_wp2_with fail
     refine (nowX_any X W0 s false S0.rdr [98,114,101,97,107] X25.out).mono ?_
     rintro e w26 ⟨rfl,hd26⟩
     have hb26 : But X.P W0.heap.size W0 w26:=But.of_below hd26
     have H26:=S0.rdr.below hd26 (Nat.le_refl _)
     clear hd26
     have S26:=S0.call hb26 H26
     have cA27:=S26.rdr.c1
     have fA27:=S26.rdr.fz 1
     have bA27:=S26.rdr.bnd
     have H27:=S26.rdr.step hl25.2
     have hb27:=but_set w26 X.P w26.heap.size 1 (.int .i64 ((s.1 : Int) + 1))
     obtain ⟨s27,hs27⟩ : ∃ z,stepV s = z:=⟨_,rfl⟩
     rw [hs27] at H27
     have u27 : Up s s27:=hs27 ▸ (su_step s).up
     have q27 : mS X.toks.length s27 + 3 ≤ mS X.toks.length s:=hs27 ▸ mS_step hl25.1 hl25.2
     have a27 : s.1 + 1 = s27.1:=hs27 ▸ rfl
     have a27a:=Nat.le_of_eq a27
     have a27b:=Nat.le_of_eq a27.symm
     clear a27
     have E27:=Lib.hid hs27
     clear hs27
     have S27:=S26.call hb27 H27
     go_wp2_with fail
     refine (rnode_any 28 [] _ _ _ _).mono ?_
     rintro e w28 ⟨rfl,hd28⟩
     have hb28 : But X.P (w26.setCell ⟨X.P,1,none⟩ (.int .i64 ((s.1 : Int) + 1))).heap.size (w26.setCell ⟨X.P,1,none⟩ (.int .i64 ((s.1 : Int) + 1))) w28:=But.of_below hd28
     have H28:=S27.rdr.below hd28 (Nat.le_refl _)
     clear hd28
     have S28:=S27.call hb28 H28
     have Tt28:=Tre.leaf w w28 28 [] 0 none 0
     have HR : Hid (lineV X.l (vs X.l n) s = ((.mk 28 [] 0 []),s27)):=Lib.hid (by simp [lineV,E1.out,E15.out,E25.out,E27.out])
     obtain ⟨y0,y1,y2,y3,b0,b1,b2,b3,bf⟩:=S28.box.open
     have bf0:=bf 0
     have bf1:=bf 1
     have bf2:=bf 2
     have bf3:=bf 3
     clear bf
     go_wp2
     obtain ⟨Wf,hWf,hput,_,d0,d1,d2,d3⟩:=putN4 S28.box (.int .i64 28) (.string ⟨([] : List UInt8).toArray⟩) (.int .i64 0) (.slice none 0 0)
     rw [hWf]
     exact bodyPost_ret (v:=.agg #[.int .i64 28,.string ⟨([] : List UInt8).toArray⟩,.int .i64 0,.slice none 0 0]) (by simp [results,Tryz.results113,go_sem,d0,d1,d2,d3]) rfl (OutR.of HR (S28.done Tt28 hput))
    | false =>
     have E25:=Lib.hid hm25
     clear hm25
     cases hm29 : isV X.l s [99,111,110,116,105,110,117,101] with
     | true =>
      have hx29:=now_of hm29
      have hl29:=isV_at (by decide) hm29 S0.rdr.le
      have X29:=Lib.hid hx29
      have E29:=Lib.hid hm29
      clear hm29 hx29
      go_wp2_with fail
      refine (nowX_any X W0 s false S0.rdr [99,111,110,116,105,110,117,101] X29.out).mono ?_
      rintro e w30 ⟨rfl,hd30⟩
      have hb30 : But X.P W0.heap.size W0 w30:=But.of_below hd30
      have H30:=S0.rdr.below hd30 (Nat.le_refl _)
      clear hd30
      have S30:=S0.call hb30 H30
      have cA31:=S30.rdr.c1
      have fA31:=S30.rdr.fz 1
      have bA31:=S30.rdr.bnd
      have H31:=S30.rdr.step hl29.2
      have hb31:=but_set w30 X.P w30.heap.size 1 (.int .i64 ((s.1 : Int) + 1))
      obtain ⟨s31,hs31⟩ : ∃ z,stepV s = z:=⟨_,rfl⟩
      rw [hs31] at H31
      have u31 : Up s s31:=hs31 ▸ (su_step s).up
      have q31 : mS X.toks.length s31 + 3 ≤ mS X.toks.length s:=hs31 ▸ mS_step hl29.1 hl29.2
      have a31 : s.1 + 1 = s31.1:=hs31 ▸ rfl
      have a31a:=Nat.le_of_eq a31
      have a31b:=Nat.le_of_eq a31.symm
      clear a31
      have E31:=Lib.hid hs31
      clear hs31
      have S31:=S30.call hb31 H31
      go_wp2_with fail
      refine (rnode_any 29 [] _ _ _ _).mono ?_
      rintro e w32 ⟨rfl,hd32⟩
      have hb32 : But X.P (w30.setCell ⟨X.P,1,none⟩ (.int .i64 ((s.1 : Int) + 1))).heap.size (w30.setCell ⟨X.P,1,none⟩ (.int .i64 ((s.1 : Int) + 1))) w32:=But.of_below hd32
      have H32:=S31.rdr.below hd32 (Nat.le_refl _)
      clear hd32
      have S32:=S31.call hb32 H32
      have Tt32:=Tre.leaf w w32 29 [] 0 none 0
      have HR : Hid (lineV X.l (vs X.l n) s = ((.mk 29 [] 0 []),s31)):=Lib.hid (by simp [lineV,E1.out,E15.out,E25.out,E29.out,E31.out])
      obtain ⟨y0,y1,y2,y3,b0,b1,b2,b3,bf⟩:=S32.box.open
      have bf0:=bf 0
      have bf1:=bf 1
      have bf2:=bf 2
      have bf3:=bf 3
      clear bf
      go_wp2
      obtain ⟨Wf,hWf,hput,_,d0,d1,d2,d3⟩:=putN4 S32.box (.int .i64 29) (.string ⟨([] : List UInt8).toArray⟩) (.int .i64 0) (.slice none 0 0)
      rw [hWf]
      exact bodyPost_ret (v:=.agg #[.int .i64 29,.string ⟨([] : List UInt8).toArray⟩,.int .i64 0,.slice none 0 0]) (by simp [results,Tryz.results113,go_sem,d0,d1,d2,d3]) rfl (OutR.of HR (S32.done Tt32 hput))
     | false =>
      have E29:=Lib.hid hm29
      clear hm29
      obtain ⟨x33,hx33⟩ : ∃ z,nowV X.l s = z:=⟨_,rfl⟩
      have n33_0:=now_no (m:=[118,97,114]) hx33 E1.out
      have n33_1:=now_no (m:=[114,101,116,117,114,110]) hx33 E15.out
      have n33_2:=now_no (m:=[98,114,101,97,107]) hx33 E25.out
      have n33_3:=now_no (m:=[99,111,110,116,105,110,117,101]) hx33 E29.out
      have X33:=Lib.hid hx33
      clear hx33
      go_wp2_with fail
      refine (nowX_any X W0 s false S0.rdr x33 X33.out).mono ?_
      rintro e w34 ⟨rfl,hd34⟩
      have hb34 : But X.P W0.heap.size W0 w34:=But.of_below hd34
      have H34:=S0.rdr.below hd34 (Nat.le_refl _)
      clear hd34
      have S34:=S0.call hb34 H34
      have hne:=commasV_ne X.l (exprV (vs X.l n) false) s
      have ulo:=S34.lt
      have c35:=rexprs_any X n A w34 s false S34.rdr (by omega)
      have u35:=up_commas (l:=X.l) (up_expr (upV X.l n) false) s
      rcases hs35 : commasV X.l (exprV (vs X.l n) false) s with ⟨l35,s35⟩
      replace u35 : Up s (commasV X.l (exprV (vs X.l n) false) s).2:=u35
      rw [hs35] at c35 u35 hne
      have q35:=u35.mS (n:=X.toks.length)
      have a35:=u35.at_
      have hne35 : l35 ≠ []:=hne
      clear hne
      have E35:=Lib.hid hs35
      clear hs35
      go_wp2_with fail
      refine c35.mono ?_
      rintro e w35 ⟨hb35,H35,ll35,v35,rfl,hk35⟩
      obtain ⟨ao35,p35,rfl⟩:=hk35.slice
      have Tl35:=Own.newD S34 hk35
      have bd35:=H35.bnd
      clear c35
      have S35:=S34.call hb35 H35
      obtain ⟨g0,cp0,hv0,HC0⟩:=(OwnL.row Tl35).resolve_left hne35
      injection hv0 with hv1 hv2 hv3
      subst hv1
      clear hv2 hv3
      have HC:=Lib.hid HC0
      clear HC0
      have lle : l35.length ≤ 65537:=by omega
      go_wp2_with fail
      go_loopw [6,7,8] (fun v6 v7 v8 wr => ∃ j : Nat,j ≤ l35.length ∧ v8 = .int .i64 j ∧ v6 = .bool ((l35.take j).all isNameT) ∧ v7 = .bool ((l35.take j).all isPlaceT) ∧ wr = w35) (fun _ _ v8 _ => l35.length - (intOf v8).toNat)
      case atStart => exact ⟨0,Nat.zero_le _,rfl,by simp,by simp,rfl⟩
      case round =>
       obtain ⟨j,hj,rfl,rfl,rfl,rfl⟩:=hrel
       by_cases hlt : j < l35.length
       · obtain ⟨t,ht⟩ : ∃ t,l35[j]? = some t:=⟨_,List.getElem?_eq_getElem hlt⟩
         obtain ⟨x0,x1⟩:=HC.out j t ht
         have A6:=Lib.hid (all_take_succ (p:=isNameT) ht)
         have A7:=Lib.hid (all_take_succ (p:=isPlaceT) ht)
         obtain ⟨kd,tx,nm,ks⟩:=t
         replace x0 : wr.cell? ⟨g0,j * 4,none⟩ = some (.int .i64 kd):=x0
         replace x1 : wr.cell? ⟨g0,j * 4 + 1,none⟩ = some (.string ⟨tx.toArray⟩):=x1
         clear ht
         have j0 : (0 : Int) ≤ (j : Int):=by omega
         have j1 : (j : Int) < (l35.length : Int):=by omega
         have jw : IntKind.i64.wrap ((j : Int) + 1) = (j : Int) + 1:=by rw [IntKind.wrap_i64]; omega
         generalize (l35.take j).all isNameT = a at *
         generalize (l35.take j).all isPlaceT = b at *
         cases a with
         | true =>
          cases b with
          | true =>
           by_cases k44 : kd = 44
           · subst k44
             have e6 : Hid ((l35.take (j + 1)).all isNameT = true):=Lib.hid (A6.out.trans (by simp [isNameT,Tr.kind]))
             have e7 : Hid ((l35.take (j + 1)).all isPlaceT = true):=Lib.hid (A7.out.trans (by simp [isPlaceT,Tr.kind]))
             clear A6 A7
             go_wp2
             go_roundw
             case rel => exact ⟨j + 1,by omega,by go_num,by rw [e6.out],by rw [e7.out],by first | rfl | trivial⟩
             case measure => simp [intOf]; omega
           by_cases k48 : kd = 48
           · subst k48
             clear k44
             have e6 : Hid ((l35.take (j + 1)).all isNameT = false):=Lib.hid (A6.out.trans (by simp [isNameT,Tr.kind]))
             have e7 : Hid ((l35.take (j + 1)).all isPlaceT = true):=Lib.hid (A7.out.trans (by simp [isPlaceT,Tr.kind]))
             clear A6 A7
             go_wp2
             go_roundw
             case rel => exact ⟨j + 1,by omega,by go_num,by rw [e6.out],by rw [e7.out],by first | rfl | trivial⟩
             case measure => simp [intOf]; omega
           by_cases k49 : kd = 49
           · subst k49
             clear k44 k48
             have e6 : Hid ((l35.take (j + 1)).all isNameT = false):=Lib.hid (A6.out.trans (by simp [isNameT,Tr.kind]))
             have e7 : Hid ((l35.take (j + 1)).all isPlaceT = true):=Lib.hid (A7.out.trans (by simp [isPlaceT,Tr.kind]))
             clear A6 A7
             go_wp2
             go_roundw
             case rel => exact ⟨j + 1,by omega,by go_num,by rw [e6.out],by rw [e7.out],by first | rfl | trivial⟩
             case measure => simp [intOf]; omega
           by_cases k52 : kd = 52
           · subst k52
             clear k44 k48 k49
             by_cases hx : tx = [42]
             · subst hx
               have e6 : Hid ((l35.take (j + 1)).all isNameT = false):=Lib.hid (A6.out.trans (by simp [isNameT,Tr.kind]))
               have e7 : Hid ((l35.take (j + 1)).all isPlaceT = true):=Lib.hid (A7.out.trans (by simp [isPlaceT,Tr.kind,Tr.text]))
               clear A6 A7
               go_wp2
               go_roundw
               case rel => exact ⟨j + 1,by omega,by go_num,by rw [e6.out],by rw [e7.out],by first | rfl | trivial⟩
               case measure => simp [intOf]; omega
             · have hx1 : (tx == [42]) = false:=by simpa using hx
               have e6 : Hid ((l35.take (j + 1)).all isNameT = false):=Lib.hid (A6.out.trans (by simp [isNameT,Tr.kind]))
               have e7 : Hid ((l35.take (j + 1)).all isPlaceT = false):=Lib.hid (A7.out.trans (by simp [isPlaceT,Tr.kind,Tr.text,hx]))
               clear A6 A7
               go_wp2
               go_roundw
               case rel => exact ⟨j + 1,by omega,by go_num,by rw [e6.out],by rw [e7.out],by first | rfl | trivial⟩
               case measure => simp [intOf]; omega
           have q44 : (kd == 44) = false:=by simpa using k44
           have q48 : (kd == 48) = false:=by simpa using k48
           have q49 : (kd == 49) = false:=by simpa using k49
           have q52 : (kd == 52) = false:=by simpa using k52
           have e6 : Hid ((l35.take (j + 1)).all isNameT = false):=Lib.hid (A6.out.trans (by simp [isNameT,Tr.kind,k44]))
           have e7 : Hid ((l35.take (j + 1)).all isPlaceT = false):=Lib.hid (A7.out.trans (by simp [isPlaceT,Tr.kind,k44,k48,k49,k52]))
           clear A6 A7
           go_wp2
           go_roundw
           case rel => exact ⟨j + 1,by omega,by go_num,by rw [e6.out],by rw [e7.out],by first | rfl | trivial⟩
           case measure => simp [intOf]; omega
          | false =>
           by_cases k44 : kd = 44
           · subst k44
             have e6 : Hid ((l35.take (j + 1)).all isNameT = true):=Lib.hid (A6.out.trans (by simp [isNameT,Tr.kind]))
             have e7 : Hid ((l35.take (j + 1)).all isPlaceT = false):=Lib.hid (A7.out.trans (by simp))
             clear A6 A7
             go_wp2
             go_roundw
             case rel => exact ⟨j + 1,by omega,by go_num,by rw [e6.out],by rw [e7.out],by first | rfl | trivial⟩
             case measure => simp [intOf]; omega
           by_cases k48 : kd = 48
           · subst k48
             clear k44
             have e6 : Hid ((l35.take (j + 1)).all isNameT = false):=Lib.hid (A6.out.trans (by simp [isNameT,Tr.kind]))
             have e7 : Hid ((l35.take (j + 1)).all isPlaceT = false):=Lib.hid (A7.out.trans (by simp))
             clear A6 A7
             go_wp2
             go_roundw
             case rel => exact ⟨j + 1,by omega,by go_num,by rw [e6.out],by rw [e7.out],by first | rfl | trivial⟩
             case measure => simp [intOf]; omega
           by_cases k49 : kd = 49
           · subst k49
             clear k44 k48
             have e6 : Hid ((l35.take (j + 1)).all isNameT = false):=Lib.hid (A6.out.trans (by simp [isNameT,Tr.kind]))
             have e7 : Hid ((l35.take (j + 1)).all isPlaceT = false):=Lib.hid (A7.out.trans (by simp))
             clear A6 A7
             go_wp2
             go_roundw
             case rel => exact ⟨j + 1,by omega,by go_num,by rw [e6.out],by rw [e7.out],by first | rfl | trivial⟩
             case measure => simp [intOf]; omega
           by_cases k52 : kd = 52
           · subst k52
             clear k44 k48 k49
             by_cases hx : tx = [42]
             · subst hx
               have e6 : Hid ((l35.take (j + 1)).all isNameT = false):=Lib.hid (A6.out.trans (by simp [isNameT,Tr.kind]))
               have e7 : Hid ((l35.take (j + 1)).all isPlaceT = false):=Lib.hid (A7.out.trans (by simp))
               clear A6 A7
               go_wp2
               go_roundw
               case rel => exact ⟨j + 1,by omega,by go_num,by rw [e6.out],by rw [e7.out],by first | rfl | trivial⟩
               case measure => simp [intOf]; omega
             · have hx1 : (tx == [42]) = false:=by simpa using hx
               have e6 : Hid ((l35.take (j + 1)).all isNameT = false):=Lib.hid (A6.out.trans (by simp [isNameT,Tr.kind]))
               have e7 : Hid ((l35.take (j + 1)).all isPlaceT = false):=Lib.hid (A7.out.trans (by simp))
               clear A6 A7
               go_wp2
               go_roundw
               case rel => exact ⟨j + 1,by omega,by go_num,by rw [e6.out],by rw [e7.out],by first | rfl | trivial⟩
               case measure => simp [intOf]; omega
           have q44 : (kd == 44) = false:=by simpa using k44
           have q48 : (kd == 48) = false:=by simpa using k48
           have q49 : (kd == 49) = false:=by simpa using k49
           have q52 : (kd == 52) = false:=by simpa using k52
           have e6 : Hid ((l35.take (j + 1)).all isNameT = false):=Lib.hid (A6.out.trans (by simp [isNameT,Tr.kind,k44]))
           have e7 : Hid ((l35.take (j + 1)).all isPlaceT = false):=Lib.hid (A7.out.trans (by simp))
           clear A6 A7
           go_wp2
           go_roundw
           case rel => exact ⟨j + 1,by omega,by go_num,by rw [e6.out],by rw [e7.out],by first | rfl | trivial⟩
           case measure => simp [intOf]; omega
         | false =>
          cases b with
          | true =>
           by_cases k44 : kd = 44
           · subst k44
             have e6 : Hid ((l35.take (j + 1)).all isNameT = false):=Lib.hid (A6.out.trans (by simp))
             have e7 : Hid ((l35.take (j + 1)).all isPlaceT = true):=Lib.hid (A7.out.trans (by simp [isPlaceT,Tr.kind]))
             clear A6 A7
             go_wp2
             go_roundw
             case rel => exact ⟨j + 1,by omega,by go_num,by rw [e6.out],by rw [e7.out],by first | rfl | trivial⟩
             case measure => simp [intOf]; omega
           by_cases k48 : kd = 48
           · subst k48
             clear k44
             have e6 : Hid ((l35.take (j + 1)).all isNameT = false):=Lib.hid (A6.out.trans (by simp))
             have e7 : Hid ((l35.take (j + 1)).all isPlaceT = true):=Lib.hid (A7.out.trans (by simp [isPlaceT,Tr.kind]))
             clear A6 A7
             go_wp2
             go_roundw
             case rel => exact ⟨j + 1,by omega,by go_num,by rw [e6.out],by rw [e7.out],by first | rfl | trivial⟩
             case measure => simp [intOf]; omega
           by_cases k49 : kd = 49
           · subst k49
             clear k44 k48
             have e6 : Hid ((l35.take (j + 1)).all isNameT = false):=Lib.hid (A6.out.trans (by simp))
             have e7 : Hid ((l35.take (j + 1)).all isPlaceT = true):=Lib.hid (A7.out.trans (by simp [isPlaceT,Tr.kind]))
             clear A6 A7
             go_wp2
             go_roundw
             case rel => exact ⟨j + 1,by omega,by go_num,by rw [e6.out],by rw [e7.out],by first | rfl | trivial⟩
             case measure => simp [intOf]; omega
           by_cases k52 : kd = 52
           · subst k52
             clear k44 k48 k49
             by_cases hx : tx = [42]
             · subst hx
               have e6 : Hid ((l35.take (j + 1)).all isNameT = false):=Lib.hid (A6.out.trans (by simp))
               have e7 : Hid ((l35.take (j + 1)).all isPlaceT = true):=Lib.hid (A7.out.trans (by simp [isPlaceT,Tr.kind,Tr.text]))
               clear A6 A7
               go_wp2
               go_roundw
               case rel => exact ⟨j + 1,by omega,by go_num,by rw [e6.out],by rw [e7.out],by first | rfl | trivial⟩
               case measure => simp [intOf]; omega
             · have hx1 : (tx == [42]) = false:=by simpa using hx
               have e6 : Hid ((l35.take (j + 1)).all isNameT = false):=Lib.hid (A6.out.trans (by simp))
               have e7 : Hid ((l35.take (j + 1)).all isPlaceT = false):=Lib.hid (A7.out.trans (by simp [isPlaceT,Tr.kind,Tr.text,hx]))
               clear A6 A7
               go_wp2
               go_roundw
               case rel => exact ⟨j + 1,by omega,by go_num,by rw [e6.out],by rw [e7.out],by first | rfl | trivial⟩
               case measure => simp [intOf]; omega
           have q44 : (kd == 44) = false:=by simpa using k44
           have q48 : (kd == 48) = false:=by simpa using k48
           have q49 : (kd == 49) = false:=by simpa using k49
           have q52 : (kd == 52) = false:=by simpa using k52
           have e6 : Hid ((l35.take (j + 1)).all isNameT = false):=Lib.hid (A6.out.trans (by simp))
           have e7 : Hid ((l35.take (j + 1)).all isPlaceT = false):=Lib.hid (A7.out.trans (by simp [isPlaceT,Tr.kind,k44,k48,k49,k52]))
           clear A6 A7
           go_wp2
           go_roundw
           case rel => exact ⟨j + 1,by omega,by go_num,by rw [e6.out],by rw [e7.out],by first | rfl | trivial⟩
           case measure => simp [intOf]; omega
          | false =>
           by_cases k44 : kd = 44
           · subst k44
             have e6 : Hid ((l35.take (j + 1)).all isNameT = false):=Lib.hid (A6.out.trans (by simp))
             have e7 : Hid ((l35.take (j + 1)).all isPlaceT = false):=Lib.hid (A7.out.trans (by simp))
             clear A6 A7
             go_wp2
             go_roundw
             case rel => exact ⟨j + 1,by omega,by go_num,by rw [e6.out],by rw [e7.out],by first | rfl | trivial⟩
             case measure => simp [intOf]; omega
           by_cases k48 : kd = 48
           · subst k48
             clear k44
             have e6 : Hid ((l35.take (j + 1)).all isNameT = false):=Lib.hid (A6.out.trans (by simp))
             have e7 : Hid ((l35.take (j + 1)).all isPlaceT = false):=Lib.hid (A7.out.trans (by simp))
             clear A6 A7
             go_wp2
             go_roundw
             case rel => exact ⟨j + 1,by omega,by go_num,by rw [e6.out],by rw [e7.out],by first | rfl | trivial⟩
             case measure => simp [intOf]; omega
           by_cases k49 : kd = 49
           · subst k49
             clear k44 k48
             have e6 : Hid ((l35.take (j + 1)).all isNameT = false):=Lib.hid (A6.out.trans (by simp))
             have e7 : Hid ((l35.take (j + 1)).all isPlaceT = false):=Lib.hid (A7.out.trans (by simp))
             clear A6 A7
             go_wp2
             go_roundw
             case rel => exact ⟨j + 1,by omega,by go_num,by rw [e6.out],by rw [e7.out],by first | rfl | trivial⟩
             case measure => simp [intOf]; omega
           by_cases k52 : kd = 52
           · subst k52
             clear k44 k48 k49
             by_cases hx : tx = [42]
             · subst hx
               have e6 : Hid ((l35.take (j + 1)).all isNameT = false):=Lib.hid (A6.out.trans (by simp))
               have e7 : Hid ((l35.take (j + 1)).all isPlaceT = false):=Lib.hid (A7.out.trans (by simp))
               clear A6 A7
               go_wp2
               go_roundw
               case rel => exact ⟨j + 1,by omega,by go_num,by rw [e6.out],by rw [e7.out],by first | rfl | trivial⟩
               case measure => simp [intOf]; omega
             · have hx1 : (tx == [42]) = false:=by simpa using hx
               have e6 : Hid ((l35.take (j + 1)).all isNameT = false):=Lib.hid (A6.out.trans (by simp))
               have e7 : Hid ((l35.take (j + 1)).all isPlaceT = false):=Lib.hid (A7.out.trans (by simp))
               clear A6 A7
               go_wp2
               go_roundw
               case rel => exact ⟨j + 1,by omega,by go_num,by rw [e6.out],by rw [e7.out],by first | rfl | trivial⟩
               case measure => simp [intOf]; omega
           have q44 : (kd == 44) = false:=by simpa using k44
           have q48 : (kd == 48) = false:=by simpa using k48
           have q49 : (kd == 49) = false:=by simpa using k49
           have q52 : (kd == 52) = false:=by simpa using k52
           have e6 : Hid ((l35.take (j + 1)).all isNameT = false):=Lib.hid (A6.out.trans (by simp))
           have e7 : Hid ((l35.take (j + 1)).all isPlaceT = false):=Lib.hid (A7.out.trans (by simp))
           clear A6 A7
           go_wp2
           go_roundw
           case rel => exact ⟨j + 1,by omega,by go_num,by rw [e6.out],by rw [e7.out],by first | rfl | trivial⟩
           case measure => simp [intOf]; omega
       · obtain rfl : j = l35.length:=by omega
         rw [List.take_length]
         clear hj hlt
         obtain ⟨a,hA⟩ : ∃ z,l35.all isNameT = z:=⟨_,rfl⟩
         obtain ⟨b,hB⟩ : ∃ z,l35.all isPlaceT = z:=⟨_,rfl⟩
         rw [hA,hB]
         have EA:=Lib.hid hA
         have EB:=Lib.hid hB
         clear hA hB
         go_wp2_with fail
         refine (rnode_any 23 [] _ _ _ _).mono ?_
         rintro e w36 ⟨rfl,hd36⟩
         have hb36 : But X.P wr.heap.size wr w36:=But.of_below hd36
         have H36:=S35.rdr.below hd36 (Nat.le_refl _)
         clear hd36
         have S36:=S35.call hb36 H36
         have Tl35_36:=Tl35.mv S35 hb36
         have Tt36:=Tre.leaf w w36 23 [] 0 none 0
         have Ql_0 : OwnQ (fun b => b ≠ w36.heap.size) w36 (w.heap.size + 1) (.slice (some ⟨g0,0,none⟩) l35.length p35) l35:=OwnQ.of Tl35_36 (fun b _ hb => Nat.ne_of_lt hb)
         have Nn_37:=NBox.new (X:=X) (k:=23) (s:=[]) (num:=0) (OwnL.nil w36 _) S36.lt
         have hb38:=but_alloc w36 X.P (.cells #[.int .i64 23,.string ⟨([] : List UInt8).toArray⟩,.int .i64 0,.slice none 0 0] 24)
         have H38:=S36.rdr.alloc (.cells #[.int .i64 23,.string ⟨([] : List UInt8).toArray⟩,.int .i64 0,.slice none 0 0] 24)
         have S38:=S36.call hb38 H38
         have Ql_38:=Ql_0.mv S36 hb38
         cases hm39 : isV X.l s35 [58,61] with
         | true =>
          have hx39:=now_of hm39
          have hl39:=isV_at (by decide) hm39 S38.rdr.le
          have X39:=Lib.hid hx39
          have E39:=Lib.hid hm39
          clear hm39 hx39
          cases a with
          | true =>
           go_wp2_with fail
           refine (nowX_any X (w36.alloc (.cells #[.int .i64 23,.string ⟨([] : List UInt8).toArray⟩,.int .i64 0,.slice none 0 0] 24)) s35 false S38.rdr [58,61] X39.out).mono ?_
           rintro e w40 ⟨rfl,hd40⟩
           have hb40 : But X.P (w36.alloc (.cells #[.int .i64 23,.string ⟨([] : List UInt8).toArray⟩,.int .i64 0,.slice none 0 0] 24)).heap.size (w36.alloc (.cells #[.int .i64 23,.string ⟨([] : List UInt8).toArray⟩,.int .i64 0,.slice none 0 0] 24)) w40:=But.of_below hd40
           have H40:=S38.rdr.below hd40 (Nat.le_refl _)
           clear hd40
           have S40:=S38.call hb40 H40
           have Nn_40:=Nn_37.mv S38 hb40
           have Ql_40:=Ql_38.mv S38 hb40
           obtain ⟨zu410,zu411,zu412,zu413,zu41f⟩:=Nn_40.cells
           have zu41g0:=zu41f 0
           have zu41g1:=zu41f 1
           have zu41g2:=zu41f 2
           have zu41g3:=zu41f 3
           clear zu41f
           have hpx42:=(Put.refl (w36.heap.size) w40).setCell 0 (.int .i64 22)
           have S42:=S40.put hpx42 Nn_40.lt
           have Nn_42:=Nn_40.setKind 22
           have Ql_42:=Ql_40.putQ hpx42
           have cA43:=S42.rdr.c1
           have fA43:=S42.rdr.fz 1
           have bA43:=S42.rdr.bnd
           have H43:=S42.rdr.step hl39.2
           have hb43:=but_set (w40.setCell ⟨w36.heap.size,0,none⟩ (.int .i64 22)) X.P (w40.setCell ⟨w36.heap.size,0,none⟩ (.int .i64 22)).heap.size 1 (.int .i64 ((s35.1 : Int) + 1))
           obtain ⟨s43,hs43⟩ : ∃ z,stepV s35 = z:=⟨_,rfl⟩
           rw [hs43] at H43
           have u43 : Up s35 s43:=hs43 ▸ (su_step s35).up
           have q43 : mS X.toks.length s43 + 3 ≤ mS X.toks.length s35:=hs43 ▸ mS_step hl39.1 hl39.2
           have a43 : s35.1 + 1 = s43.1:=hs43 ▸ rfl
           have a43a:=Nat.le_of_eq a43
           have a43b:=Nat.le_of_eq a43.symm
           clear a43
           have E43:=Lib.hid hs43
           clear hs43
           have S43:=S42.call hb43 H43
           have Nn_43:=Nn_42.mv S42 hb43
           have Ql_43:=Ql_42.mv S42 hb43
           obtain ⟨zu440,zu441,zu442,zu443,zu44f⟩:=Nn_43.cells
           have zu44g0:=zu44f 0
           have zu44g1:=zu44f 1
           have zu44g2:=zu44f 2
           have zu44g3:=zu44f 3
           clear zu44f
           have hpx45:=(Put.refl (w36.heap.size) ((w40.setCell ⟨w36.heap.size,0,none⟩ (.int .i64 22)).setCell ⟨X.P,1,none⟩ (.int .i64 ((s35.1 : Int) + 1)))).setCell 2 (.int .i64 (l35.length : Int))
           have S45:=S43.put hpx45 Nn_43.lt
           have Nn_45:=Nn_43.setNum (l35.length : Int)
           have Ql_45:=Ql_43.putQ hpx45
           have lmn:=Nn_45.ltz
           have lsn:=S45.lt
           have loQ:=OwnL.lt Ql_45.own
           have c47:=rexprs_any X n A (((w40.setCell ⟨w36.heap.size,0,none⟩ (.int .i64 22)).setCell ⟨X.P,1,none⟩ (.int .i64 ((s35.1 : Int) + 1))).setCell ⟨w36.heap.size,2,none⟩ (.int .i64 (l35.length : Int))) s43 false S45.rdr (by omega)
           have u47:=up_commas (l:=X.l) (up_expr (upV X.l n) false) s43
           rcases hs47 : commasV X.l (exprV (vs X.l n) false) s43 with ⟨l47,s47⟩
           rw [hs47] at c47 u47
           have q47:=u47.mS (n:=X.toks.length)
           have a47:=u47.at_
           have E47:=Lib.hid hs47
           clear hs47
           go_wp2_with fail
           refine c47.mono ?_
           rintro e w47 ⟨hb47,H47,ll47,v47,rfl,hk47⟩
           obtain ⟨ao47,p47,rfl⟩:=hk47.slice
           have Tl47:=Own.newD S45 hk47
           have bd47:=H47.bnd
           clear c47
           have S47:=S45.call hb47 H47
           have Nn_47:=Nn_45.mv S45 hb47
           have Ql_47:=Ql_45.mv S45 hb47
           generalize (Value.slice (some ⟨g0,0,none⟩) l35.length p35) = VL at *
           have hz47:=hb47.size
           obtain ⟨zj470,zj471,zj472,zj473,zj47f⟩:=Nn_47.cells
           have zj47g0:=zj47f 0
           have zj47g1:=zj47f 1
           have zj47g2:=zj47f 2
           have zj47g3:=zj47f 3
           clear zj47f
           go_wp2_with (at_builtin; refine wpList_joinQ (by rfl) _ _ (by rfl) (by rfl) (by rfl) Ql_47 (OwnQ.of (Q:=fun b => b ≠ w36.heap.size) hk47 (fun b hb _ => by omega)) (by omega) (by omega) (by omega) (fun q hq => (loQ q hq).2) (by omega) ?_)
           intro aoJ cJ wJ hOJ hgJ
           have SJ:=S47.grown hgJ (fun q hq => (loQ q hq).1)
           have BJ : wJ.heap[w36.heap.size]? = _:=(hgJ.block w36.heap.size Nn_47.ltz (fun e => by obtain ⟨_,_,_,h3⟩:=Ql_47; exact h3 _ e.symm rfl)).trans Nn_47.blk
           obtain ⟨zJ0,zJ1,zJ2,zJ3,zJf⟩:=cells_of_blk BJ
           have zJg0:=zJf 0
           have zJg1:=zJf 1
           have zJg2:=zJf 2
           have zJg3:=zJf 3
           clear zJf
           have SK:=SJ.put ((Put.refl (w36.heap.size) wJ).setCell 3 (.slice aoJ (l35.length + l47.length) cJ)) Nn_47.lt
           have NK : NBox X w (wJ.setCell ⟨w36.heap.size,3,none⟩ (.slice aoJ (l35.length + l47.length) cJ)) (w36.heap.size) 22 [] (l35.length : Int) (.slice aoJ (l35.length + l47.length) cJ) (l35 ++ l47):=NBox.setKids (X:=X) BJ Nn_47.lt hOJ
           obtain ⟨zv480,zv481,zv482,zv483,zv48f⟩:=NK.cells
           have zv48g0:=zv48f 0
           have zv48g1:=zv48f 1
           have zv48g2:=zv48f 2
           have zv48g3:=zv48f 3
           clear zv48f
           have Tt48:=NK.tre
           have HR : Hid (lineV X.l (vs X.l n) s = ((.mk 22 [] (l35.length : Int) (l35 ++ l47)),s47)):=Lib.hid (by simp [lineV,bindV,E1.out,E15.out,E25.out,E29.out,E35.out,E39.out,EA.out,E43.out,E47.out,exprsV])
           obtain ⟨y0,y1,y2,y3,b0,b1,b2,b3,bf⟩:=SK.box.open
           have bf0:=bf 0
           have bf1:=bf 1
           have bf2:=bf 2
           have bf3:=bf 3
           clear bf
           go_wp2
           obtain ⟨Wf,hWf,hput,_,d0,d1,d2,d3⟩:=putN4 SK.box (.int .i64 22) (.string ⟨([] : List UInt8).toArray⟩) (.int .i64 (l35.length : Int)) (.slice aoJ (l35.length + l47.length) cJ)
           rw [hWf]
           exact bodyPost_ret (v:=.agg #[.int .i64 22,.string ⟨([] : List UInt8).toArray⟩,.int .i64 (l35.length : Int),.slice aoJ (l35.length + l47.length) cJ]) (by simp [results,Tryz.results113,go_sem,d0,d1,d2,d3]) rfl (OutR.of HR (SK.done Tt48 hput))
          | false =>
           go_wp2_with fail
           refine (nowX_any X (w36.alloc (.cells #[.int .i64 23,.string ⟨([] : List UInt8).toArray⟩,.int .i64 0,.slice none 0 0] 24)) s35 false S38.rdr [58,61] X39.out).mono ?_
           rintro e w49 ⟨rfl,hd49⟩
           have hb49 : But X.P (w36.alloc (.cells #[.int .i64 23,.string ⟨([] : List UInt8).toArray⟩,.int .i64 0,.slice none 0 0] 24)).heap.size (w36.alloc (.cells #[.int .i64 23,.string ⟨([] : List UInt8).toArray⟩,.int .i64 0,.slice none 0 0] 24)) w49:=But.of_below hd49
           have H49:=S38.rdr.below hd49 (Nat.le_refl _)
           clear hd49
           have S49:=S38.call hb49 H49
           have Nn_49:=Nn_37.mv S38 hb49
           have Ql_49:=Ql_38.mv S38 hb49
           go_wp2_with fail
           refine (nowX_any X w49 s35 false S49.rdr [58,61] X39.out).mono ?_
           rintro e w50 ⟨rfl,hd50⟩
           have hb50 : But X.P w49.heap.size w49 w50:=But.of_below hd50
           have H50:=S49.rdr.below hd50 (Nat.le_refl _)
           clear hd50
           have S50:=S49.call hb50 H50
           have Nn_50:=Nn_49.mv S49 hb50
           have Ql_50:=Ql_49.mv S49 hb50
           go_wp2_with fail
           refine (nowX_any X w50 s35 false S50.rdr [58,61] X39.out).mono ?_
           rintro e w51 ⟨rfl,hd51⟩
           have hb51 : But X.P w50.heap.size w50 w51:=But.of_below hd51
           have H51:=S50.rdr.below hd51 (Nat.le_refl _)
           clear hd51
           have S51:=S50.call hb51 H51
           have Nn_51:=Nn_50.mv S50 hb51
           have Ql_51:=Ql_50.mv S50 hb51
           have E52 : Hid (isV X.l s35 [61] = false):=Lib.hid (by simp only [isV,X39.out]; decide)
           have E53 : Hid (isV X.l s35 [59] = false):=Lib.hid (by simp only [isV,X39.out]; decide)
           have cA54:=S51.rdr.c2
           have fA54:=S51.rdr.fz 2
           have H54:=S51.rdr.bad
           have hb54:=but_set w51 X.P w51.heap.size 2 (.bool true)
           have S54:=S51.call hb54 H54
           have Nn_54:=Nn_51.mv S51 hb54
           have Ql_54:=Ql_51.mv S51 hb54
           obtain ⟨zv550,zv551,zv552,zv553,zv55f⟩:=Nn_54.cells
           have zv55g0:=zv55f 0
           have zv55g1:=zv55f 1
           have zv55g2:=zv55f 2
           have zv55g3:=zv55f 3
           clear zv55f
           have Tt55:=Nn_54.tre
           have HR : Hid (lineV X.l (vs X.l n) s = ((.mk 23 [] 0 []),(badV s35))):=Lib.hid (by simp [lineV,bindV,E1.out,E15.out,E25.out,E29.out,E35.out,E39.out,EA.out,E52.out,E53.out,exprsV])
           obtain ⟨y0,y1,y2,y3,b0,b1,b2,b3,bf⟩:=S54.box.open
           have bf0:=bf 0
           have bf1:=bf 1
           have bf2:=bf 2
           have bf3:=bf 3
           clear bf
           go_wp2
           obtain ⟨Wf,hWf,hput,_,d0,d1,d2,d3⟩:=putN4 S54.box (.int .i64 23) (.string ⟨([] : List UInt8).toArray⟩) (.int .i64 0) (.slice none 0 0)
           rw [hWf]
           exact bodyPost_ret (v:=.agg #[.int .i64 23,.string ⟨([] : List UInt8).toArray⟩,.int .i64 0,.slice none 0 0]) (by simp [results,Tryz.results113,go_sem,d0,d1,d2,d3]) rfl (OutR.of HR (S54.done Tt55 hput))
         | false =>
          have E39:=Lib.hid hm39
          clear hm39
          cases hm56 : isV X.l s35 [61] with
          | true =>
           have hx56:=now_of hm56
           have hl56:=isV_at (by decide) hm56 S38.rdr.le
           have X56:=Lib.hid hx56
           have E56:=Lib.hid hm56
           clear hm56 hx56
           cases b with
           | true =>
            go_wp2_with fail
            refine (nowX_any X (w36.alloc (.cells #[.int .i64 23,.string ⟨([] : List UInt8).toArray⟩,.int .i64 0,.slice none 0 0] 24)) s35 false S38.rdr [61] X56.out).mono ?_
            rintro e w57 ⟨rfl,hd57⟩
            have hb57 : But X.P (w36.alloc (.cells #[.int .i64 23,.string ⟨([] : List UInt8).toArray⟩,.int .i64 0,.slice none 0 0] 24)).heap.size (w36.alloc (.cells #[.int .i64 23,.string ⟨([] : List UInt8).toArray⟩,.int .i64 0,.slice none 0 0] 24)) w57:=But.of_below hd57
            have H57:=S38.rdr.below hd57 (Nat.le_refl _)
            clear hd57
            have S57:=S38.call hb57 H57
            have Nn_57:=Nn_37.mv S38 hb57
            have Ql_57:=Ql_38.mv S38 hb57
            go_wp2_with fail
            refine (nowX_any X w57 s35 false S57.rdr [61] X56.out).mono ?_
            rintro e w58 ⟨rfl,hd58⟩
            have hb58 : But X.P w57.heap.size w57 w58:=But.of_below hd58
            have H58:=S57.rdr.below hd58 (Nat.le_refl _)
            clear hd58
            have S58:=S57.call hb58 H58
            have Nn_58:=Nn_57.mv S57 hb58
            have Ql_58:=Ql_57.mv S57 hb58
            have cA59:=S58.rdr.c1
            have fA59:=S58.rdr.fz 1
            have bA59:=S58.rdr.bnd
            have H59:=S58.rdr.step hl56.2
            have hb59:=but_set w58 X.P w58.heap.size 1 (.int .i64 ((s35.1 : Int) + 1))
            obtain ⟨s59,hs59⟩ : ∃ z,stepV s35 = z:=⟨_,rfl⟩
            rw [hs59] at H59
            have u59 : Up s35 s59:=hs59 ▸ (su_step s35).up
            have q59 : mS X.toks.length s59 + 3 ≤ mS X.toks.length s35:=hs59 ▸ mS_step hl56.1 hl56.2
            have a59 : s35.1 + 1 = s59.1:=hs59 ▸ rfl
            have a59a:=Nat.le_of_eq a59
            have a59b:=Nat.le_of_eq a59.symm
            clear a59
            have E59:=Lib.hid hs59
            clear hs59
            have S59:=S58.call hb59 H59
            have Nn_59:=Nn_58.mv S58 hb59
            have Ql_59:=Ql_58.mv S58 hb59
            obtain ⟨zu600,zu601,zu602,zu603,zu60f⟩:=Nn_59.cells
            have zu60g0:=zu60f 0
            have zu60g1:=zu60f 1
            have zu60g2:=zu60f 2
            have zu60g3:=zu60f 3
            clear zu60f
            have hpx61:=(Put.refl (w36.heap.size) (w58.setCell ⟨X.P,1,none⟩ (.int .i64 ((s35.1 : Int) + 1)))).setCell 2 (.int .i64 (l35.length : Int))
            have S61:=S59.put hpx61 Nn_59.lt
            have Nn_61:=Nn_59.setNum (l35.length : Int)
            have Ql_61:=Ql_59.putQ hpx61
            have lmn:=Nn_61.ltz
            have lsn:=S61.lt
            have loQ:=OwnL.lt Ql_61.own
            have c63:=rexprs_any X n A ((w58.setCell ⟨X.P,1,none⟩ (.int .i64 ((s35.1 : Int) + 1))).setCell ⟨w36.heap.size,2,none⟩ (.int .i64 (l35.length : Int))) s59 false S61.rdr (by omega)
            have u63:=up_commas (l:=X.l) (up_expr (upV X.l n) false) s59
            rcases hs63 : commasV X.l (exprV (vs X.l n) false) s59 with ⟨l63,s63⟩
            rw [hs63] at c63 u63
            have q63:=u63.mS (n:=X.toks.length)
            have a63:=u63.at_
            have E63:=Lib.hid hs63
            clear hs63
            go_wp2_with fail
            refine c63.mono ?_
            rintro e w63 ⟨hb63,H63,ll63,v63,rfl,hk63⟩
            obtain ⟨ao63,p63,rfl⟩:=hk63.slice
            have Tl63:=Own.newD S61 hk63
            have bd63:=H63.bnd
            clear c63
            have S63:=S61.call hb63 H63
            have Nn_63:=Nn_61.mv S61 hb63
            have Ql_63:=Ql_61.mv S61 hb63
            generalize (Value.slice (some ⟨g0,0,none⟩) l35.length p35) = VL at *
            have hz63:=hb63.size
            obtain ⟨zj630,zj631,zj632,zj633,zj63f⟩:=Nn_63.cells
            have zj63g0:=zj63f 0
            have zj63g1:=zj63f 1
            have zj63g2:=zj63f 2
            have zj63g3:=zj63f 3
            clear zj63f
            go_wp2_with (at_builtin; refine wpList_joinQ (by rfl) _ _ (by rfl) (by rfl) (by rfl) Ql_63 (OwnQ.of (Q:=fun b => b ≠ w36.heap.size) hk63 (fun b hb _ => by omega)) (by omega) (by omega) (by omega) (fun q hq => (loQ q hq).2) (by omega) ?_)
            intro aoJ cJ wJ hOJ hgJ
            have SJ:=S63.grown hgJ (fun q hq => (loQ q hq).1)
            have BJ : wJ.heap[w36.heap.size]? = _:=(hgJ.block w36.heap.size Nn_63.ltz (fun e => by obtain ⟨_,_,_,h3⟩:=Ql_63; exact h3 _ e.symm rfl)).trans Nn_63.blk
            obtain ⟨zJ0,zJ1,zJ2,zJ3,zJf⟩:=cells_of_blk BJ
            have zJg0:=zJf 0
            have zJg1:=zJf 1
            have zJg2:=zJf 2
            have zJg3:=zJf 3
            clear zJf
            have SK:=SJ.put ((Put.refl (w36.heap.size) wJ).setCell 3 (.slice aoJ (l35.length + l63.length) cJ)) Nn_63.lt
            have NK : NBox X w (wJ.setCell ⟨w36.heap.size,3,none⟩ (.slice aoJ (l35.length + l63.length) cJ)) (w36.heap.size) 23 [] (l35.length : Int) (.slice aoJ (l35.length + l63.length) cJ) (l35 ++ l63):=NBox.setKids (X:=X) BJ Nn_63.lt hOJ
            obtain ⟨zv640,zv641,zv642,zv643,zv64f⟩:=NK.cells
            have zv64g0:=zv64f 0
            have zv64g1:=zv64f 1
            have zv64g2:=zv64f 2
            have zv64g3:=zv64f 3
            clear zv64f
            have Tt64:=NK.tre
            have HR : Hid (lineV X.l (vs X.l n) s = ((.mk 23 [] (l35.length : Int) (l35 ++ l63)),s63)):=Lib.hid (by simp [lineV,bindV,E1.out,E15.out,E25.out,E29.out,E35.out,E39.out,E56.out,EB.out,E59.out,E63.out,exprsV])
            obtain ⟨y0,y1,y2,y3,b0,b1,b2,b3,bf⟩:=SK.box.open
            have bf0:=bf 0
            have bf1:=bf 1
            have bf2:=bf 2
            have bf3:=bf 3
            clear bf
            go_wp2
            obtain ⟨Wf,hWf,hput,_,d0,d1,d2,d3⟩:=putN4 SK.box (.int .i64 23) (.string ⟨([] : List UInt8).toArray⟩) (.int .i64 (l35.length : Int)) (.slice aoJ (l35.length + l63.length) cJ)
            rw [hWf]
            exact bodyPost_ret (v:=.agg #[.int .i64 23,.string ⟨([] : List UInt8).toArray⟩,.int .i64 (l35.length : Int),.slice aoJ (l35.length + l63.length) cJ]) (by simp [results,Tryz.results113,go_sem,d0,d1,d2,d3]) rfl (OutR.of HR (SK.done Tt64 hput))
           | false =>
            go_wp2_with fail
            refine (nowX_any X (w36.alloc (.cells #[.int .i64 23,.string ⟨([] : List UInt8).toArray⟩,.int .i64 0,.slice none 0 0] 24)) s35 false S38.rdr [61] X56.out).mono ?_
            rintro e w65 ⟨rfl,hd65⟩
            have hb65 : But X.P (w36.alloc (.cells #[.int .i64 23,.string ⟨([] : List UInt8).toArray⟩,.int .i64 0,.slice none 0 0] 24)).heap.size (w36.alloc (.cells #[.int .i64 23,.string ⟨([] : List UInt8).toArray⟩,.int .i64 0,.slice none 0 0] 24)) w65:=But.of_below hd65
            have H65:=S38.rdr.below hd65 (Nat.le_refl _)
            clear hd65
            have S65:=S38.call hb65 H65
            have Nn_65:=Nn_37.mv S38 hb65
            have Ql_65:=Ql_38.mv S38 hb65
            go_wp2_with fail
            refine (nowX_any X w65 s35 false S65.rdr [61] X56.out).mono ?_
            rintro e w66 ⟨rfl,hd66⟩
            have hb66 : But X.P w65.heap.size w65 w66:=But.of_below hd66
            have H66:=S65.rdr.below hd66 (Nat.le_refl _)
            clear hd66
            have S66:=S65.call hb66 H66
            have Nn_66:=Nn_65.mv S65 hb66
            have Ql_66:=Ql_65.mv S65 hb66
            go_wp2_with fail
            refine (nowX_any X w66 s35 false S66.rdr [61] X56.out).mono ?_
            rintro e w67 ⟨rfl,hd67⟩
            have hb67 : But X.P w66.heap.size w66 w67:=But.of_below hd67
            have H67:=S66.rdr.below hd67 (Nat.le_refl _)
            clear hd67
            have S67:=S66.call hb67 H67
            have Nn_67:=Nn_66.mv S66 hb67
            have Ql_67:=Ql_66.mv S66 hb67
            have E68 : Hid (isV X.l s35 [59] = false):=Lib.hid (by simp only [isV,X56.out]; decide)
            have cA69:=S67.rdr.c2
            have fA69:=S67.rdr.fz 2
            have H69:=S67.rdr.bad
            have hb69:=but_set w67 X.P w67.heap.size 2 (.bool true)
            have S69:=S67.call hb69 H69
            have Nn_69:=Nn_67.mv S67 hb69
            have Ql_69:=Ql_67.mv S67 hb69
            obtain ⟨zv700,zv701,zv702,zv703,zv70f⟩:=Nn_69.cells
            have zv70g0:=zv70f 0
            have zv70g1:=zv70f 1
            have zv70g2:=zv70f 2
            have zv70g3:=zv70f 3
            clear zv70f
            have Tt70:=Nn_69.tre
            have HR : Hid (lineV X.l (vs X.l n) s = ((.mk 23 [] 0 []),(badV s35))):=Lib.hid (by simp [lineV,bindV,E1.out,E15.out,E25.out,E29.out,E35.out,E39.out,E56.out,EB.out,E68.out,exprsV])
            obtain ⟨y0,y1,y2,y3,b0,b1,b2,b3,bf⟩:=S69.box.open
            have bf0:=bf 0
            have bf1:=bf 1
            have bf2:=bf 2
            have bf3:=bf 3
            clear bf
            go_wp2
            obtain ⟨Wf,hWf,hput,_,d0,d1,d2,d3⟩:=putN4 S69.box (.int .i64 23) (.string ⟨([] : List UInt8).toArray⟩) (.int .i64 0) (.slice none 0 0)
            rw [hWf]
            exact bodyPost_ret (v:=.agg #[.int .i64 23,.string ⟨([] : List UInt8).toArray⟩,.int .i64 0,.slice none 0 0]) (by simp [results,Tryz.results113,go_sem,d0,d1,d2,d3]) rfl (OutR.of HR (S69.done Tt70 hput))
          | false =>
           have E56:=Lib.hid hm56
           clear hm56
           cases hm71 : isV X.l s35 [59] with
           | true =>
            have hx71:=now_of hm71
            have hl71:=isV_at (by decide) hm71 S38.rdr.le
            have X71:=Lib.hid hx71
            have E71:=Lib.hid hm71
            clear hm71 hx71
            by_cases hl1 : l35.length = 1
            · obtain ⟨c,rfl⟩:=List.length_eq_one_iff.mp hl1
              obtain ⟨x0,_⟩:=HC.out 0 c rfl
              obtain ⟨kd,tx,nm,ks⟩:=c
              replace x0 : wr.cell? ⟨g0,0,none⟩ = some (.int .i64 kd):=by simpa [Tr.kind] using x0
              have xQ:=Ql_38.cell0
              replace xQ : (w36.alloc (.cells #[.int .i64 23,.string ⟨([] : List UInt8).toArray⟩,.int .i64 0,.slice none 0 0] 24)).cell? ⟨g0,0,none⟩ = some (.int .i64 kd):=xQ
              clear x0 hl1
              by_cases k51 : kd = 51
              · subst k51
                go_wp2_with fail
                refine (nowX_any X (w36.alloc (.cells #[.int .i64 23,.string ⟨([] : List UInt8).toArray⟩,.int .i64 0,.slice none 0 0] 24)) s35 false S38.rdr [59] X71.out).mono ?_
                rintro e w72 ⟨rfl,hd72⟩
                have hb72 : But X.P (w36.alloc (.cells #[.int .i64 23,.string ⟨([] : List UInt8).toArray⟩,.int .i64 0,.slice none 0 0] 24)).heap.size (w36.alloc (.cells #[.int .i64 23,.string ⟨([] : List UInt8).toArray⟩,.int .i64 0,.slice none 0 0] 24)) w72:=But.of_below hd72
                have H72:=S38.rdr.below hd72 (Nat.le_refl _)
                clear hd72
                have S72:=S38.call hb72 H72
                have Nn_72:=Nn_37.mv S38 hb72
                have Ql_72:=Ql_38.mv S38 hb72
                go_wp2_with fail
                refine (nowX_any X w72 s35 false S72.rdr [59] X71.out).mono ?_
                rintro e w73 ⟨rfl,hd73⟩
                have hb73 : But X.P w72.heap.size w72 w73:=But.of_below hd73
                have H73:=S72.rdr.below hd73 (Nat.le_refl _)
                clear hd73
                have S73:=S72.call hb73 H73
                have Nn_73:=Nn_72.mv S72 hb73
                have Ql_73:=Ql_72.mv S72 hb73
                go_wp2_with fail
                refine (nowX_any X w73 s35 false S73.rdr [59] X71.out).mono ?_
                rintro e w74 ⟨rfl,hd74⟩
                have hb74 : But X.P w73.heap.size w73 w74:=But.of_below hd74
                have H74:=S73.rdr.below hd74 (Nat.le_refl _)
                clear hd74
                have S74:=S73.call hb74 H74
                have Nn_74:=Nn_73.mv S73 hb74
                have Ql_74:=Ql_73.mv S73 hb74
                have xR75:=Ql_74.cell0
                replace xR75 : w74.cell? ⟨g0,0,none⟩ = some (.int .i64 51):=xR75
                have Tq:=OwnL.kt Ql_74.own 24 [] 0
                go_wp2_with fail
                refine (rnode_any 24 [] _ _ _ _).mono ?_
                rintro e w76 ⟨rfl,hd76⟩
                have hb76 : But X.P w74.heap.size w74 w76:=But.of_below hd76
                have H76:=S74.rdr.below hd76 (Nat.le_refl _)
                clear hd76
                have S76:=S74.call hb76 H76
                have Nn_76:=Nn_74.mv S74 hb76
                have Ql_76:=Ql_74.mv S74 hb76
                have Tt76 : Tre w w76 (.mk 24 [] 0 [.mk 51 tx nm ks]) _:=OwnL.kt Ql_76.own 24 [] 0
                clear Tq
                have HR : Hid (lineV X.l (vs X.l n) s = ((.mk 24 [] 0 [.mk 51 tx nm ks]),s35)):=Lib.hid (by simp [lineV,bindV,E1.out,E15.out,E25.out,E29.out,E35.out,E39.out,E56.out,E71.out,exprsV,isCallT,Tr.kind])
                obtain ⟨y0,y1,y2,y3,b0,b1,b2,b3,bf⟩:=S76.box.open
                have bf0:=bf 0
                have bf1:=bf 1
                have bf2:=bf 2
                have bf3:=bf 3
                clear bf
                go_wp2
                obtain ⟨Wf,hWf,hput,_,d0,d1,d2,d3⟩:=putN4 S76.box (.int .i64 24) (.string ⟨([] : List UInt8).toArray⟩) (.int .i64 0) (.slice (some ⟨g0,0,none⟩) 1 p35)
                rw [hWf]
                exact bodyPost_ret (v:=.agg #[.int .i64 24,.string ⟨([] : List UInt8).toArray⟩,.int .i64 0,.slice (some ⟨g0,0,none⟩) 1 p35]) (by simp [results,Tryz.results113,go_sem,d0,d1,d2,d3]) rfl (OutR.of HR (S76.done Tt76 hput))
              · have q51 : (kd == 51) = false:=by simpa using k51
                go_wp2_with fail
                refine (nowX_any X (w36.alloc (.cells #[.int .i64 23,.string ⟨([] : List UInt8).toArray⟩,.int .i64 0,.slice none 0 0] 24)) s35 false S38.rdr [59] X71.out).mono ?_
                rintro e w77 ⟨rfl,hd77⟩
                have hb77 : But X.P (w36.alloc (.cells #[.int .i64 23,.string ⟨([] : List UInt8).toArray⟩,.int .i64 0,.slice none 0 0] 24)).heap.size (w36.alloc (.cells #[.int .i64 23,.string ⟨([] : List UInt8).toArray⟩,.int .i64 0,.slice none 0 0] 24)) w77:=But.of_below hd77
                have H77:=S38.rdr.below hd77 (Nat.le_refl _)
                clear hd77
                have S77:=S38.call hb77 H77
                have Nn_77:=Nn_37.mv S38 hb77
                have Ql_77:=Ql_38.mv S38 hb77
                go_wp2_with fail
                refine (nowX_any X w77 s35 false S77.rdr [59] X71.out).mono ?_
                rintro e w78 ⟨rfl,hd78⟩
                have hb78 : But X.P w77.heap.size w77 w78:=But.of_below hd78
                have H78:=S77.rdr.below hd78 (Nat.le_refl _)
                clear hd78
                have S78:=S77.call hb78 H78
                have Nn_78:=Nn_77.mv S77 hb78
                have Ql_78:=Ql_77.mv S77 hb78
                go_wp2_with fail
                refine (nowX_any X w78 s35 false S78.rdr [59] X71.out).mono ?_
                rintro e w79 ⟨rfl,hd79⟩
                have hb79 : But X.P w78.heap.size w78 w79:=But.of_below hd79
                have H79:=S78.rdr.below hd79 (Nat.le_refl _)
                clear hd79
                have S79:=S78.call hb79 H79
                have Nn_79:=Nn_78.mv S78 hb79
                have Ql_79:=Ql_78.mv S78 hb79
                have xR80:=Ql_79.cell0
                replace xR80 : w79.cell? ⟨g0,0,none⟩ = some (.int .i64 kd):=xR80
                have cA81:=S79.rdr.c2
                have fA81:=S79.rdr.fz 2
                have H81:=S79.rdr.bad
                have hb81:=but_set w79 X.P w79.heap.size 2 (.bool true)
                have S81:=S79.call hb81 H81
                have Nn_81:=Nn_79.mv S79 hb81
                have Ql_81:=Ql_79.mv S79 hb81
                obtain ⟨zv820,zv821,zv822,zv823,zv82f⟩:=Nn_81.cells
                have zv82g0:=zv82f 0
                have zv82g1:=zv82f 1
                have zv82g2:=zv82f 2
                have zv82g3:=zv82f 3
                clear zv82f
                have Tt82:=Nn_81.tre
                have HR : Hid (lineV X.l (vs X.l n) s = ((.mk 23 [] 0 []),(badV s35))):=Lib.hid (by simp [lineV,bindV,E1.out,E15.out,E25.out,E29.out,E35.out,E39.out,E56.out,E71.out,exprsV,isCallT,Tr.kind,k51])
                obtain ⟨y0,y1,y2,y3,b0,b1,b2,b3,bf⟩:=S81.box.open
                have bf0:=bf 0
                have bf1:=bf 1
                have bf2:=bf 2
                have bf3:=bf 3
                clear bf
                go_wp2
                obtain ⟨Wf,hWf,hput,_,d0,d1,d2,d3⟩:=putN4 S81.box (.int .i64 23) (.string ⟨([] : List UInt8).toArray⟩) (.int .i64 0) (.slice none 0 0)
                rw [hWf]
                exact bodyPost_ret (v:=.agg #[.int .i64 23,.string ⟨([] : List UInt8).toArray⟩,.int .i64 0,.slice none 0 0]) (by simp [results,Tryz.results113,go_sem,d0,d1,d2,d3]) rfl (OutR.of HR (S81.done Tt82 hput))
            · have q1 : ((l35.length : Int) == 1) = false:=by simp; omega
              have q2 : (l35.length == 1) = false:=by simp; omega
              have EO:=Lib.hid (oneCall_ne _ hl1)
              clear hl1
              go_wp2_with fail
              refine (nowX_any X (w36.alloc (.cells #[.int .i64 23,.string ⟨([] : List UInt8).toArray⟩,.int .i64 0,.slice none 0 0] 24)) s35 false S38.rdr [59] X71.out).mono ?_
              rintro e w83 ⟨rfl,hd83⟩
              have hb83 : But X.P (w36.alloc (.cells #[.int .i64 23,.string ⟨([] : List UInt8).toArray⟩,.int .i64 0,.slice none 0 0] 24)).heap.size (w36.alloc (.cells #[.int .i64 23,.string ⟨([] : List UInt8).toArray⟩,.int .i64 0,.slice none 0 0] 24)) w83:=But.of_below hd83
              have H83:=S38.rdr.below hd83 (Nat.le_refl _)
              clear hd83
              have S83:=S38.call hb83 H83
              have Nn_83:=Nn_37.mv S38 hb83
              have Ql_83:=Ql_38.mv S38 hb83
              go_wp2_with fail
              refine (nowX_any X w83 s35 false S83.rdr [59] X71.out).mono ?_
              rintro e w84 ⟨rfl,hd84⟩
              have hb84 : But X.P w83.heap.size w83 w84:=But.of_below hd84
              have H84:=S83.rdr.below hd84 (Nat.le_refl _)
              clear hd84
              have S84:=S83.call hb84 H84
              have Nn_84:=Nn_83.mv S83 hb84
              have Ql_84:=Ql_83.mv S83 hb84
              go_wp2_with fail
              refine (nowX_any X w84 s35 false S84.rdr [59] X71.out).mono ?_
              rintro e w85 ⟨rfl,hd85⟩
              have hb85 : But X.P w84.heap.size w84 w85:=But.of_below hd85
              have H85:=S84.rdr.below hd85 (Nat.le_refl _)
              clear hd85
              have S85:=S84.call hb85 H85
              have Nn_85:=Nn_84.mv S84 hb85
              have Ql_85:=Ql_84.mv S84 hb85
              have cA86:=S85.rdr.c2
              have fA86:=S85.rdr.fz 2
              have H86:=S85.rdr.bad
              have hb86:=but_set w85 X.P w85.heap.size 2 (.bool true)
              have S86:=S85.call hb86 H86
              have Nn_86:=Nn_85.mv S85 hb86
              have Ql_86:=Ql_85.mv S85 hb86
              obtain ⟨zv870,zv871,zv872,zv873,zv87f⟩:=Nn_86.cells
              have zv87g0:=zv87f 0
              have zv87g1:=zv87f 1
              have zv87g2:=zv87f 2
              have zv87g3:=zv87f 3
              clear zv87f
              have Tt87:=Nn_86.tre
              have HR : Hid (lineV X.l (vs X.l n) s = ((.mk 23 [] 0 []),(badV s35))):=Lib.hid (by simp [lineV,bindV,E1.out,E15.out,E25.out,E29.out,E35.out,E39.out,E56.out,E71.out,exprsV]; exact EO.out)
              obtain ⟨y0,y1,y2,y3,b0,b1,b2,b3,bf⟩:=S86.box.open
              have bf0:=bf 0
              have bf1:=bf 1
              have bf2:=bf 2
              have bf3:=bf 3
              clear bf
              go_wp2
              obtain ⟨Wf,hWf,hput,_,d0,d1,d2,d3⟩:=putN4 S86.box (.int .i64 23) (.string ⟨([] : List UInt8).toArray⟩) (.int .i64 0) (.slice none 0 0)
              rw [hWf]
              exact bodyPost_ret (v:=.agg #[.int .i64 23,.string ⟨([] : List UInt8).toArray⟩,.int .i64 0,.slice none 0 0]) (by simp [results,Tryz.results113,go_sem,d0,d1,d2,d3]) rfl (OutR.of HR (S86.done Tt87 hput))
           | false =>
            have E71:=Lib.hid hm71
            clear hm71
            obtain ⟨x88,hx88⟩ : ∃ z,nowV X.l s35 = z:=⟨_,rfl⟩
            have n88_0:=now_no (m:=[58,61]) hx88 E39.out
            have n88_1:=now_no (m:=[61]) hx88 E56.out
            have n88_2:=now_no (m:=[59]) hx88 E71.out
            have X88:=Lib.hid hx88
            clear hx88
            go_wp2_with fail
            refine (nowX_any X (w36.alloc (.cells #[.int .i64 23,.string ⟨([] : List UInt8).toArray⟩,.int .i64 0,.slice none 0 0] 24)) s35 false S38.rdr x88 X88.out).mono ?_
            rintro e w89 ⟨rfl,hd89⟩
            have hb89 : But X.P (w36.alloc (.cells #[.int .i64 23,.string ⟨([] : List UInt8).toArray⟩,.int .i64 0,.slice none 0 0] 24)).heap.size (w36.alloc (.cells #[.int .i64 23,.string ⟨([] : List UInt8).toArray⟩,.int .i64 0,.slice none 0 0] 24)) w89:=But.of_below hd89
            have H89:=S38.rdr.below hd89 (Nat.le_refl _)
            clear hd89
            have S89:=S38.call hb89 H89
            have Nn_89:=Nn_37.mv S38 hb89
            have Ql_89:=Ql_38.mv S38 hb89
            go_wp2_with fail
            refine (nowX_any X w89 s35 false S89.rdr x88 X88.out).mono ?_
            rintro e w90 ⟨rfl,hd90⟩
            have hb90 : But X.P w89.heap.size w89 w90:=But.of_below hd90
            have H90:=S89.rdr.below hd90 (Nat.le_refl _)
            clear hd90
            have S90:=S89.call hb90 H90
            have Nn_90:=Nn_89.mv S89 hb90
            have Ql_90:=Ql_89.mv S89 hb90
            go_wp2_with fail
            refine (nowX_any X w90 s35 false S90.rdr x88 X88.out).mono ?_
            rintro e w91 ⟨rfl,hd91⟩
            have hb91 : But X.P w90.heap.size w90 w91:=But.of_below hd91
            have H91:=S90.rdr.below hd91 (Nat.le_refl _)
            clear hd91
            have S91:=S90.call hb91 H91
            have Nn_91:=Nn_90.mv S90 hb91
            have Ql_91:=Ql_90.mv S90 hb91
            have cA92:=S91.rdr.c2
            have fA92:=S91.rdr.fz 2
            have H92:=S91.rdr.bad
            have hb92:=but_set w91 X.P w91.heap.size 2 (.bool true)
            have S92:=S91.call hb92 H92
            have Nn_92:=Nn_91.mv S91 hb92
            have Ql_92:=Ql_91.mv S91 hb92
            obtain ⟨zv930,zv931,zv932,zv933,zv93f⟩:=Nn_92.cells
            have zv93g0:=zv93f 0
            have zv93g1:=zv93f 1
            have zv93g2:=zv93f 2
            have zv93g3:=zv93f 3
            clear zv93f
            have Tt93:=Nn_92.tre
            have HR : Hid (lineV X.l (vs X.l n) s = ((.mk 23 [] 0 []),(badV s35))):=Lib.hid (by simp [lineV,bindV,E1.out,E15.out,E25.out,E29.out,E35.out,E39.out,E56.out,E71.out,exprsV])
            obtain ⟨y0,y1,y2,y3,b0,b1,b2,b3,bf⟩:=S92.box.open
            have bf0:=bf 0
            have bf1:=bf 1
            have bf2:=bf 2
            have bf3:=bf 3
            clear bf
            go_wp2
            obtain ⟨Wf,hWf,hput,_,d0,d1,d2,d3⟩:=putN4 S92.box (.int .i64 23) (.string ⟨([] : List UInt8).toArray⟩) (.int .i64 0) (.slice none 0 0)
            rw [hWf]
            exact bodyPost_ret (v:=.agg #[.int .i64 23,.string ⟨([] : List UInt8).toArray⟩,.int .i64 0,.slice none 0 0]) (by simp [results,Tryz.results113,go_sem,d0,d1,d2,d3]) rfl (OutR.of HR (S92.done Tt93 hput))
end Go.Proofs.YtnkphlkjhgngkaaGreatDoor
