/- The parser's assignments. -/
import Derived.Test.YtffnaknidofobaaGreatDoorParLJt
namespace Go.Proofs.YtffnaknidofobaaGreatDoor
open Go.RowKit
theorem one_or (l : List Tr) (h : 0 < l.length) : (∃ t,l = [t]) ∨ l.length ≠ 1:=by
 match l,h with
 | [t],_ => exact .inl ⟨t,rfl⟩
 | _ :: _ :: _,_ => exact .inr (by simp)
theorem two_or (l : List Tr) (h : 0 < l.length) (hn : l.length ≠ 1) : ∃ t1 t2 r,l = t1 :: t2 :: r:=by
 match l,h,hn with
 | [t],_,hn => simp at hn
 | t1 :: t2 :: r,_,_ => exact ⟨t1,t2,r,rfl⟩
theorem isM_other {l : List Tk} {i : Nat} {s s' : List UInt8} (h : isM l i s = true) (hne : s ≠ s') : isM l i s' = false:=by
 simp only [isM,Bool.and_eq_true,beq_iff_eq] at h
 simp [isM,h.2,hne]
/-- The first of an own list of one. -/
theorem own_first {w W : World} {ao : Option Addr} {c : Nat} {t : Tr} (T : Own w W (.slice ao [t].length c) [t]) :
    ∃ g,ao = some ⟨g,0,none⟩ ∧ ∃ ao7 n7 c7,W.cell? ⟨g,0,none⟩ = some (.int .i64 t.kind) ∧ W.cell? ⟨g,1,none⟩ = some (.string ⟨t.text.toArray⟩) ∧ W.cell? ⟨g,2,none⟩ = some (.int .i64 t.num) ∧ W.cell? ⟨g,3,none⟩ = some (.slice ao7 n7 c7):=by
  obtain ⟨sls,o1,k1⟩:=T
  simp only [KL] at k1
  obtain ⟨sl,r,rfl,kt,rfl⟩:=k1
  obtain ⟨ao7,n7,c7,rfl⟩:=kt.slice
  rcases o1.2 with ⟨_,e0⟩ | ⟨g,cap,cur,hv,hb,hg,hcap,_,hsz,htk⟩
  · simp at e0
  · simp only [Value.slice.injEq] at hv
    obtain ⟨rfl,_,rfl⟩:=hv
    have q : ∀ j u,(cellsOf [t] [.slice ao7 n7 c7])[j]? = some u → W.cell? ⟨g,j,none⟩ = some u:=fun j u hj => by
     rw [← htk] at hj
     have hj' : cur[j]? = some u:=by
      rw [List.getElem?_take] at hj
      split at hj
      · simpa using hj
      · cases hj
     simp [World.cell?,hg,hj']
    exact ⟨g,rfl,ao7,n7,c7,q 0 _ rfl,q 1 _ rfl,q 2 _ rfl,q 3 _ rfl⟩
set_option maxRecDepth 20000 in
set_option maxHeartbeats 8000000 in
theorem assignment_any (X : Px) (n : Nat) (A : Good X n) (w : World) (i : Nat) (h : Bool) (H : Par X w i h) (hn : 3 * (X.l.length - i) + 1 ≤ n) :
    Calls Tryz.prog 199 #[X.p] w (OutT X w i h (assignmentR X.l (ps X.l n) h i)):=by
  obtain ⟨W0,hW0,S0⟩:=St.first H
  have lt0:=H.lt
  go_enter Tryz.func199,Tryz.ntmps199
  go_wp2_with fail
  refine (expressions_any X n A W0 i h S0.par hn).mono ?_
  rintro e w1 ⟨⟨hb1,hr1⟩,hx1⟩
  cases hp1 : exprsR X.l (ps X.l n) h i with
  | bad j =>
   rw [hp1] at hr1
   obtain ⟨rfl,h1,H1⟩:=hr1
   have HR : Hid (assignmentR X.l (ps X.l n) h i = .bad j):=by simp [Hid,assignmentR,Res.bind,hp1]
   exact ⟨rfl,OutT.of HR (S0.bad hb1 H1)⟩
  | ok l j =>
   rw [hp1] at hr1
   obtain ⟨ij1,H1,v1,rfl,hk1⟩:=hr1
   obtain ⟨ao1,c1,rfl⟩:=hk1.slice
   have xx:=hx1 _ _ hp1
   have bd1:=H1.bnd
   have lt1:=H1.lt
   have S1:=S0.call hb1 H1
   have T1:=Own.new S0 hk1
   have E1:=Lib.hid hp1
   clear hp1 hk1 hx1
   have cI:=is_any X w1 j h S1.par [58,61]
   cases hm : isM X.l j [58,61] with
   | true =>
    rw [hm] at cI
    have nx:=isM_end S1.par (by decide) hm
    have E2:=Lib.hid hm
    have E3:=Lib.hid (isM_other hm (s':=[61]) (by decide))
    clear hm
    go_wp2_with fail
    refine cI.mono ?_
    rintro e w2 ⟨rfl,hb2⟩
    have S2:=S1.below hb2
    have T2:=T1.below hb2
    have cE:=every_own isNameT 155 enters_isName T2 (by omega) isNameN_any
    clear cI
    cases ha : l.all isNameT with
    | true =>
     rw [ha] at cE
     have E4:=Lib.hid ha
     clear ha
     go_wp2_with fail
     refine cE.mono ?_
     rintro e w3 ⟨rfl,hb3⟩
     have S3:=S2.below hb3
     have T3:=T2.below hb3
     clear cE
     go_wp2_with fail
     refine (assigned_any X n A w w3 j h l ao1 c1 22 S3 T3 nx (by omega) (by omega)).mono ?_
     rintro e w4 hr4
     cases hp4 : assignedR X.l (ps X.l n) h 22 l j with
     | bad j4 =>
      rw [hp4] at hr4
      obtain ⟨rfl,hb4,h4,H4⟩:=hr4
      have HR : Hid (assignmentR X.l (ps X.l n) h i = .bad j4):=by simp [Hid,assignmentR,Res.bind,E1.out,E2.out,E4.out,hp4]
      exact ⟨rfl,OutT.of HR ⟨hb4,rfl,h4,H4⟩⟩
     | ok t4 j4 =>
      rw [hp4] at hr4
      obtain ⟨ij4,S4,ao4,n4,c4,rfl,T4⟩:=hr4
      have HR : Hid (assignmentR X.l (ps X.l n) h i = .ok t4 j4):=by simp [Hid,assignmentR,Res.bind,E1.out,E2.out,E4.out,hp4]
      clear hp4
      obtain ⟨u0,u1,u2,u3,b0,b1,b2,b3,bf⟩:=S4.box.open
      have bf0:=bf 0
      have bf1:=bf 1
      have bf2:=bf 2
      have bf3:=bf 3
      clear bf
      go_wp2
      obtain ⟨Wf,hWf,hput,_,d0,d1,d2,d3⟩:=putN4 S4.box (.int .i64 t4.kind) (.string ⟨t4.text.toArray⟩) (.int .i64 t4.num) (.slice ao4 n4 c4)
      rw [hWf]
      exact bodyPost_ret (v:=.agg #[.int .i64 t4.kind,.string ⟨t4.text.toArray⟩,.int .i64 t4.num,.slice ao4 n4 c4]) (by simp [results,Tryz.results199,go_sem,d0,d1,d2,d3]) rfl (OutT.of HR (S4.done T4 hput (by omega)))
    | false =>
     rw [ha] at cE
     have E4:=Lib.hid ha
     clear ha
     go_wp2_with fail
     refine cE.mono ?_
     rintro e w3 ⟨rfl,hb3⟩
     have S3:=S2.below hb3
     have T3:=T2.below hb3
     clear cE
     have cI:=is_any X w3 j h S3.par [61]
     rw [E3.out] at cI
     go_wp2_with fail
     refine cI.mono ?_
     rintro e w4 ⟨rfl,hb4⟩
     have S4:=S3.below hb4
     have T4:=T3.below hb4
     clear cI
     rcases one_or l xx with ⟨t,rfl⟩ | hne
     · cases hc : isCallT t with
       | false =>
        have HR : Hid (assignmentR X.l (ps X.l n) h i = .bad j):=by simp [Hid,assignmentR,Res.bind,E1.out,E2.out,E3.out,E4.out,hc]
        obtain ⟨g,rfl,ao7,n7,c7,q0,q1,q2,q3⟩:=own_first T4
        have cC:=isCall_any t ao7 n7 c7 w4
        rw [hc] at cC
        clear hc
        go_wp2_with fail
        refine cC.mono ?_
        rintro e w5 ⟨rfl,hb5⟩
        have S5:=S4.below hb5
        have T5:=T4.below hb5
        go_wp2_with fail
        refine (fault_any X _).mono ?_
        rintro e w6 ⟨rfl,rfl⟩
        exact ⟨rfl,OutT.of HR S5.bad0⟩
       | true =>
        have HR : Hid (assignmentR X.l (ps X.l n) h i = .ok (.mk 24 [] 0 [t]) j):=by simp [Hid,assignmentR,Res.bind,E1.out,E2.out,E3.out,E4.out,hc]
        obtain ⟨g,rfl,ao7,n7,c7,q0,q1,q2,q3⟩:=own_first T4
        have cC:=isCall_any t ao7 n7 c7 w4
        rw [hc] at cC
        clear hc
        go_wp2_with fail
        refine cC.mono ?_
        rintro e w5 ⟨rfl,hb5⟩
        have S5:=S4.below hb5
        have T5:=T4.below hb5
        go_wp2_with fail
        refine (node_any 24 [] _ _ _ _).mono ?_
        rintro e w6 ⟨rfl,hb6⟩
        have S6:=S5.below hb6
        have T6:=(T5.below hb6).tre 24 [] 0
        obtain ⟨u0,u1,u2,u3,b0,b1,b2,b3,bf⟩:=S6.box.open
        have bf0:=bf 0
        have bf1:=bf 1
        have bf2:=bf 2
        have bf3:=bf 3
        clear bf
        go_wp2
        obtain ⟨Wf,hWf,hput,_,d0,d1,d2,d3⟩:=putN4 S6.box (.int .i64 24) (.string ⟨([] : List UInt8).toArray⟩) (.int .i64 0) (.slice (some ⟨g,0,none⟩) 1 c1)
        rw [hWf]
        exact bodyPost_ret (v:=.agg #[.int .i64 24,.string ⟨([] : List UInt8).toArray⟩,.int .i64 0,.slice (some ⟨g,0,none⟩) 1 c1]) (by simp [results,Tryz.results199,go_sem,d0,d1,d2,d3]) rfl (OutT.of HR (S6.done T6 hput (by omega)))
     · have hne2 : ((l.length : Int) != 1) = true:=by rw [bne_iff_ne]; omega
       have HR : Hid (assignmentR X.l (ps X.l n) h i = .bad j):=by
        have hq:=two_or l xx hne
        obtain ⟨t1,t2,r,rfl⟩:=hq
        simp [Hid,assignmentR,Res.bind,E1.out,E2.out,E3.out,E4.out]
       go_wp2_with fail
       refine (fault_any X _).mono ?_
       rintro e w6 ⟨rfl,rfl⟩
       exact ⟨rfl,OutT.of HR S4.bad0⟩
   | false =>
    rw [hm] at cI
    have E2:=Lib.hid hm
    clear hm
    go_wp2_with fail
    refine cI.mono ?_
    rintro e w2 ⟨rfl,hb2⟩
    have S2:=S1.below hb2
    have T2:=T1.below hb2
    clear cI
    have cI:=is_any X w2 j h S2.par [61]
    cases hm : isM X.l j [61] with
    | true =>
     rw [hm] at cI
     have nx:=isM_end S2.par (by decide) hm
     have E3:=Lib.hid hm
     clear hm
     go_wp2_with fail
     refine cI.mono ?_
     rintro e w3 ⟨rfl,hb3⟩
     have S3:=S2.below hb3
     have T3:=T2.below hb3
     have cE:=every_own isPlaceT 156 enters_isPlace T3 (by omega) isPlace_any
     clear cI
     cases ha : l.all isPlaceT with
     | true =>
      rw [ha] at cE
      have E4:=Lib.hid ha
      clear ha
      go_wp2_with fail
      refine cE.mono ?_
      rintro e w5 ⟨rfl,hb5⟩
      have S5:=S3.below hb5
      have T5:=T3.below hb5
      clear cE
      go_wp2_with fail
      refine (assigned_any X n A w w5 j h l ao1 c1 23 S5 T5 nx (by omega) (by omega)).mono ?_
      rintro e w4 hr4
      cases hp4 : assignedR X.l (ps X.l n) h 23 l j with
      | bad j4 =>
       rw [hp4] at hr4
       obtain ⟨rfl,hb4,h4,H4⟩:=hr4
       have HR : Hid (assignmentR X.l (ps X.l n) h i = .bad j4):=by simp [Hid,assignmentR,Res.bind,E1.out,E2.out,E3.out,E4.out,hp4]
       exact ⟨rfl,OutT.of HR ⟨hb4,rfl,h4,H4⟩⟩
      | ok t4 j4 =>
       rw [hp4] at hr4
       obtain ⟨ij4,S4,ao4,n4,c4,rfl,T4⟩:=hr4
       have HR : Hid (assignmentR X.l (ps X.l n) h i = .ok t4 j4):=by simp [Hid,assignmentR,Res.bind,E1.out,E2.out,E3.out,E4.out,hp4]
       clear hp4
       obtain ⟨u0,u1,u2,u3,b0,b1,b2,b3,bf⟩:=S4.box.open
       have bf0:=bf 0
       have bf1:=bf 1
       have bf2:=bf 2
       have bf3:=bf 3
       clear bf
       go_wp2
       obtain ⟨Wf,hWf,hput,_,d0,d1,d2,d3⟩:=putN4 S4.box (.int .i64 t4.kind) (.string ⟨t4.text.toArray⟩) (.int .i64 t4.num) (.slice ao4 n4 c4)
       rw [hWf]
       exact bodyPost_ret (v:=.agg #[.int .i64 t4.kind,.string ⟨t4.text.toArray⟩,.int .i64 t4.num,.slice ao4 n4 c4]) (by simp [results,Tryz.results199,go_sem,d0,d1,d2,d3]) rfl (OutT.of HR (S4.done T4 hput (by omega)))
     | false =>
      rw [ha] at cE
      have E4:=Lib.hid ha
      clear ha
      go_wp2_with fail
      refine cE.mono ?_
      rintro e w4 ⟨rfl,hb4⟩
      have S4:=S3.below hb4
      have T4:=T3.below hb4
      clear cE
      rcases one_or l xx with ⟨t,rfl⟩ | hne
      · cases hc : isCallT t with
        | false =>
         have HR : Hid (assignmentR X.l (ps X.l n) h i = .bad j):=by simp [Hid,assignmentR,Res.bind,E1.out,E2.out,E3.out,E4.out,hc]
         obtain ⟨g,rfl,ao7,n7,c7,q0,q1,q2,q3⟩:=own_first T4
         have cC:=isCall_any t ao7 n7 c7 w4
         rw [hc] at cC
         clear hc
         go_wp2_with fail
         refine cC.mono ?_
         rintro e w5 ⟨rfl,hb5⟩
         have S5:=S4.below hb5
         have T5:=T4.below hb5
         go_wp2_with fail
         refine (fault_any X _).mono ?_
         rintro e w6 ⟨rfl,rfl⟩
         exact ⟨rfl,OutT.of HR S5.bad0⟩
        | true =>
         have HR : Hid (assignmentR X.l (ps X.l n) h i = .ok (.mk 24 [] 0 [t]) j):=by simp [Hid,assignmentR,Res.bind,E1.out,E2.out,E3.out,E4.out,hc]
         obtain ⟨g,rfl,ao7,n7,c7,q0,q1,q2,q3⟩:=own_first T4
         have cC:=isCall_any t ao7 n7 c7 w4
         rw [hc] at cC
         clear hc
         go_wp2_with fail
         refine cC.mono ?_
         rintro e w5 ⟨rfl,hb5⟩
         have S5:=S4.below hb5
         have T5:=T4.below hb5
         go_wp2_with fail
         refine (node_any 24 [] _ _ _ _).mono ?_
         rintro e w6 ⟨rfl,hb6⟩
         have S6:=S5.below hb6
         have T6:=(T5.below hb6).tre 24 [] 0
         obtain ⟨u0,u1,u2,u3,b0,b1,b2,b3,bf⟩:=S6.box.open
         have bf0:=bf 0
         have bf1:=bf 1
         have bf2:=bf 2
         have bf3:=bf 3
         clear bf
         go_wp2
         obtain ⟨Wf,hWf,hput,_,d0,d1,d2,d3⟩:=putN4 S6.box (.int .i64 24) (.string ⟨([] : List UInt8).toArray⟩) (.int .i64 0) (.slice (some ⟨g,0,none⟩) 1 c1)
         rw [hWf]
         exact bodyPost_ret (v:=.agg #[.int .i64 24,.string ⟨([] : List UInt8).toArray⟩,.int .i64 0,.slice (some ⟨g,0,none⟩) 1 c1]) (by simp [results,Tryz.results199,go_sem,d0,d1,d2,d3]) rfl (OutT.of HR (S6.done T6 hput (by omega)))
      · have hne2 : ((l.length : Int) != 1) = true:=by rw [bne_iff_ne]; omega
        have HR : Hid (assignmentR X.l (ps X.l n) h i = .bad j):=by
         have hq:=two_or l xx hne
         obtain ⟨t1,t2,r,rfl⟩:=hq
         simp [Hid,assignmentR,Res.bind,E1.out,E2.out,E3.out,E4.out]
        go_wp2_with fail
        refine (fault_any X _).mono ?_
        rintro e w6 ⟨rfl,rfl⟩
        exact ⟨rfl,OutT.of HR S4.bad0⟩
    | false =>
     rw [hm] at cI
     have E3:=Lib.hid hm
     clear hm
     go_wp2_with fail
     refine cI.mono ?_
     rintro e w4 ⟨rfl,hb4⟩
     have S4:=S2.below hb4
     have T4:=T2.below hb4
     clear cI
     rcases one_or l xx with ⟨t,rfl⟩ | hne
     · cases hc : isCallT t with
       | false =>
        have HR : Hid (assignmentR X.l (ps X.l n) h i = .bad j):=by simp [Hid,assignmentR,Res.bind,E1.out,E2.out,E3.out,hc]
        obtain ⟨g,rfl,ao7,n7,c7,q0,q1,q2,q3⟩:=own_first T4
        have cC:=isCall_any t ao7 n7 c7 w4
        rw [hc] at cC
        clear hc
        go_wp2_with fail
        refine cC.mono ?_
        rintro e w5 ⟨rfl,hb5⟩
        have S5:=S4.below hb5
        have T5:=T4.below hb5
        go_wp2_with fail
        refine (fault_any X _).mono ?_
        rintro e w6 ⟨rfl,rfl⟩
        exact ⟨rfl,OutT.of HR S5.bad0⟩
       | true =>
        have HR : Hid (assignmentR X.l (ps X.l n) h i = .ok (.mk 24 [] 0 [t]) j):=by simp [Hid,assignmentR,Res.bind,E1.out,E2.out,E3.out,hc]
        obtain ⟨g,rfl,ao7,n7,c7,q0,q1,q2,q3⟩:=own_first T4
        have cC:=isCall_any t ao7 n7 c7 w4
        rw [hc] at cC
        clear hc
        go_wp2_with fail
        refine cC.mono ?_
        rintro e w5 ⟨rfl,hb5⟩
        have S5:=S4.below hb5
        have T5:=T4.below hb5
        go_wp2_with fail
        refine (node_any 24 [] _ _ _ _).mono ?_
        rintro e w6 ⟨rfl,hb6⟩
        have S6:=S5.below hb6
        have T6:=(T5.below hb6).tre 24 [] 0
        obtain ⟨u0,u1,u2,u3,b0,b1,b2,b3,bf⟩:=S6.box.open
        have bf0:=bf 0
        have bf1:=bf 1
        have bf2:=bf 2
        have bf3:=bf 3
        clear bf
        go_wp2
        obtain ⟨Wf,hWf,hput,_,d0,d1,d2,d3⟩:=putN4 S6.box (.int .i64 24) (.string ⟨([] : List UInt8).toArray⟩) (.int .i64 0) (.slice (some ⟨g,0,none⟩) 1 c1)
        rw [hWf]
        exact bodyPost_ret (v:=.agg #[.int .i64 24,.string ⟨([] : List UInt8).toArray⟩,.int .i64 0,.slice (some ⟨g,0,none⟩) 1 c1]) (by simp [results,Tryz.results199,go_sem,d0,d1,d2,d3]) rfl (OutT.of HR (S6.done T6 hput (by omega)))
     · have hne2 : ((l.length : Int) != 1) = true:=by rw [bne_iff_ne]; omega
       have HR : Hid (assignmentR X.l (ps X.l n) h i = .bad j):=by
        have hq:=two_or l xx hne
        obtain ⟨t1,t2,r,rfl⟩:=hq
        simp [Hid,assignmentR,Res.bind,E1.out,E2.out,E3.out]
       go_wp2_with fail
       refine (fault_any X _).mono ?_
       rintro e w6 ⟨rfl,rfl⟩
       exact ⟨rfl,OutT.of HR S4.bad0⟩
end Go.Proofs.YtffnaknidofobaaGreatDoor
