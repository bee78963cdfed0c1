/- The parser's statements. -/
import Derived.Test.YtffnaknidofobaaGreatDoorParPJt
namespace Go.Proofs.YtffnaknidofobaaGreatDoor
open Go.RowKit
attribute [local go_sem ↓] Go.wp_at_zero Go.wp_at_succ
set_option maxRecDepth 20000 in
set_option maxHeartbeats 1600000 in
theorem condition_any (X : Px) (n : Nat) (A : Good X n) (w : World) (i : Nat) (h : Bool) (H : Par X w i h) (hn : 3 * (X.l.length - i) + 1 ≤ n) :
    Calls Tryz.prog 196 #[X.p] w (OutT X w i h (condR (ps X.l n) i)):=by
  obtain ⟨W0,hW0,S0⟩:=St.first H
  have lt0:=H.lt
  go_enter Tryz.func196,Tryz.ntmps196
  go_wp2_with fail
  refine (withinN_any X W0 i h true (exprR (ps X.l n) true i) 209 #[X.p] #[] enters_expression S0.par (fun w1 _ H1 => by rw [Array.append_empty]; exact expression_any X n A w1 i true H1 hn)).mono ?_
  rintro e w1 ⟨hb1,hr1⟩
  cases hp1 : exprR (ps X.l n) true i with
  | bad j1 =>
   rw [hp1] at hr1
   obtain ⟨rfl,h1,H1⟩:=hr1
   have E1:=Lib.hid hp1
   have HR : Hid (condR (ps X.l n) i = .bad j1):=by simp [Hid,condR,E1.out]
   exact ⟨rfl,OutT.of HR (S0.bad hb1 H1)⟩
  | ok t1 j1 =>
   rw [hp1] at hr1
   obtain ⟨ij1,H1,sl1,rfl,hk1⟩:=hr1
   obtain ⟨ao1,n1,c1,rfl⟩:=hk1.slice
   have E1:=Lib.hid hp1
   have S1:=S0.call hb1 H1
   have lt1:=H1.lt
   have Tt1:=Tre.new S0 hk1
   clear hp1 hk1
   have HR : Hid (condR (ps X.l n) i = .ok t1 j1):=by simp [Hid,condR,E1.out]
   obtain ⟨u0,u1,u2,u3,b0,b1,b2,b3,bf⟩:=S1.box.open
   have bf0:=bf 0
   have bf1:=bf 1
   have bf2:=bf 2
   have bf3:=bf 3
   clear bf
   go_wp2
   obtain ⟨Wf,hWf,hput,_,d0,d1,d2,d3⟩:=putN4 S1.box (.int .i64 t1.kind) (.string ⟨t1.text.toArray⟩) (.int .i64 t1.num) (.slice ao1 n1 c1)
   rw [hWf]
   exact bodyPost_ret (v:=.agg #[.int .i64 t1.kind,.string ⟨t1.text.toArray⟩,.int .i64 t1.num,.slice ao1 n1 c1]) (by simp [results,Tryz.results196,go_sem,d0,d1,d2,d3]) rfl (OutT.of HR (S1.done Tt1 hput (by omega)))
set_option maxRecDepth 20000 in
set_option maxHeartbeats 4000000 in
theorem simple_any (X : Px) (n : Nat) (A : Good X n) (w : World) (i : Nat) (h : Bool) (H : Par X w i h) (hn : 3 * (X.l.length - i) + 1 ≤ n) :
    Calls Tryz.prog 173 #[X.p] w (OutT X w i h (simpleR X.l (ps X.l n) h i)):=by
  obtain ⟨W0,hW0,S0⟩:=St.first H
  have lt0:=H.lt
  go_enter Tryz.func173,Tryz.ntmps173
  go_wp2_with fail
  cases hm1 : isM X.l i [118,97,114] with
  | false =>
   refine (take_no X W0 i h S0.par [118,97,114] hm1).mono ?_
   rintro e w1 ⟨rfl,hb1,H1⟩
   have E1:=Lib.hid hm1
   have S1:=S0.call hb1 H1
   have lt1:=H1.lt
   clear hm1
   go_wp2_with fail
   cases hm2 : isM X.l i [98,114,101,97,107] with
   | false =>
    refine (take_no X w1 i h S1.par [98,114,101,97,107] hm2).mono ?_
    rintro e w2 ⟨rfl,hb2,H2⟩
    have E2:=Lib.hid hm2
    have S2:=S1.call hb2 H2
    have lt2:=H2.lt
    clear hm2
    go_wp2_with fail
    cases hm3 : isM X.l i [99,111,110,116,105,110,117,101] with
    | false =>
     refine (take_no X w2 i h S2.par [99,111,110,116,105,110,117,101] hm3).mono ?_
     rintro e w3 ⟨rfl,hb3,H3⟩
     have E3:=Lib.hid hm3
     have S3:=S2.call hb3 H3
     have lt3:=H3.lt
     clear hm3
     go_wp2_with fail
     cases hm4 : isM X.l i [114,101,116,117,114,110] with
     | false =>
      refine (take_no X w3 i h S3.par [114,101,116,117,114,110] hm4).mono ?_
      rintro e w4 ⟨rfl,hb4,H4⟩
      have E4:=Lib.hid hm4
      have S4:=S3.call hb4 H4
      have lt4:=H4.lt
      clear hm4
      go_wp2_with fail
      refine (assignment_any X n A w4 i h S4.par (by omega)).mono ?_
      rintro e w5 ⟨hb5,hr5⟩
      cases hp5 : assignmentR X.l (ps X.l n) h i with
      | bad j5 =>
       rw [hp5] at hr5
       obtain ⟨rfl,h5,H5⟩:=hr5
       have E5:=Lib.hid hp5
       have HR : Hid (simpleR X.l (ps X.l n) h i = .bad j5):=by simp [Hid,simpleR,E1.out,E2.out,E3.out,E4.out,E5.out]
       exact ⟨rfl,OutT.of HR (S4.bad hb5 H5)⟩
      | ok t5 j5 =>
       rw [hp5] at hr5
       obtain ⟨ij5,H5,sl5,rfl,hk5⟩:=hr5
       obtain ⟨ao5,n5,c5,rfl⟩:=hk5.slice
       have E5:=Lib.hid hp5
       have S5:=S4.call hb5 H5
       have lt5:=H5.lt
       have Tt5:=Tre.new S4 hk5
       clear hp5 hk5
       have HR : Hid (simpleR X.l (ps X.l n) h i = .ok t5 j5):=by simp [Hid,simpleR,E1.out,E2.out,E3.out,E4.out,E5.out]
       obtain ⟨u0,u1,u2,u3,b0,b1,b2,b3,bf⟩:=S5.box.open
       have bf0:=bf 0
       have bf1:=bf 1
       have bf2:=bf 2
       have bf3:=bf 3
       clear bf
       go_wp2
       obtain ⟨Wf,hWf,hput,_,d0,d1,d2,d3⟩:=putN4 S5.box (.int .i64 t5.kind) (.string ⟨t5.text.toArray⟩) (.int .i64 t5.num) (.slice ao5 n5 c5)
       rw [hWf]
       exact bodyPost_ret (v:=.agg #[.int .i64 t5.kind,.string ⟨t5.text.toArray⟩,.int .i64 t5.num,.slice ao5 n5 c5]) (by simp [results,Tryz.results173,go_sem,d0,d1,d2,d3]) rfl (OutT.of HR (S5.done Tt5 hput (by omega)))
     | true =>
      refine (take_yes X w3 i h S3.par [114,101,116,117,114,110] (by decide) hm4).mono ?_
      rintro e w4 ⟨rfl,hb4,H4⟩
      have E4:=Lib.hid hm4
      have S4:=S3.call hb4 H4
      have lt4:=H4.lt
      clear hm4
      go_wp2_with fail
      have cI6:=is_any X w4 (i + 1) h S4.par [59]
      cases hm6 : isM X.l (i + 1) [59] with
      | false =>
       rw [hm6] at cI6
       refine cI6.mono ?_
       rintro e w6 ⟨rfl,hb6⟩
       have E6:=Lib.hid hm6
       have S6:=S4.below hb6
       clear hm6 cI6
       go_wp2_with fail
       refine (expressions_any X n A w6 (i + 1) h S6.par (by omega)).mono ?_
       rintro e w7 ⟨⟨hb7,hr7⟩,hx7⟩
       cases hp7 : exprsR X.l (ps X.l n) h (i + 1) with
       | bad j7 =>
        rw [hp7] at hr7
        obtain ⟨rfl,h7,H7⟩:=hr7
        have E7:=Lib.hid hp7
        have HR : Hid (simpleR X.l (ps X.l n) h i = .bad j7):=by simp [Hid,simpleR,Res.bind,E1.out,E2.out,E3.out,E4.out,E6.out,E7.out]
        exact ⟨rfl,OutT.of HR (S6.bad hb7 H7)⟩
       | ok l7 j7 =>
        rw [hp7] at hr7
        obtain ⟨ij7,H7,v7,rfl,hk7⟩:=hr7
        obtain ⟨ao7,c7,rfl⟩:=hk7.slice
        have xx7:=hx7 _ _ hp7
        have E7:=Lib.hid hp7
        have S7:=S6.call hb7 H7
        have lt7:=H7.lt
        have Tl7:=Own.new S6 hk7
        clear hp7
        clear hx7
        go_wp2_with fail
        refine (node_any 27 [] _ _ _ _).mono ?_
        rintro e w8 ⟨rfl,hb8⟩
        have S8:=S7.below hb8
        have Tl7_8:=Tl7.below hb8
        have Tt8:=Tl7_8.tre 27 [] 0
        have HR : Hid (simpleR X.l (ps X.l n) h i = .ok (.mk 27 [] 0 l7) j7):=by simp [Hid,simpleR,Res.bind,E1.out,E2.out,E3.out,E4.out,E6.out,E7.out]
        obtain ⟨u0,u1,u2,u3,b0,b1,b2,b3,bf⟩:=S8.box.open
        have bf0:=bf 0
        have bf1:=bf 1
        have bf2:=bf 2
        have bf3:=bf 3
        clear bf
        go_wp2
        obtain ⟨Wf,hWf,hput,_,d0,d1,d2,d3⟩:=putN4 S8.box (.int .i64 27) (.string ⟨([]).toArray⟩) (.int .i64 0) (.slice ao7 l7.length c7)
        rw [hWf]
        exact bodyPost_ret (v:=.agg #[.int .i64 27,.string ⟨([]).toArray⟩,.int .i64 0,.slice ao7 l7.length c7]) (by simp [results,Tryz.results173,go_sem,d0,d1,d2,d3]) rfl (OutT.of HR (S8.done Tt8 hput (by omega)))
      | true =>
       rw [hm6] at cI6
       refine cI6.mono ?_
       rintro e w6 ⟨rfl,hb6⟩
       have E6:=Lib.hid hm6
       have S6:=S4.below hb6
       clear hm6 cI6
       go_wp2_with fail
       refine (node_any 27 [] _ _ _ _).mono ?_
       rintro e w9 ⟨rfl,hb9⟩
       have S9:=S6.below hb9
       have Tt9:=Tre.leaf w w9 27 [] 0 none 0
       have HR : Hid (simpleR X.l (ps X.l n) h i = .ok (.mk 27 [] 0 []) (i + 1)):=by simp [Hid,simpleR,E1.out,E2.out,E3.out,E4.out,E6.out]
       obtain ⟨u0,u1,u2,u3,b0,b1,b2,b3,bf⟩:=S9.box.open
       have bf0:=bf 0
       have bf1:=bf 1
       have bf2:=bf 2
       have bf3:=bf 3
       clear bf
       go_wp2
       obtain ⟨Wf,hWf,hput,_,d0,d1,d2,d3⟩:=putN4 S9.box (.int .i64 27) (.string ⟨([]).toArray⟩) (.int .i64 0) (.slice none 0 0)
       rw [hWf]
       exact bodyPost_ret (v:=.agg #[.int .i64 27,.string ⟨([]).toArray⟩,.int .i64 0,.slice none 0 0]) (by simp [results,Tryz.results173,go_sem,d0,d1,d2,d3]) rfl (OutT.of HR (S9.done Tt9 hput (by omega)))
    | true =>
     refine (take_yes X w2 i h S2.par [99,111,110,116,105,110,117,101] (by decide) hm3).mono ?_
     rintro e w3 ⟨rfl,hb3,H3⟩
     have E3:=Lib.hid hm3
     have S3:=S2.call hb3 H3
     have lt3:=H3.lt
     clear hm3
     go_wp2_with fail
     refine (node_any 29 [] _ _ _ _).mono ?_
     rintro e w10 ⟨rfl,hb10⟩
     have S10:=S3.below hb10
     have Tt10:=Tre.leaf w w10 29 [] 0 none 0
     have HR : Hid (simpleR X.l (ps X.l n) h i = .ok (.mk 29 [] 0 []) (i + 1)):=by simp [Hid,simpleR,E1.out,E2.out,E3.out]
     obtain ⟨u0,u1,u2,u3,b0,b1,b2,b3,bf⟩:=S10.box.open
     have bf0:=bf 0
     have bf1:=bf 1
     have bf2:=bf 2
     have bf3:=bf 3
     clear bf
     go_wp2
     obtain ⟨Wf,hWf,hput,_,d0,d1,d2,d3⟩:=putN4 S10.box (.int .i64 29) (.string ⟨([]).toArray⟩) (.int .i64 0) (.slice none 0 0)
     rw [hWf]
     exact bodyPost_ret (v:=.agg #[.int .i64 29,.string ⟨([]).toArray⟩,.int .i64 0,.slice none 0 0]) (by simp [results,Tryz.results173,go_sem,d0,d1,d2,d3]) rfl (OutT.of HR (S10.done Tt10 hput (by omega)))
   | true =>
    refine (take_yes X w1 i h S1.par [98,114,101,97,107] (by decide) hm2).mono ?_
    rintro e w2 ⟨rfl,hb2,H2⟩
    have E2:=Lib.hid hm2
    have S2:=S1.call hb2 H2
    have lt2:=H2.lt
    clear hm2
    go_wp2_with fail
    refine (node_any 28 [] _ _ _ _).mono ?_
    rintro e w11 ⟨rfl,hb11⟩
    have S11:=S2.below hb11
    have Tt11:=Tre.leaf w w11 28 [] 0 none 0
    have HR : Hid (simpleR X.l (ps X.l n) h i = .ok (.mk 28 [] 0 []) (i + 1)):=by simp [Hid,simpleR,E1.out,E2.out]
    obtain ⟨u0,u1,u2,u3,b0,b1,b2,b3,bf⟩:=S11.box.open
    have bf0:=bf 0
    have bf1:=bf 1
    have bf2:=bf 2
    have bf3:=bf 3
    clear bf
    go_wp2
    obtain ⟨Wf,hWf,hput,_,d0,d1,d2,d3⟩:=putN4 S11.box (.int .i64 28) (.string ⟨([]).toArray⟩) (.int .i64 0) (.slice none 0 0)
    rw [hWf]
    exact bodyPost_ret (v:=.agg #[.int .i64 28,.string ⟨([]).toArray⟩,.int .i64 0,.slice none 0 0]) (by simp [results,Tryz.results173,go_sem,d0,d1,d2,d3]) rfl (OutT.of HR (S11.done Tt11 hput (by omega)))
  | true =>
   refine (take_yes X W0 i h S0.par [118,97,114] (by decide) hm1).mono ?_
   rintro e w1 ⟨rfl,hb1,H1⟩
   have E1:=Lib.hid hm1
   have S1:=S0.call hb1 H1
   have lt1:=H1.lt
   clear hm1
   go_wp2_with fail
   refine (variable_any X n A w1 (i + 1) h S1.par (by omega)).mono ?_
   rintro e w12 ⟨hb12,hr12⟩
   cases hp12 : variableR X.l (ps X.l n) h (i + 1) with
   | bad j12 =>
    rw [hp12] at hr12
    obtain ⟨rfl,h12,H12⟩:=hr12
    have E12:=Lib.hid hp12
    have HR : Hid (simpleR X.l (ps X.l n) h i = .bad j12):=by simp [Hid,simpleR,E1.out,E12.out]
    exact ⟨rfl,OutT.of HR (S1.bad hb12 H12)⟩
   | ok t12 j12 =>
    rw [hp12] at hr12
    obtain ⟨ij12,H12,sl12,rfl,hk12⟩:=hr12
    obtain ⟨ao12,n12,c12,rfl⟩:=hk12.slice
    have E12:=Lib.hid hp12
    have S12:=S1.call hb12 H12
    have lt12:=H12.lt
    have Tt12:=Tre.new S1 hk12
    clear hp12 hk12
    have HR : Hid (simpleR X.l (ps X.l n) h i = .ok t12 j12):=by simp [Hid,simpleR,E1.out,E12.out]
    obtain ⟨u0,u1,u2,u3,b0,b1,b2,b3,bf⟩:=S12.box.open
    have bf0:=bf 0
    have bf1:=bf 1
    have bf2:=bf 2
    have bf3:=bf 3
    clear bf
    go_wp2
    obtain ⟨Wf,hWf,hput,_,d0,d1,d2,d3⟩:=putN4 S12.box (.int .i64 t12.kind) (.string ⟨t12.text.toArray⟩) (.int .i64 t12.num) (.slice ao12 n12 c12)
    rw [hWf]
    exact bodyPost_ret (v:=.agg #[.int .i64 t12.kind,.string ⟨t12.text.toArray⟩,.int .i64 t12.num,.slice ao12 n12 c12]) (by simp [results,Tryz.results173,go_sem,d0,d1,d2,d3]) rfl (OutT.of HR (S12.done Tt12 hput (by omega)))
set_option maxRecDepth 20000 in
set_option maxHeartbeats 1600000 in
theorem forStatement_any (X : Px) (n : Nat) (A : Good X n) (w : World) (i : Nat) (h : Bool) (H : Par X w i h) (hn : 3 * (X.l.length - i) + 1 ≤ n) :
    Calls Tryz.prog 172 #[X.p] w (OutT X w i h (forR X.l (ps X.l n) i)):=by
  obtain ⟨W0,hW0,S0⟩:=St.first H
  have lt0:=H.lt
  go_enter Tryz.func172,Tryz.ntmps172
  go_wp2_with fail
  have cI1:=is_any X W0 i h S0.par [123]
  cases hm1 : isM X.l i [123] with
  | false =>
   rw [hm1] at cI1
   refine cI1.mono ?_
   rintro e w1 ⟨rfl,hb1⟩
   have E1:=Lib.hid hm1
   have S1:=S0.below hb1
   clear hm1 cI1
   go_wp2_with fail
   refine (condition_any X n A w1 i h S1.par (by omega)).mono ?_
   rintro e w2 ⟨hb2,hr2⟩
   cases hp2 : condR (ps X.l n) i with
   | bad j2 =>
    rw [hp2] at hr2
    obtain ⟨rfl,h2,H2⟩:=hr2
    have E2:=Lib.hid hp2
    have HR : Hid (forR X.l (ps X.l n) i = .bad j2):=by simp [Hid,forR,Res.bind,E1.out,E2.out]
    exact ⟨rfl,OutT.of HR (S1.bad hb2 H2)⟩
   | ok t2 j2 =>
    rw [hp2] at hr2
    obtain ⟨ij2,H2,sl2,rfl,hk2⟩:=hr2
    obtain ⟨ao2,n2,c2,rfl⟩:=hk2.slice
    have E2:=Lib.hid hp2
    have S2:=S1.call hb2 H2
    have lt2:=H2.lt
    have Tt2:=Tre.new S1 hk2
    clear hp2 hk2
    go_wp2_with fail
    refine (A.blk w2 j2 h S2.par (by omega)).mono ?_
    rintro e w3 ⟨hb3,hr3⟩
    cases hp3 : (ps X.l n).blk j2 with
    | bad j3 =>
     rw [hp3] at hr3
     obtain ⟨rfl,h3,H3⟩:=hr3
     have E3:=Lib.hid hp3
     have HR : Hid (forR X.l (ps X.l n) i = .bad j3):=by simp [Hid,forR,Res.bind,E1.out,E2.out,E3.out]
     exact ⟨rfl,OutT.of HR (S2.bad hb3 H3)⟩
    | ok t3 j3 =>
     rw [hp3] at hr3
     obtain ⟨ij3,H3,sl3,rfl,hk3⟩:=hr3
     obtain ⟨ao3,n3,c3,rfl⟩:=hk3.slice
     have E3:=Lib.hid hp3
     have S3:=S2.call hb3 H3
     have Tt2_3:=Tt2.call S2 hb3
     have lt3:=H3.lt
     have Tt3:=Tre.new S2 hk3
     clear hp3 hk3
     have Tl4:=Own.made2 S3 Tt2_3 Tt3
     have S4:=S3.alloc (.cells #[.int .i64 t2.kind,.string ⟨t2.text.toArray⟩,.int .i64 t2.num,.slice ao2 n2 c2,.int .i64 t3.kind,.string ⟨t3.text.toArray⟩,.int .i64 t3.num,.slice ao3 n3 c3] 24)
     go_wp2_with fail
     refine (node_any 26 [] _ _ _ _).mono ?_
     rintro e w5 ⟨rfl,hb5⟩
     have S5:=S4.below hb5
     have Tl4_5:=Tl4.below hb5
     have Tt5:=Tl4_5.tre 26 [] 0
     have HR : Hid (forR X.l (ps X.l n) i = .ok (.mk 26 [] 0 [t2,t3]) j3):=by simp [Hid,forR,Res.bind,E1.out,E2.out,E3.out]
     obtain ⟨u0,u1,u2,u3,b0,b1,b2,b3,bf⟩:=S5.box.open
     have bf0:=bf 0
     have bf1:=bf 1
     have bf2:=bf 2
     have bf3:=bf 3
     clear bf
     go_wp2
     obtain ⟨Wf,hWf,hput,_,d0,d1,d2,d3⟩:=putN4 S5.box (.int .i64 26) (.string ⟨([]).toArray⟩) (.int .i64 0) (.slice (some ⟨w3.heap.size,0,none⟩) 2 2)
     rw [hWf]
     exact bodyPost_ret (v:=.agg #[.int .i64 26,.string ⟨([]).toArray⟩,.int .i64 0,.slice (some ⟨w3.heap.size,0,none⟩) 2 2]) (by simp [results,Tryz.results172,go_sem,d0,d1,d2,d3]) rfl (OutT.of HR (S5.done Tt5 hput (by omega)))
  | true =>
   rw [hm1] at cI1
   refine cI1.mono ?_
   rintro e w1 ⟨rfl,hb1⟩
   have E1:=Lib.hid hm1
   have S1:=S0.below hb1
   clear hm1 cI1
   go_wp2_with fail
   refine (A.blk w1 i h S1.par (by omega)).mono ?_
   rintro e w6 ⟨hb6,hr6⟩
   cases hp6 : (ps X.l n).blk i with
   | bad j6 =>
    rw [hp6] at hr6
    obtain ⟨rfl,h6,H6⟩:=hr6
    have E6:=Lib.hid hp6
    have HR : Hid (forR X.l (ps X.l n) i = .bad j6):=by simp [Hid,forR,Res.bind,E1.out,E6.out]
    exact ⟨rfl,OutT.of HR (S1.bad hb6 H6)⟩
   | ok t6 j6 =>
    rw [hp6] at hr6
    obtain ⟨ij6,H6,sl6,rfl,hk6⟩:=hr6
    obtain ⟨ao6,n6,c6,rfl⟩:=hk6.slice
    have E6:=Lib.hid hp6
    have S6:=S1.call hb6 H6
    have lt6:=H6.lt
    have Tt6:=Tre.new S1 hk6
    clear hp6 hk6
    have Tl7:=Own.made1 S6 Tt6
    have S7:=S6.alloc (.cells #[.int .i64 t6.kind,.string ⟨t6.text.toArray⟩,.int .i64 t6.num,.slice ao6 n6 c6] 24)
    go_wp2_with fail
    refine (node_any 26 [] _ _ _ _).mono ?_
    rintro e w8 ⟨rfl,hb8⟩
    have S8:=S7.below hb8
    have Tl7_8:=Tl7.below hb8
    have Tt8:=Tl7_8.tre 26 [] 0
    have HR : Hid (forR X.l (ps X.l n) i = .ok (.mk 26 [] 0 [t6]) j6):=by simp [Hid,forR,Res.bind,E1.out,E6.out]
    obtain ⟨u0,u1,u2,u3,b0,b1,b2,b3,bf⟩:=S8.box.open
    have bf0:=bf 0
    have bf1:=bf 1
    have bf2:=bf 2
    have bf3:=bf 3
    clear bf
    go_wp2
    obtain ⟨Wf,hWf,hput,_,d0,d1,d2,d3⟩:=putN4 S8.box (.int .i64 26) (.string ⟨([]).toArray⟩) (.int .i64 0) (.slice (some ⟨w6.heap.size,0,none⟩) 1 1)
    rw [hWf]
    exact bodyPost_ret (v:=.agg #[.int .i64 26,.string ⟨([]).toArray⟩,.int .i64 0,.slice (some ⟨w6.heap.size,0,none⟩) 1 1]) (by simp [results,Tryz.results172,go_sem,d0,d1,d2,d3]) rfl (OutT.of HR (S8.done Tt8 hput (by omega)))
set_option maxRecDepth 20000 in
set_option maxHeartbeats 8000000 in
theorem ifStatement_any (X : Px) (n : Nat) (A : Good X n) (w : World) (i : Nat) (h : Bool) (H : Par X w i h) (hn : 3 * (X.l.length - i) + 2 ≤ n + 1) :
    Calls Tryz.prog 171 #[X.p] w (OutT X w i h (ifSS X.l (ps X.l n) i)):=by
  obtain ⟨W0,hW0,S0⟩:=St.first H
  have lt0:=H.lt
  go_enter Tryz.func171,Tryz.ntmps171
  go_wp2_with fail
  refine (condition_any X n A W0 i h S0.par (by omega)).mono ?_
  rintro e w1 ⟨hb1,hr1⟩
  cases hp1 : condR (ps X.l n) i with
  | bad j1 =>
   rw [hp1] at hr1
   obtain ⟨rfl,h1,H1⟩:=hr1
   have E1:=Lib.hid hp1
   have HR : Hid (ifSS X.l (ps X.l n) i = .bad j1):=by simp [Hid,ifSS,Res.bind,E1.out]
   exact ⟨rfl,OutT.of HR (S0.bad hb1 H1)⟩
  | ok t1 j1 =>
   rw [hp1] at hr1
   obtain ⟨ij1,H1,sl1,rfl,hk1⟩:=hr1
   obtain ⟨ao1,n1,c1,rfl⟩:=hk1.slice
   have E1:=Lib.hid hp1
   have S1:=S0.call hb1 H1
   have lt1:=H1.lt
   have Tt1:=Tre.new S0 hk1
   clear hp1 hk1
   go_wp2_with fail
   refine (A.blk w1 j1 h S1.par (by omega)).mono ?_
   rintro e w2 ⟨hb2,hr2⟩
   cases hp2 : (ps X.l n).blk j1 with
   | bad j2 =>
    rw [hp2] at hr2
    obtain ⟨rfl,h2,H2⟩:=hr2
    have E2:=Lib.hid hp2
    have HR : Hid (ifSS X.l (ps X.l n) i = .bad j2):=by simp [Hid,ifSS,Res.bind,E1.out,E2.out]
    exact ⟨rfl,OutT.of HR (S1.bad hb2 H2)⟩
   | ok t2 j2 =>
    rw [hp2] at hr2
    obtain ⟨ij2,H2,sl2,rfl,hk2⟩:=hr2
    obtain ⟨ao2,n2,c2,rfl⟩:=hk2.slice
    have E2:=Lib.hid hp2
    have S2:=S1.call hb2 H2
    have Tt1_2:=Tt1.call S1 hb2
    have lt2:=H2.lt
    have Tt2:=Tre.new S1 hk2
    clear hp2 hk2
    have Tl3:=Own.made2 S2 Tt1_2 Tt2
    have S3:=S2.alloc (.cells #[.int .i64 t1.kind,.string ⟨t1.text.toArray⟩,.int .i64 t1.num,.slice ao1 n1 c1,.int .i64 t2.kind,.string ⟨t2.text.toArray⟩,.int .i64 t2.num,.slice ao2 n2 c2] 24)
    go_wp2_with fail
    refine (node_any 25 [] _ _ _ _).mono ?_
    rintro e w4 ⟨rfl,hb4⟩
    have S4:=S3.below hb4
    have Tl3_4:=Tl3.below hb4
    have Tt4:=Tl3_4.tre 25 [] 0
    have N5:=NBox.new (X:=X) (k:=25) (s:=[]) (num:=0) Tl3_4 S4.lt
    have S6:=S4.alloc (.cells #[.int .i64 25,.string ⟨([]).toArray⟩,.int .i64 0,.slice (some ⟨w2.heap.size,0,none⟩) 2 2] 24)
    have Tt4_6:=Tt4.alloc (.cells #[.int .i64 25,.string ⟨([]).toArray⟩,.int .i64 0,.slice (some ⟨w2.heap.size,0,none⟩) 2 2] 24)
    go_wp2_with fail
    cases hm7 : isM X.l j2 [101,108,115,101] with
    | false =>
     refine (take_no X (w4.alloc (.cells #[.int .i64 25,.string ⟨([]).toArray⟩,.int .i64 0,.slice (some ⟨w2.heap.size,0,none⟩) 2 2] 24)) j2 h S6.par [101,108,115,101] hm7).mono ?_
     rintro e w7 ⟨rfl,hb7,H7⟩
     have E7:=Lib.hid hm7
     have S7:=S6.call hb7 H7
     have lt7:=H7.lt
     have N7:=N5.call S6 hb7
     clear hm7
     have Tt8:=N7.tre
     obtain ⟨q0,q1,q2,q3,_⟩:=N7.cells
     have HR : Hid (ifSS X.l (ps X.l n) i = .ok (.mk 25 [] 0 [t1,t2]) j2):=by simp [Hid,ifSS,Res.bind,E1.out,E2.out,E7.out]
     obtain ⟨u0,u1,u2,u3,b0,b1,b2,b3,bf⟩:=S7.box.open
     have bf0:=bf 0
     have bf1:=bf 1
     have bf2:=bf 2
     have bf3:=bf 3
     clear bf
     go_wp2
     obtain ⟨Wf,hWf,hput,_,d0,d1,d2,d3⟩:=putN4 S7.box (.int .i64 25) (.string ⟨([]).toArray⟩) (.int .i64 0) (.slice (some ⟨w2.heap.size,0,none⟩) 2 2)
     rw [hWf]
     exact bodyPost_ret (v:=.agg #[.int .i64 25,.string ⟨([]).toArray⟩,.int .i64 0,.slice (some ⟨w2.heap.size,0,none⟩) 2 2]) (by simp [results,Tryz.results171,go_sem,d0,d1,d2,d3]) rfl (OutT.of HR (S7.done Tt8 hput (by omega)))
    | true =>
     refine (take_yes X (w4.alloc (.cells #[.int .i64 25,.string ⟨([]).toArray⟩,.int .i64 0,.slice (some ⟨w2.heap.size,0,none⟩) 2 2] 24)) j2 h S6.par [101,108,115,101] (by decide) hm7).mono ?_
     rintro e w7 ⟨rfl,hb7,H7⟩
     have E7:=Lib.hid hm7
     have S7:=S6.call hb7 H7
     have lt7:=H7.lt
     have N7:=N5.call S6 hb7
     clear hm7
     go_wp2_with fail
     cases hm9 : isM X.l (j2 + 1) [105,102] with
     | false =>
      refine (take_no X w7 (j2 + 1) h S7.par [105,102] hm9).mono ?_
      rintro e w9 ⟨rfl,hb9,H9⟩
      have E9:=Lib.hid hm9
      have S9:=S7.call hb9 H9
      have lt9:=H9.lt
      have N9:=N7.call S7 hb9
      clear hm9
      generalize Value.slice (some ⟨w2.heap.size,0,none⟩) 2 2 = V10 at *
      have lo10:=OwnL.lt N9.own.own
      have cB:=A.blk (w9).drew (j2 + 1) h S9.drew.par (by omega)
      obtain ⟨q0,q1,q2,q3,qf⟩:=N9.cells
      have qf3:=qf 3
      clear qf
      have sb:=S9.lt
      have bd0:=S9.par.bnd
      go_wp2_with fail
      go_region_law (first
        | (go_simp; go_at_call 103; refine cB.mono ?_; rintro e w5 ⟨hb5,hr5⟩; rcases Res.or ((ps X.l n).blk (j2 + 1)) with ⟨j,hp⟩ | ⟨r,j,hp⟩
           · (rw [hp] at hr5; obtain ⟨rfl,h5,H5⟩:=hr5; have HR : Hid (ifSS X.l (ps X.l n) i = .bad j):=(by simp [Hid,ifSS,Res.bind,E1.out,E2.out,E7.out,E9.out,hp]); exact ⟨rfl,OutT.of HR (S9.drew.bad hb5 H5)⟩)
           rw [hp] at hr5
           obtain ⟨ij5,H5,sl5,rfl,hk5⟩:=hr5
           obtain ⟨ao5,n5,c5,rfl⟩:=hk5.slice
           have E5:=Lib.hid hp
           have S5:=S9.drew.call hb5 H5
           have N5:=N9.drew.call S9.drew hb5
           have lz5:=hb5.size
           have ld5 : (w9).drew.heap.size = (w9).heap.size:=rfl
           have bd5:=H5.bnd
           have lm5:=N9.ltz
           have hO5:=OwnQ.of (Q:=fun b => b ≠ w4.heap.size) (OwnL.one (B:=(w9).heap.size) lz5 hk5 (Nat.le_refl _) (Nat.le_refl _)) (fun b hb _ => by omega)
           have N5a:=N5.alloc (.cells #[.int .i64 r.kind,.string ⟨r.text.toArray⟩,.int .i64 r.num,.slice ao5 n5 c5] 24)
           have S5a:=S5.alloc (.cells #[.int .i64 r.kind,.string ⟨r.text.toArray⟩,.int .i64 r.num,.slice ao5 n5 c5] 24)
           obtain ⟨y0,y1,y2,y3,yf⟩:=N5.cells
           have yf3:=yf 3
           have ym:=N5.ltz
           have yn : w4.heap.size ≠ w5.heap.size:=Nat.ne_of_lt ym
           have yn2 : w5.heap.size ≠ w4.heap.size:=fun e => yn e.symm
           clear yf hp)
        | (refine step_join (by rfl) _ _ (by rfl) (by rfl) (by rfl) N5a.own hO5 ?_ ?_ ?_ ?_ ?_ ?_
           · simp; omega
           · omega
           · simp; omega
           · exact fun q hq => (lo10 q hq).2
           · simp
           intro ao6 c6 w6 hO6 hg6
           have S6:=S5a.grown hg6 (fun q hq => (lo10 q hq).1)
           have B6:=N5a.grown hg6
           obtain ⟨z0,z1,z2,z3,zf⟩:=cells_of_blk B6
           have zf3:=zf 3
           clear zf))
      all_goals
       have hpx:=(Put.refl (w4.heap.size) w6).setCell 3 (.slice ao6 3 c6)
       have S7x:=S6.put hpx N5a.lt
       have Ttx : Tre w (w6.setCell ⟨w4.heap.size,3,none⟩ (.slice ao6 3 c6)) (.mk 25 [] 0 [t1,t2,r]) (.slice ao6 3 c6):=OwnL.kt (hO6.put hpx) 25 [] 0
       have zz0 : (w6.setCell ⟨w4.heap.size,3,none⟩ (.slice ao6 3 c6)).heap[w4.heap.size]? = some (.cells #[.int .i64 25,.string ⟨([]).toArray⟩,.int .i64 0,.slice ao6 3 c6] 24 (0,0)):=(heap_setCell_same w6 (w4.heap.size) 3 _ B6).trans rfl
       clear z0 z1 z2 z3 zf3 hg6 hO6 B6 y0 y1 y2 y3 yf3 q0 q1 q2 q3 qf3
       generalize w6.setCell ⟨w4.heap.size,3,none⟩ (.slice ao6 3 c6) = w7x at *
       obtain ⟨z0,z1,z2,z3,_⟩:=cells_of_blk zz0
       have HR : Hid (ifSS X.l (ps X.l n) i = .ok (.mk 25 [] 0 [t1,t2,r]) j):=by simp [Hid,ifSS,Res.bind,E1.out,E2.out,E7.out,E9.out,E5.out]
       obtain ⟨u0,u1,u2,u3,b0,b1,b2,b3,bf⟩:=S7x.box.open
       have bf0:=bf 0
       have bf1:=bf 1
       have bf2:=bf 2
       have bf3:=bf 3
       clear bf
       go_wp2
       obtain ⟨Wf,hWf,hput,_,d0,d1,d2,d3⟩:=putN4 S7x.box (.int .i64 25) (.string ⟨([]).toArray⟩) (.int .i64 0) (.slice ao6 3 c6)
       rw [hWf]
       exact bodyPost_ret (v:=.agg #[.int .i64 25,.string ⟨([]).toArray⟩,.int .i64 0,.slice ao6 3 c6]) (by simp [results,Tryz.results171,go_sem,d0,d1,d2,d3]) rfl (OutT.of HR (S7x.done Ttx hput (by omega)))
     | true =>
      refine (take_yes X w7 (j2 + 1) h S7.par [105,102] (by decide) hm9).mono ?_
      rintro e w9 ⟨rfl,hb9,H9⟩
      have E9:=Lib.hid hm9
      have S9:=S7.call hb9 H9
      have lt9:=H9.lt
      have N9:=N7.call S7 hb9
      clear hm9
      generalize Value.slice (some ⟨w2.heap.size,0,none⟩) 2 2 = V11 at *
      have lo11:=OwnL.lt N9.own.own
      have cB:=A.ifS (w9).drew (j2 + 2) h S9.drew.par (by omega)
      obtain ⟨q0,q1,q2,q3,qf⟩:=N9.cells
      have qf3:=qf 3
      clear qf
      have sb:=S9.lt
      have bd0:=S9.par.bnd
      go_wp2_with fail
      go_region_law (first
        | (go_simp; go_at_call 171; refine cB.mono ?_; rintro e w5 ⟨hb5,hr5⟩; rcases Res.or ((ps X.l n).ifS (j2 + 2)) with ⟨j,hp⟩ | ⟨r,j,hp⟩
           · (rw [hp] at hr5; obtain ⟨rfl,h5,H5⟩:=hr5; have HR : Hid (ifSS X.l (ps X.l n) i = .bad j):=(by simp [Hid,ifSS,Res.bind,E1.out,E2.out,E7.out,E9.out,hp]); exact ⟨rfl,OutT.of HR (S9.drew.bad hb5 H5)⟩)
           rw [hp] at hr5
           obtain ⟨ij5,H5,sl5,rfl,hk5⟩:=hr5
           obtain ⟨ao5,n5,c5,rfl⟩:=hk5.slice
           have E5:=Lib.hid hp
           have S5:=S9.drew.call hb5 H5
           have N5:=N9.drew.call S9.drew hb5
           have lz5:=hb5.size
           have ld5 : (w9).drew.heap.size = (w9).heap.size:=rfl
           have bd5:=H5.bnd
           have lm5:=N9.ltz
           have hO5:=OwnQ.of (Q:=fun b => b ≠ w4.heap.size) (OwnL.one (B:=(w9).heap.size) lz5 hk5 (Nat.le_refl _) (Nat.le_refl _)) (fun b hb _ => by omega)
           have N5a:=N5.alloc (.cells #[.int .i64 r.kind,.string ⟨r.text.toArray⟩,.int .i64 r.num,.slice ao5 n5 c5] 24)
           have S5a:=S5.alloc (.cells #[.int .i64 r.kind,.string ⟨r.text.toArray⟩,.int .i64 r.num,.slice ao5 n5 c5] 24)
           obtain ⟨y0,y1,y2,y3,yf⟩:=N5.cells
           have yf3:=yf 3
           have ym:=N5.ltz
           have yn : w4.heap.size ≠ w5.heap.size:=Nat.ne_of_lt ym
           have yn2 : w5.heap.size ≠ w4.heap.size:=fun e => yn e.symm
           clear yf hp)
        | (refine step_join (by rfl) _ _ (by rfl) (by rfl) (by rfl) N5a.own hO5 ?_ ?_ ?_ ?_ ?_ ?_
           · simp; omega
           · omega
           · simp; omega
           · exact fun q hq => (lo11 q hq).2
           · simp
           intro ao6 c6 w6 hO6 hg6
           have S6:=S5a.grown hg6 (fun q hq => (lo11 q hq).1)
           have B6:=N5a.grown hg6
           obtain ⟨z0,z1,z2,z3,zf⟩:=cells_of_blk B6
           have zf3:=zf 3
           clear zf))
      all_goals
       have hpx:=(Put.refl (w4.heap.size) w6).setCell 3 (.slice ao6 3 c6)
       have S7x:=S6.put hpx N5a.lt
       have Ttx : Tre w (w6.setCell ⟨w4.heap.size,3,none⟩ (.slice ao6 3 c6)) (.mk 25 [] 0 [t1,t2,r]) (.slice ao6 3 c6):=OwnL.kt (hO6.put hpx) 25 [] 0
       have zz0 : (w6.setCell ⟨w4.heap.size,3,none⟩ (.slice ao6 3 c6)).heap[w4.heap.size]? = some (.cells #[.int .i64 25,.string ⟨([]).toArray⟩,.int .i64 0,.slice ao6 3 c6] 24 (0,0)):=(heap_setCell_same w6 (w4.heap.size) 3 _ B6).trans rfl
       clear z0 z1 z2 z3 zf3 hg6 hO6 B6 y0 y1 y2 y3 yf3 q0 q1 q2 q3 qf3
       generalize w6.setCell ⟨w4.heap.size,3,none⟩ (.slice ao6 3 c6) = w7x at *
       obtain ⟨z0,z1,z2,z3,_⟩:=cells_of_blk zz0
       have HR : Hid (ifSS X.l (ps X.l n) i = .ok (.mk 25 [] 0 [t1,t2,r]) j):=by simp [Hid,ifSS,Res.bind,E1.out,E2.out,E7.out,E9.out,E5.out]
       obtain ⟨u0,u1,u2,u3,b0,b1,b2,b3,bf⟩:=S7x.box.open
       have bf0:=bf 0
       have bf1:=bf 1
       have bf2:=bf 2
       have bf3:=bf 3
       clear bf
       go_wp2
       obtain ⟨Wf,hWf,hput,_,d0,d1,d2,d3⟩:=putN4 S7x.box (.int .i64 25) (.string ⟨([]).toArray⟩) (.int .i64 0) (.slice ao6 3 c6)
       rw [hWf]
       exact bodyPost_ret (v:=.agg #[.int .i64 25,.string ⟨([]).toArray⟩,.int .i64 0,.slice ao6 3 c6]) (by simp [results,Tryz.results171,go_sem,d0,d1,d2,d3]) rfl (OutT.of HR (S7x.done Ttx hput (by omega)))
set_option maxRecDepth 20000 in
set_option maxHeartbeats 1600000 in
theorem statement_any (X : Px) (n : Nat) (A : Good X n) (w : World) (i : Nat) (h : Bool) (H : Par X w i h) (hn : 3 * (X.l.length - i) + 1 ≤ n) :
    Calls Tryz.prog 145 #[X.p] w (OutT X w i h (stmtR X.l (ps X.l n) h i)):=by
  obtain ⟨W0,hW0,S0⟩:=St.first H
  have lt0:=H.lt
  go_enter Tryz.func145,Tryz.ntmps145
  go_wp2_with fail
  have cI1:=is_any X W0 i h S0.par [123]
  cases hm1 : isM X.l i [123] with
  | false =>
   rw [hm1] at cI1
   refine cI1.mono ?_
   rintro e w1 ⟨rfl,hb1⟩
   have E1:=Lib.hid hm1
   have S1:=S0.below hb1
   clear hm1 cI1
   go_wp2_with fail
   cases hm2 : isM X.l i [105,102] with
   | false =>
    refine (take_no X w1 i h S1.par [105,102] hm2).mono ?_
    rintro e w2 ⟨rfl,hb2,H2⟩
    have E2:=Lib.hid hm2
    have S2:=S1.call hb2 H2
    have lt2:=H2.lt
    clear hm2
    go_wp2_with fail
    cases hm3 : isM X.l i [102,111,114] with
    | false =>
     refine (take_no X w2 i h S2.par [102,111,114] hm3).mono ?_
     rintro e w3 ⟨rfl,hb3,H3⟩
     have E3:=Lib.hid hm3
     have S3:=S2.call hb3 H3
     have lt3:=H3.lt
     clear hm3
     go_wp2_with fail
     refine (simple_any X n A w3 i h S3.par (by omega)).mono ?_
     rintro e w4 ⟨hb4,hr4⟩
     cases hp4 : simpleR X.l (ps X.l n) h i with
     | bad j4 =>
      rw [hp4] at hr4
      obtain ⟨rfl,h4,H4⟩:=hr4
      have E4:=Lib.hid hp4
      have HR : Hid (stmtR X.l (ps X.l n) h i = .bad j4):=by simp [Hid,stmtR,Res.bind,E1.out,E2.out,E3.out,E4.out]
      exact ⟨rfl,OutT.of HR (S3.bad hb4 H4)⟩
     | ok t4 j4 =>
      rw [hp4] at hr4
      obtain ⟨ij4,H4,sl4,rfl,hk4⟩:=hr4
      obtain ⟨ao4,n4,c4,rfl⟩:=hk4.slice
      have E4:=Lib.hid hp4
      have S4:=S3.call hb4 H4
      have lt4:=H4.lt
      have Tt4:=Tre.new S3 hk4
      clear hp4 hk4
      have pl5:=S4.par.plt
      have S5:=S4.alloc (.cells #[.int .i64 t4.kind,.string ⟨t4.text.toArray⟩,.int .i64 t4.num,.slice ao4 n4 c4] 24)
      have Tt4_5:=Tt4.alloc (.cells #[.int .i64 t4.kind,.string ⟨t4.text.toArray⟩,.int .i64 t4.num,.slice ao4 n4 c4] 24)
      go_wp2_with fail
      cases hm6 : isM X.l j4 [59] with
      | false =>
       have E6:=Lib.hid (needR_no hm6)
       refine (need_no X (w4.alloc (.cells #[.int .i64 t4.kind,.string ⟨t4.text.toArray⟩,.int .i64 t4.num,.slice ao4 n4 c4] 24)) j4 h S5.par [59] hm6).mono ?_
       rintro e w6 ⟨rfl,hb6,H6⟩
       have HR : Hid (stmtR X.l (ps X.l n) h i = .bad j4):=by simp [Hid,stmtR,Res.bind,E1.out,E2.out,E3.out,E4.out,E6.out]
       exact ⟨rfl,OutT.of HR (S5.bad hb6 H6)⟩
      | true =>
       have E6:=Lib.hid (needR_yes hm6)
       refine (need_yes X (w4.alloc (.cells #[.int .i64 t4.kind,.string ⟨t4.text.toArray⟩,.int .i64 t4.num,.slice ao4 n4 c4] 24)) j4 h S5.par [59] (by decide) hm6).mono ?_
       rintro e w6 ⟨rfl,hb6,H6⟩
       obtain ⟨q0,q1,q2,q3⟩:=held4 hb6 pl5
       have S6:=S5.call hb6 H6
       have Tt4_6:=Tt4_5.call S5 hb6
       have lt6:=H6.lt
       clear hm6
       have HR : Hid (stmtR X.l (ps X.l n) h i = .ok t4 (j4 + 1)):=by simp [Hid,stmtR,Res.bind,E1.out,E2.out,E3.out,E4.out,E6.out]
       obtain ⟨u0,u1,u2,u3,b0,b1,b2,b3,bf⟩:=S6.box.open
       have bf0:=bf 0
       have bf1:=bf 1
       have bf2:=bf 2
       have bf3:=bf 3
       clear bf
       go_wp2
       obtain ⟨Wf,hWf,hput,_,d0,d1,d2,d3⟩:=putN4 S6.box (.int .i64 t4.kind) (.string ⟨t4.text.toArray⟩) (.int .i64 t4.num) (.slice ao4 n4 c4)
       rw [hWf]
       exact bodyPost_ret (v:=.agg #[.int .i64 t4.kind,.string ⟨t4.text.toArray⟩,.int .i64 t4.num,.slice ao4 n4 c4]) (by simp [results,Tryz.results145,go_sem,d0,d1,d2,d3]) rfl (OutT.of HR (S6.done Tt4_6 hput (by omega)))
    | true =>
     refine (take_yes X w2 i h S2.par [102,111,114] (by decide) hm3).mono ?_
     rintro e w3 ⟨rfl,hb3,H3⟩
     have E3:=Lib.hid hm3
     have S3:=S2.call hb3 H3
     have lt3:=H3.lt
     clear hm3
     go_wp2_with fail
     refine (forStatement_any X n A w3 (i + 1) h S3.par (by omega)).mono ?_
     rintro e w7 ⟨hb7,hr7⟩
     cases hp7 : forR X.l (ps X.l n) (i + 1) with
     | bad j7 =>
      rw [hp7] at hr7
      obtain ⟨rfl,h7,H7⟩:=hr7
      have E7:=Lib.hid hp7
      have HR : Hid (stmtR X.l (ps X.l n) h i = .bad j7):=by simp [Hid,stmtR,E1.out,E2.out,E3.out,E7.out]
      exact ⟨rfl,OutT.of HR (S3.bad hb7 H7)⟩
     | ok t7 j7 =>
      rw [hp7] at hr7
      obtain ⟨ij7,H7,sl7,rfl,hk7⟩:=hr7
      obtain ⟨ao7,n7,c7,rfl⟩:=hk7.slice
      have E7:=Lib.hid hp7
      have S7:=S3.call hb7 H7
      have lt7:=H7.lt
      have Tt7:=Tre.new S3 hk7
      clear hp7 hk7
      have HR : Hid (stmtR X.l (ps X.l n) h i = .ok t7 j7):=by simp [Hid,stmtR,E1.out,E2.out,E3.out,E7.out]
      obtain ⟨u0,u1,u2,u3,b0,b1,b2,b3,bf⟩:=S7.box.open
      have bf0:=bf 0
      have bf1:=bf 1
      have bf2:=bf 2
      have bf3:=bf 3
      clear bf
      go_wp2
      obtain ⟨Wf,hWf,hput,_,d0,d1,d2,d3⟩:=putN4 S7.box (.int .i64 t7.kind) (.string ⟨t7.text.toArray⟩) (.int .i64 t7.num) (.slice ao7 n7 c7)
      rw [hWf]
      exact bodyPost_ret (v:=.agg #[.int .i64 t7.kind,.string ⟨t7.text.toArray⟩,.int .i64 t7.num,.slice ao7 n7 c7]) (by simp [results,Tryz.results145,go_sem,d0,d1,d2,d3]) rfl (OutT.of HR (S7.done Tt7 hput (by omega)))
   | true =>
    refine (take_yes X w1 i h S1.par [105,102] (by decide) hm2).mono ?_
    rintro e w2 ⟨rfl,hb2,H2⟩
    have E2:=Lib.hid hm2
    have S2:=S1.call hb2 H2
    have lt2:=H2.lt
    clear hm2
    go_wp2_with fail
    refine (A.ifS w2 (i + 1) h S2.par (by omega)).mono ?_
    rintro e w8 ⟨hb8,hr8⟩
    cases hp8 : (ps X.l n).ifS (i + 1) with
    | bad j8 =>
     rw [hp8] at hr8
     obtain ⟨rfl,h8,H8⟩:=hr8
     have E8:=Lib.hid hp8
     have HR : Hid (stmtR X.l (ps X.l n) h i = .bad j8):=by simp [Hid,stmtR,E1.out,E2.out,E8.out]
     exact ⟨rfl,OutT.of HR (S2.bad hb8 H8)⟩
    | ok t8 j8 =>
     rw [hp8] at hr8
     obtain ⟨ij8,H8,sl8,rfl,hk8⟩:=hr8
     obtain ⟨ao8,n8,c8,rfl⟩:=hk8.slice
     have E8:=Lib.hid hp8
     have S8:=S2.call hb8 H8
     have lt8:=H8.lt
     have Tt8:=Tre.new S2 hk8
     clear hp8 hk8
     have HR : Hid (stmtR X.l (ps X.l n) h i = .ok t8 j8):=by simp [Hid,stmtR,E1.out,E2.out,E8.out]
     obtain ⟨u0,u1,u2,u3,b0,b1,b2,b3,bf⟩:=S8.box.open
     have bf0:=bf 0
     have bf1:=bf 1
     have bf2:=bf 2
     have bf3:=bf 3
     clear bf
     go_wp2
     obtain ⟨Wf,hWf,hput,_,d0,d1,d2,d3⟩:=putN4 S8.box (.int .i64 t8.kind) (.string ⟨t8.text.toArray⟩) (.int .i64 t8.num) (.slice ao8 n8 c8)
     rw [hWf]
     exact bodyPost_ret (v:=.agg #[.int .i64 t8.kind,.string ⟨t8.text.toArray⟩,.int .i64 t8.num,.slice ao8 n8 c8]) (by simp [results,Tryz.results145,go_sem,d0,d1,d2,d3]) rfl (OutT.of HR (S8.done Tt8 hput (by omega)))
  | true =>
   rw [hm1] at cI1
   refine cI1.mono ?_
   rintro e w1 ⟨rfl,hb1⟩
   have E1:=Lib.hid hm1
   have S1:=S0.below hb1
   clear hm1 cI1
   go_wp2_with fail
   refine (A.blk w1 i h S1.par (by omega)).mono ?_
   rintro e w9 ⟨hb9,hr9⟩
   cases hp9 : (ps X.l n).blk i with
   | bad j9 =>
    rw [hp9] at hr9
    obtain ⟨rfl,h9,H9⟩:=hr9
    have E9:=Lib.hid hp9
    have HR : Hid (stmtR X.l (ps X.l n) h i = .bad j9):=by simp [Hid,stmtR,E1.out,E9.out]
    exact ⟨rfl,OutT.of HR (S1.bad hb9 H9)⟩
   | ok t9 j9 =>
    rw [hp9] at hr9
    obtain ⟨ij9,H9,sl9,rfl,hk9⟩:=hr9
    obtain ⟨ao9,n9,c9,rfl⟩:=hk9.slice
    have E9:=Lib.hid hp9
    have S9:=S1.call hb9 H9
    have lt9:=H9.lt
    have Tt9:=Tre.new S1 hk9
    clear hp9 hk9
    have HR : Hid (stmtR X.l (ps X.l n) h i = .ok t9 j9):=by simp [Hid,stmtR,E1.out,E9.out]
    obtain ⟨u0,u1,u2,u3,b0,b1,b2,b3,bf⟩:=S9.box.open
    have bf0:=bf 0
    have bf1:=bf 1
    have bf2:=bf 2
    have bf3:=bf 3
    clear bf
    go_wp2
    obtain ⟨Wf,hWf,hput,_,d0,d1,d2,d3⟩:=putN4 S9.box (.int .i64 t9.kind) (.string ⟨t9.text.toArray⟩) (.int .i64 t9.num) (.slice ao9 n9 c9)
    rw [hWf]
    exact bodyPost_ret (v:=.agg #[.int .i64 t9.kind,.string ⟨t9.text.toArray⟩,.int .i64 t9.num,.slice ao9 n9 c9]) (by simp [results,Tryz.results145,go_sem,d0,d1,d2,d3]) rfl (OutT.of HR (S9.done Tt9 hput (by omega)))
set_option maxRecDepth 20000 in
set_option maxHeartbeats 1600000 in
theorem block_any (X : Px) (n : Nat) (A : Good X n) (w : World) (i : Nat) (h : Bool) (H : Par X w i h) (hn : 3 * (X.l.length - i) ≤ n + 1) :
    Calls Tryz.prog 103 #[X.p] w (OutT X w i h (blkS X.l (ps X.l n) i)):=by
  obtain ⟨W0,hW0,S0⟩:=St.first H
  have lt0:=H.lt
  go_enter Tryz.func103,Tryz.ntmps103
  go_wp2_with fail
  refine (members_any X W0 i h (stmtR X.l (ps X.l n) false) 145 #[X.p] #[] enters_statement S0.par (fun _ w1 k hk _ H1 => by rw [Array.append_empty]; exact statement_any X n A w1 k false H1 (by omega))).mono ?_
  rintro e w1 ⟨⟨hb1,hr1⟩,hx1⟩
  cases hp1 : membersR X.l (stmtR X.l (ps X.l n) false) i with
  | bad j1 =>
   rw [hp1] at hr1
   obtain ⟨rfl,h1,H1⟩:=hr1
   have E1:=Lib.hid hp1
   have HR : Hid (blkS X.l (ps X.l n) i = .bad j1):=by simp [Hid,blkS,Res.bind,E1.out]
   exact ⟨rfl,OutT.of HR (S0.bad hb1 H1)⟩
  | ok l1 j1 =>
   rw [hp1] at hr1
   obtain ⟨ij1,H1,v1,rfl,hk1⟩:=hr1
   obtain ⟨ao1,c1,rfl⟩:=hk1.slice
   have xx1:=hx1 _ _ hp1
   have E1:=Lib.hid hp1
   have S1:=S0.call hb1 H1
   have lt1:=H1.lt
   have Tl1:=Own.new S0 hk1
   clear hp1
   clear hx1
   go_wp2_with fail
   refine (node_any 20 [] _ _ _ _).mono ?_
   rintro e w2 ⟨rfl,hb2⟩
   have S2:=S1.below hb2
   have Tl1_2:=Tl1.below hb2
   have Tt2:=Tl1_2.tre 20 [] 0
   have HR : Hid (blkS X.l (ps X.l n) i = .ok (.mk 20 [] 0 l1) j1):=by simp [Hid,blkS,Res.bind,E1.out]
   obtain ⟨u0,u1,u2,u3,b0,b1,b2,b3,bf⟩:=S2.box.open
   have bf0:=bf 0
   have bf1:=bf 1
   have bf2:=bf 2
   have bf3:=bf 3
   clear bf
   go_wp2
   obtain ⟨Wf,hWf,hput,_,d0,d1,d2,d3⟩:=putN4 S2.box (.int .i64 20) (.string ⟨([]).toArray⟩) (.int .i64 0) (.slice ao1 l1.length c1)
   rw [hWf]
   exact bodyPost_ret (v:=.agg #[.int .i64 20,.string ⟨([]).toArray⟩,.int .i64 0,.slice ao1 l1.length c1]) (by simp [results,Tryz.results103,go_sem,d0,d1,d2,d3]) rfl (OutT.of HR (S2.done Tt2 hput (by omega)))
end Go.Proofs.YtffnaknidofobaaGreatDoor
