/- The parser's types and signatures. -/
import Derived.Test.YtffnaknidofobaaGreatDoorParEJt
namespace Go.Proofs.YtffnaknidofobaaGreatDoor
open Go.RowKit
theorem enters_typ : Enters Tryz.prog 168:=enters_of Tryz.func168 (by kernel_rfl) rfl
theorem enters_parameter : Enters Tryz.prog 144:=enters_of Tryz.func144 (by kernel_rfl) rfl
theorem enters_types : Enters Tryz.prog 194:=enters_of Tryz.func194 (by kernel_rfl) rfl
theorem enters_receiver : Enters Tryz.prog 100:=enters_of Tryz.func100 (by kernel_rfl) rfl
theorem enters_field : Enters Tryz.prog 139:=enters_of Tryz.func139 (by kernel_rfl) rfl
theorem enters_method : Enters Tryz.prog 140:=enters_of Tryz.func140 (by kernel_rfl) rfl
theorem enters_statement : Enters Tryz.prog 145:=enters_of Tryz.func145 (by kernel_rfl) rfl
theorem enters_expression : Enters Tryz.prog 209:=enters_of Tryz.func209 (by kernel_rfl) rfl
theorem enters_declaration : Enters Tryz.prog 61:=enters_of Tryz.func61 (by kernel_rfl) rfl
theorem types_any (X : Px) (n : Nat) (A : Good X n) (w : World) (i : Nat) (h : Bool) (H : Par X w i h) (hn : 3 * (X.l.length - i) ≤ n) :
    Calls Tryz.prog 194 #[X.p] w (OutL X w i h (typesR X.l (ps X.l n) i)):=by
  have cC:=commas_any X w i h (ps X.l n).typ 168 #[X.p] #[] enters_typ H (fun w1 k hk _ H1 => by rw [Array.append_empty]; exact A.typ w1 k h H1 (by omega))
  have HX : Hid (typesR X.l (ps X.l n) i = commasR X.l (ps X.l n).typ i):=rfl
  go_enter Tryz.func194,Tryz.ntmps194
  go_wp2_with fail
  refine cC.mono ?_
  rintro e w2 ⟨⟨hb2,hr⟩,_⟩
  clear cC
  generalize commasR X.l (ps X.l n).typ i = r at *
  cases r with
  | bad j =>
   obtain ⟨rfl,h',H2⟩:=hr
   exact ⟨rfl,OutL.of HX ⟨hb2,rfl,h',H2⟩⟩
  | ok ts j =>
   obtain ⟨hij,H2,v,rfl,hk⟩:=hr
   obtain ⟨ao,cap,rfl⟩:=hk.slice
   go_wp2
   go_ret
   exact OutL.of HX ⟨hb2,hij,H2,_,rfl,hk⟩
set_option maxRecDepth 20000 in
theorem atType_any (X : Px) (w : World) (i : Nat) (h : Bool) (H : Par X w i h) :
    Calls Tryz.prog 195 #[X.p] w fun e w' => e = .returned (.bool (atTypeR X.l i)) ∧ Below w.heap.size w w':=by
  have cT:=tokenA_any X w i h H
  have hfd:=field_tok0
  cases hk : (kindA X.l i == 1) with
  | true =>
   have HX : Hid (atTypeR X.l i = true):=by simp [Hid,atTypeR,hk]
   go_enter Tryz.func195,Tryz.ntmps195
   go_wp2_with fail
   refine cT.mono ?_
   rintro e w1 ⟨rfl,hb1⟩
   go_wp2
   go_ret
   exact ⟨by simp [HX.out],hb1⟩
  | false =>
   have HX : Hid (atTypeR X.l i = (isM X.l i [42] || isM X.l i [91] || isM X.l i [102,117,110,99])):=by simp [Hid,atTypeR,hk]
   go_enter Tryz.func195,Tryz.ntmps195
   go_wp2_with fail
   refine cT.mono ?_
   rintro e w1 ⟨rfl,hb1⟩
   have H1:=H.below hb1 (Nat.le_refl _)
   have hz1:=hb1.size
   have c1:=is_any X w1 i h H1 [42]
   clear cT
   cases h1 : isM X.l i [42] with
   | true =>
    rw [h1] at c1
    have HX2 : Hid (atTypeR X.l i = true):=HX.out.trans (by simp [h1])
    clear h1
    go_wp2_with fail
    refine c1.mono ?_
    rintro e w2 ⟨rfl,hb2⟩
    go_wp2
    go_ret
    exact ⟨by simp [HX2.out],hb1.trans (hb2.mono hz1)⟩
   | false =>
    rw [h1] at c1
    have HX2 : Hid (atTypeR X.l i = (isM X.l i [91] || isM X.l i [102,117,110,99])):=HX.out.trans (by simp [h1])
    clear h1 HX
    go_wp2_with fail
    refine c1.mono ?_
    rintro e w2 ⟨rfl,hb2⟩
    have hB2:=hb1.trans (hb2.mono hz1)
    have hz2:=hB2.size
    have c2:=is_any X w2 i h (H1.below hb2 (Nat.le_refl _)) [91]
    clear c1
    cases h2 : isM X.l i [91] with
    | true =>
     rw [h2] at c2
     have HX3 : Hid (atTypeR X.l i = true):=HX2.out.trans (by simp [h2])
     clear h2
     go_wp2_with fail
     refine c2.mono ?_
     rintro e w3 ⟨rfl,hb3⟩
     go_wp2
     go_ret
     exact ⟨by simp [HX3.out],hB2.trans (hb3.mono hz2)⟩
    | false =>
     rw [h2] at c2
     have HX3 : Hid (atTypeR X.l i = isM X.l i [102,117,110,99]):=HX2.out.trans (by simp [h2])
     clear h2 HX2
     go_wp2_with fail
     refine c2.mono ?_
     rintro e w3 ⟨rfl,hb3⟩
     have hB3:=hB2.trans (hb3.mono hz2)
     have hz3:=hB3.size
     have c3:=is_any X w3 i h (H.below hB3 (Nat.le_refl _)) [102,117,110,99]
     clear c2
     go_wp2_with fail
     refine c3.mono ?_
     rintro e w4 ⟨rfl,hb4⟩
     go_wp2
     go_ret
     exact ⟨by simp [HX3.out],hB3.trans (hb4.mono hz3)⟩
set_option maxRecDepth 20000 in
set_option maxHeartbeats 800000 in
theorem results_any (X : Px) (n : Nat) (A : Good X n) (w : World) (i : Nat) (h : Bool) (H : Par X w i h) (hn : 3 * (X.l.length - i) ≤ n) :
    Calls Tryz.prog 170 #[X.p] w (OutL X w i h (resultsR X.l (ps X.l n) i)):=by
  have c1:=is_any X w i h H [40]
  have hpl:=H.plt
  have lt0:=H.lt
  cases h1 : isM X.l i [40] with
  | true =>
   rw [h1] at c1
   have HX : Hid (resultsR X.l (ps X.l n) i = betweenR X.l [40] [41] (typesR X.l (ps X.l n)) i):=by simp [Hid,resultsR,h1]
   clear h1
   go_enter Tryz.func170,Tryz.ntmps170
   go_wp2_with fail
   refine c1.mono ?_
   rintro e w1 ⟨rfl,hb1⟩
   have hz1:=hb1.size
   clear c1
   go_wp2_with fail
   refine (betweenL_any X w1 i h (typesR X.l (ps X.l n)) 194 #[X.p] #[] enters_types (H.below hb1 (Nat.le_refl _)) [40] [41] (by decide) (by decide) (fun _ w2 _ H2 => by rw [Array.append_empty]; exact types_any X n A w2 (i + 1) false H2 (by omega))).mono ?_
   rintro e w2 ⟨⟨hb2,hr⟩,_⟩
   have hB2 : But X.P w.heap.size w w2:=(But.of_below hb1).trans (hb2.mono hz1)
   generalize betweenR X.l [40] [41] (typesR X.l (ps X.l n)) i = r at *
   cases r with
   | bad j =>
    obtain ⟨rfl,h',H2⟩:=hr
    exact ⟨rfl,OutL.of HX ⟨hB2,rfl,h',H2⟩⟩
   | ok ts j =>
    obtain ⟨hij,H2,v,rfl,hk⟩:=hr
    obtain ⟨ao,cap,rfl⟩:=hk.slice
    go_wp2
    go_ret
    exact OutL.of HX ⟨hB2,hij,H2,_,rfl,hk.wide hz1⟩
  | false =>
   rw [h1] at c1
   cases h2 : atTypeR X.l i with
   | true =>
    have HX : Hid (resultsR X.l (ps X.l n) i = ((ps X.l n).typ i).bind fun t i => .ok [t] i):=by simp [Hid,resultsR,h1,h2]
    go_enter Tryz.func170,Tryz.ntmps170
    go_wp2_with fail
    refine c1.mono ?_
    rintro e w1 ⟨rfl,hb1⟩
    have hz1:=hb1.size
    have H1:=H.below hb1 (Nat.le_refl _)
    have c2:=atType_any X w1 i h H1
    rw [h2] at c2
    clear c1 h1 h2
    go_wp2_with fail
    refine c2.mono ?_
    rintro e w2 ⟨rfl,hb2⟩
    have hB2:=hb1.trans (hb2.mono hz1)
    have hz2:=hB2.size
    clear c2
    go_wp2_with fail
    refine (A.typ w2 i h (H.below hB2 (Nat.le_refl _)) hn).mono ?_
    rintro e w3 ⟨hb3,hr⟩
    have hB3 : But X.P w.heap.size w w3:=(But.of_below hB2).trans (hb3.mono hz2)
    have hz3:=hb3.size
    generalize (ps X.l n).typ i = r at *
    cases r with
    | bad j =>
     obtain ⟨rfl,h',H2⟩:=hr
     exact ⟨rfl,OutL.of HX ⟨hB3,rfl,h',H2⟩⟩
    | ok t j =>
     obtain ⟨hij,H2,sl,rfl,hk⟩:=hr
     obtain ⟨ao,n2,cap,rfl⟩:=hk.slice
     have hO:=OwnL.one (B:=w.heap.size) (by omega) hk hz2 (Nat.le_refl _)
     go_wp2
     go_ret
     exact OutL.of HX ⟨hB3.alloc (by omega) _,by simp; omega,H2.alloc _,_,rfl,hO⟩
   | false =>
    have HX : Hid (resultsR X.l (ps X.l n) i = .ok [] i):=by simp [Hid,resultsR,h1,h2]
    go_enter Tryz.func170,Tryz.ntmps170
    go_wp2_with fail
    refine c1.mono ?_
    rintro e w1 ⟨rfl,hb1⟩
    have hz1:=hb1.size
    have H1:=H.below hb1 (Nat.le_refl _)
    have c2:=atType_any X w1 i h H1
    rw [h2] at c2
    clear c1 h1 h2
    go_wp2_with fail
    refine c2.mono ?_
    rintro e w2 ⟨rfl,hb2⟩
    have hB2:=hb1.trans (hb2.mono hz1)
    go_wp2
    go_ret
    exact OutL.of HX ⟨But.of_below hB2,by simp,H.below hB2 (Nat.le_refl _),_,rfl,OwnL.nil _ _⟩
set_option maxRecDepth 20000 in
set_option maxHeartbeats 1600000 in
theorem function_any (X : Px) (n : Nat) (A : Good X n) (w : World) (i : Nat) (h : Bool) (kd : Int) (pr : Nat → Res Tr) (f : Nat) (bs ls : Array Value) (he : Enters Tryz.prog f) (hI : ∀ w1 k,i < k → But X.P w.heap.size w w1 → Par X w1 k false → Calls Tryz.prog f (bs ++ ls) w1 (OutT X w1 k false (pr k))) (H : Par X w i h) (hn : 3 * (X.l.length - i) ≤ n + 3) :
    Calls Tryz.prog 143 #[X.p,.int .i64 kd,.func (.func f) bs ls] w (OutT X w i h (functionR X.l (ps X.l n) kd pr i)):=by
  obtain ⟨W0,hW0,S0⟩:=St.first H
  have lt0:=H.lt
  go_enter Tryz.func143,Tryz.ntmps143
  go_wp2_with fail
  refine (listed_any X W0 i h pr f bs ls he S0.par [40] [41] (by decide) (by decide) (fun _ w1 k hk hb H1 => hI w1 k hk (S0.but.trans (hb.mono (Nat.le_of_lt S0.lt))) H1)).mono ?_
  rintro e w1 ⟨⟨hb1,hr1⟩,hx1⟩
  cases hp1 : listedR X.l [40] [41] pr i with
  | bad j1 =>
   rw [hp1] at hr1
   obtain ⟨rfl,h1,H1⟩:=hr1
   have E1:=Lib.hid hp1
   have HR : Hid (functionR X.l (ps X.l n) kd pr i = .bad j1):=by simp [Hid,functionR,Res.bind,E1.out]
   exact ⟨rfl,OutT.of HR (S0.bad hb1 H1)⟩
  | ok l1 j1 =>
   rw [hp1] at hr1
   obtain ⟨ij1,H1,v1,rfl,hk1⟩:=hr1
   obtain ⟨ao1,c1,rfl⟩:=hk1.slice
   have xx1:=hx1 _ _ hp1
   have E1:=Lib.hid hp1
   have bz1:=hb1.size
   have ls1:=S0.lt
   have bd1:=H1.bnd
   have S1:=S0.call hb1 H1
   have lt1:=H1.lt
   have Tl1:=Own.new S0 hk1
   clear hp1
   clear hx1
   go_wp2_with fail
   refine (results_any X n A w1 j1 h S1.par (by omega)).mono ?_
   rintro e w2 ⟨hb2,hr2⟩
   cases hp2 : resultsR X.l (ps X.l n) j1 with
   | bad j2 =>
    rw [hp2] at hr2
    obtain ⟨rfl,h2,H2⟩:=hr2
    have E2:=Lib.hid hp2
    have HR : Hid (functionR X.l (ps X.l n) kd pr i = .bad j2):=by simp [Hid,functionR,Res.bind,E1.out,E2.out]
    exact ⟨rfl,OutT.of HR (S1.bad hb2 H2)⟩
   | ok l2 j2 =>
    rw [hp2] at hr2
    obtain ⟨ij2,H2,v2,rfl,hk2⟩:=hr2
    obtain ⟨ao2,c2,rfl⟩:=hk2.slice
    have E2:=Lib.hid hp2
    have bz2:=hb2.size
    have ls2:=S1.lt
    have bd2:=H2.bnd
    have lv2_l1:=OwnL.lt Tl1
    have S2:=S1.call hb2 H2
    have Tl1_2:=Tl1.call S1 hb2
    have lt2:=H2.lt
    have Tl2:=Own.new S1 hk2
    clear hp2
    go_wp2_with (at_builtin; refine wpList_join (by rfl) _ _ (by rfl) (by rfl) (by rfl) Tl1_2 hk2 (by omega) (by omega) (fun q hq => (lv2_l1 q hq).2) (by first | omega | (simp only [List.length_cons,List.length_nil]; omega)) ?_)
    intro ao3 c3 w3 hO3 hg3
    have S3:=S2.grown hg3 (fun q hq => (lv2_l1 q hq).1)
    have Tl3 : Own w w3 _ _:=hO3
    clear hk2
    go_wp2_with fail
    refine (node_any kd [] _ _ _ _).mono ?_
    rintro e w4 ⟨rfl,hb4⟩
    have S4:=S3.below hb4
    have Tl3_4:=Tl3.below hb4
    have Tt4:=Tl3_4.tre kd [] (l1.length : Int)
    have HR : Hid (functionR X.l (ps X.l n) kd pr i = .ok (.mk kd [] (l1.length : Int) (l1 ++ l2)) j2):=by simp [Hid,functionR,Res.bind,E1.out,E2.out]
    obtain ⟨u0,u1,u2,u3,b0,b1,b2,b3,bf⟩:=S4.box.open
    have bf0:=bf 0
    have bf1:=bf 1
    have bf2:=bf 2
    have bf3:=bf 3
    clear bf
    have nlt:=S4.lt
    have nlt2 : w.heap.size < w4.heap.size:=S4.lt
    have nne : w.heap.size ≠ w4.heap.size:=by omega
    have nne2 : w4.heap.size ≠ w.heap.size:=by omega
    go_wp2
    obtain ⟨Wf,hWf,hput,_,d0,d1,d2,d3⟩:=putN4 S4.box (.int .i64 kd) (.string ⟨([]).toArray⟩) (.int .i64 (l1.length : Int)) (.slice ao3 (l1.length + l2.length) c3)
    rw [hWf]
    have hlz : w.heap.size < Wf.heap.size:=by rw [hput.size]; exact S4.lt
    exact bodyPost_ret (v:=.agg #[.int .i64 kd,.string ⟨([]).toArray⟩,.int .i64 (l1.length : Int),.slice ao3 (l1.length + l2.length) c3]) (by simp [results,Tryz.results143,go_sem,d0,d1,d2,d3,hlz]) rfl (OutT.of HR (S4.doneA Tt4 hput (by omega) _))
set_option maxRecDepth 20000 in
set_option maxHeartbeats 1600000 in
theorem parameter_any (X : Px) (n : Nat) (A : Good X n) (w : World) (i : Nat) (h : Bool) (H : Par X w i h) (hn : 3 * (X.l.length - i) ≤ n + 3) :
    Calls Tryz.prog 144 #[X.p] w (OutT X w i h (paramR X.l (ps X.l n) i)):=by
  obtain ⟨W0,hW0,S0⟩:=St.first H
  have lt0:=H.lt
  go_enter Tryz.func144,Tryz.ntmps144
  go_wp2_with fail
  cases hm1 : (kindA X.l i == 1) with
  | false =>
   have E1:=Lib.hid (nameR_no hm1)
   refine (name_no X W0 i h S0.par (by simpa using hm1)).mono ?_
   rintro e w1 ⟨rfl,hb1,H1⟩
   have HR : Hid (paramR X.l (ps X.l n) i = .bad i):=by simp [Hid,paramR,Res.bind,E1.out]
   exact ⟨rfl,OutT.of HR (S0.bad hb1 H1)⟩
  | true =>
   have E1:=Lib.hid (nameR_yes hm1)
   refine (name_yes X W0 i h S0.par (by simpa using hm1)).mono ?_
   rintro e w1 ⟨rfl,hb1,H1⟩
   have S1:=S0.call hb1 H1
   have lt1:=H1.lt
   clear hm1
   go_wp2_with fail
   refine (A.typ w1 (i + 1) h S1.par (by omega)).mono ?_
   rintro e w2 ⟨hb2,hr2⟩
   cases hp2 : (ps X.l n).typ (i + 1) with
   | bad j2 =>
    rw [hp2] at hr2
    obtain ⟨rfl,h2,H2⟩:=hr2
    have E2:=Lib.hid hp2
    have HR : Hid (paramR X.l (ps X.l n) i = .bad j2):=by simp [Hid,paramR,Res.bind,E1.out,E2.out]
    exact ⟨rfl,OutT.of HR (S1.bad hb2 H2)⟩
   | ok t2 j2 =>
    rw [hp2] at hr2
    obtain ⟨ij2,H2,sl2,rfl,hk2⟩:=hr2
    obtain ⟨ao2,n2,c2,rfl⟩:=hk2.slice
    have E2:=Lib.hid hp2
    have S2:=S1.call hb2 H2
    have lt2:=H2.lt
    have Tt2:=Tre.new S1 hk2
    clear hp2 hk2
    have Tl3:=Own.made1 S2 Tt2
    have S3:=S2.alloc (.cells #[.int .i64 t2.kind,.string ⟨t2.text.toArray⟩,.int .i64 t2.num,.slice ao2 n2 c2] 24)
    go_wp2_with fail
    refine (node_any 8 (textA X.l i) _ _ _ _).mono ?_
    rintro e w4 ⟨rfl,hb4⟩
    have S4:=S3.below hb4
    have Tl3_4:=Tl3.below hb4
    have Tt4:=Tl3_4.tre 8 (textA X.l i) 0
    have HR : Hid (paramR X.l (ps X.l n) i = .ok (.mk 8 (textA X.l i) 0 [t2]) j2):=by simp [Hid,paramR,Res.bind,E1.out,E2.out]
    obtain ⟨u0,u1,u2,u3,b0,b1,b2,b3,bf⟩:=S4.box.open
    have bf0:=bf 0
    have bf1:=bf 1
    have bf2:=bf 2
    have bf3:=bf 3
    clear bf
    go_wp2
    obtain ⟨Wf,hWf,hput,_,d0,d1,d2,d3⟩:=putN4 S4.box (.int .i64 8) (.string ⟨((textA X.l i)).toArray⟩) (.int .i64 0) (.slice (some ⟨w2.heap.size,0,none⟩) 1 1)
    rw [hWf]
    exact bodyPost_ret (v:=.agg #[.int .i64 8,.string ⟨((textA X.l i)).toArray⟩,.int .i64 0,.slice (some ⟨w2.heap.size,0,none⟩) 1 1]) (by simp [results,Tryz.results144,go_sem,d0,d1,d2,d3]) rfl (OutT.of HR (S4.done Tt4 hput (by omega)))
set_option maxRecDepth 20000 in
set_option maxHeartbeats 1600000 in
theorem signature_any (X : Px) (n : Nat) (A : Good X n) (w : World) (i : Nat) (h : Bool) (H : Par X w i h) (hn : 3 * (X.l.length - i) ≤ n + 3) :
    Calls Tryz.prog 102 #[X.p] w (OutT X w i h (sigR X.l (ps X.l n) i)):=by
  obtain ⟨W0,hW0,S0⟩:=St.first H
  have lt0:=H.lt
  go_enter Tryz.func102,Tryz.ntmps102
  go_wp2_with fail
  refine (function_any X n A W0 i h 7 (paramR X.l (ps X.l n)) 144 #[X.p] #[] enters_parameter (fun w1 k hk _ H1 => by rw [Array.append_empty]; exact parameter_any X n A w1 k false H1 (by omega)) S0.par hn).mono ?_
  rintro e w1 ⟨hb1,hr1⟩
  cases hp1 : functionR X.l (ps X.l n) 7 (paramR X.l (ps X.l n)) i with
  | bad j1 =>
   rw [hp1] at hr1
   obtain ⟨rfl,h1,H1⟩:=hr1
   have E1:=Lib.hid hp1
   have HR : Hid (sigR X.l (ps X.l n) i = .bad j1):=by simp [Hid,sigR,E1.out]
   exact ⟨rfl,OutT.of HR (S0.bad hb1 H1)⟩
  | ok t1 j1 =>
   rw [hp1] at hr1
   obtain ⟨ij1,H1,sl1,rfl,hk1⟩:=hr1
   obtain ⟨ao1,n1,c1,rfl⟩:=hk1.slice
   have E1:=Lib.hid hp1
   have S1:=S0.call hb1 H1
   have lt1:=H1.lt
   have Tt1:=Tre.new S0 hk1
   clear hp1 hk1
   have HR : Hid (sigR X.l (ps X.l n) i = .ok t1 j1):=by simp [Hid,sigR,E1.out]
   obtain ⟨u0,u1,u2,u3,b0,b1,b2,b3,bf⟩:=S1.box.open
   have bf0:=bf 0
   have bf1:=bf 1
   have bf2:=bf 2
   have bf3:=bf 3
   clear bf
   go_wp2
   obtain ⟨Wf,hWf,hput,_,d0,d1,d2,d3⟩:=putN4 S1.box (.int .i64 t1.kind) (.string ⟨t1.text.toArray⟩) (.int .i64 t1.num) (.slice ao1 n1 c1)
   rw [hWf]
   exact bodyPost_ret (v:=.agg #[.int .i64 t1.kind,.string ⟨t1.text.toArray⟩,.int .i64 t1.num,.slice ao1 n1 c1]) (by simp [results,Tryz.results102,go_sem,d0,d1,d2,d3]) rfl (OutT.of HR (S1.done Tt1 hput (by omega)))
set_option maxRecDepth 20000 in
set_option maxHeartbeats 1600000 in
theorem typ_any (X : Px) (n : Nat) (A : Good X n) (w : World) (i : Nat) (h : Bool) (H : Par X w i h) (hn : 3 * (X.l.length - i) ≤ n + 1) :
    Calls Tryz.prog 168 #[X.p] w (OutT X w i h (typS X.l (ps X.l n) i)):=by
  obtain ⟨W0,hW0,S0⟩:=St.first H
  have lt0:=H.lt
  have hfd:=field_tok0
  go_enter Tryz.func168,Tryz.ntmps168
  go_wp2_with fail
  refine (tokenA_any X W0 i h S0.par).mono ?_
  rintro e w1 ⟨rfl,hb1⟩
  have S1:=S0.below hb1
  cases hm1 : (kindA X.l i == 1) with
  | false =>
   have E1:=Lib.hid hm1
   go_wp2_with fail
   cases hm2 : isM X.l i [42] with
   | false =>
    refine (take_no X w1 i h S1.par [42] hm2).mono ?_
    rintro e w2 ⟨rfl,hb2,H2⟩
    have E2:=Lib.hid hm2
    have S2:=S1.call hb2 H2
    have lt2:=H2.lt
    clear hm2
    go_wp2_with fail
    cases hm3 : isM X.l i [91] with
    | false =>
     refine (take_no X w2 i h S2.par [91] hm3).mono ?_
     rintro e w3 ⟨rfl,hb3,H3⟩
     have E3:=Lib.hid hm3
     have S3:=S2.call hb3 H3
     have lt3:=H3.lt
     clear hm3
     go_wp2_with fail
     cases hm4 : isM X.l i [102,117,110,99] with
     | false =>
      have E4:=Lib.hid (needR_no hm4)
      refine (need_no X w3 i h S3.par [102,117,110,99] hm4).mono ?_
      rintro e w4 ⟨rfl,hb4,H4⟩
      have HR : Hid (typS X.l (ps X.l n) i = .bad i):=by simp [Hid,typS,Res.bind,E1.out,E2.out,E3.out,E4.out]
      exact ⟨rfl,OutT.of HR (S3.bad hb4 H4)⟩
     | true =>
      have E4:=Lib.hid (needR_yes hm4)
      refine (need_yes X w3 i h S3.par [102,117,110,99] (by decide) hm4).mono ?_
      rintro e w4 ⟨rfl,hb4,H4⟩
      have S4:=S3.call hb4 H4
      have lt4:=H4.lt
      clear hm4
      go_wp2_with fail
      refine (function_any X n A w4 (i + 1) h 13 (ps X.l n).typ 168 #[X.p] #[] enters_typ (fun w1 k hk _ H1 => by rw [Array.append_empty]; exact A.typ w1 k false H1 (by omega)) S4.par (by omega)).mono ?_
      rintro e w5 ⟨hb5,hr5⟩
      cases hp5 : functionR X.l (ps X.l n) 13 (ps X.l n).typ (i + 1) with
      | bad j5 =>
       rw [hp5] at hr5
       obtain ⟨rfl,h5,H5⟩:=hr5
       have E5:=Lib.hid hp5
       have HR : Hid (typS X.l (ps X.l n) i = .bad j5):=by simp [Hid,typS,Res.bind,E1.out,E2.out,E3.out,E4.out,E5.out]
       exact ⟨rfl,OutT.of HR (S4.bad hb5 H5)⟩
      | ok t5 j5 =>
       rw [hp5] at hr5
       obtain ⟨ij5,H5,sl5,rfl,hk5⟩:=hr5
       obtain ⟨ao5,n5,c5,rfl⟩:=hk5.slice
       have E5:=Lib.hid hp5
       have S5:=S4.call hb5 H5
       have lt5:=H5.lt
       have Tt5:=Tre.new S4 hk5
       clear hp5 hk5
       have HR : Hid (typS X.l (ps X.l n) i = .ok t5 j5):=by simp [Hid,typS,Res.bind,E1.out,E2.out,E3.out,E4.out,E5.out]
       obtain ⟨u0,u1,u2,u3,b0,b1,b2,b3,bf⟩:=S5.box.open
       have bf0:=bf 0
       have bf1:=bf 1
       have bf2:=bf 2
       have bf3:=bf 3
       clear bf
       go_wp2
       obtain ⟨Wf,hWf,hput,_,d0,d1,d2,d3⟩:=putN4 S5.box (.int .i64 t5.kind) (.string ⟨t5.text.toArray⟩) (.int .i64 t5.num) (.slice ao5 n5 c5)
       rw [hWf]
       exact bodyPost_ret (v:=.agg #[.int .i64 t5.kind,.string ⟨t5.text.toArray⟩,.int .i64 t5.num,.slice ao5 n5 c5]) (by simp [results,Tryz.results168,go_sem,d0,d1,d2,d3]) rfl (OutT.of HR (S5.done Tt5 hput (by omega)))
    | true =>
     refine (take_yes X w2 i h S2.par [91] (by decide) hm3).mono ?_
     rintro e w3 ⟨rfl,hb3,H3⟩
     have E3:=Lib.hid hm3
     have S3:=S2.call hb3 H3
     have lt3:=H3.lt
     clear hm3
     go_wp2_with fail
     cases hm6 : isM X.l (i + 1) [93] with
     | false =>
      have E6:=Lib.hid (needR_no hm6)
      refine (need_no X w3 (i + 1) h S3.par [93] hm6).mono ?_
      rintro e w6 ⟨rfl,hb6,H6⟩
      have HR : Hid (typS X.l (ps X.l n) i = .bad (i + 1)):=by simp [Hid,typS,Res.bind,E1.out,E2.out,E3.out,E6.out]
      exact ⟨rfl,OutT.of HR (S3.bad hb6 H6)⟩
     | true =>
      have E6:=Lib.hid (needR_yes hm6)
      refine (need_yes X w3 (i + 1) h S3.par [93] (by decide) hm6).mono ?_
      rintro e w6 ⟨rfl,hb6,H6⟩
      have S6:=S3.call hb6 H6
      have lt6:=H6.lt
      clear hm6
      go_wp2_with fail
      refine (A.typ w6 (i + 2) h S6.par (by omega)).mono ?_
      rintro e w7 ⟨hb7,hr7⟩
      cases hp7 : (ps X.l n).typ (i + 2) with
      | bad j7 =>
       rw [hp7] at hr7
       obtain ⟨rfl,h7,H7⟩:=hr7
       have E7:=Lib.hid hp7
       have HR : Hid (typS X.l (ps X.l n) i = .bad j7):=by simp [Hid,typS,Res.bind,E1.out,E2.out,E3.out,E6.out,E7.out]
       exact ⟨rfl,OutT.of HR (S6.bad hb7 H7)⟩
      | ok t7 j7 =>
       rw [hp7] at hr7
       obtain ⟨ij7,H7,sl7,rfl,hk7⟩:=hr7
       obtain ⟨ao7,n7,c7,rfl⟩:=hk7.slice
       have E7:=Lib.hid hp7
       have S7:=S6.call hb7 H7
       have lt7:=H7.lt
       have Tt7:=Tre.new S6 hk7
       clear hp7 hk7
       have Tl8:=Own.made1 S7 Tt7
       have S8:=S7.alloc (.cells #[.int .i64 t7.kind,.string ⟨t7.text.toArray⟩,.int .i64 t7.num,.slice ao7 n7 c7] 24)
       go_wp2_with fail
       refine (node_any 12 [] _ _ _ _).mono ?_
       rintro e w9 ⟨rfl,hb9⟩
       have S9:=S8.below hb9
       have Tl8_9:=Tl8.below hb9
       have Tt9:=Tl8_9.tre 12 [] 0
       have HR : Hid (typS X.l (ps X.l n) i = .ok (.mk 12 [] 0 [t7]) j7):=by simp [Hid,typS,Res.bind,E1.out,E2.out,E3.out,E6.out,E7.out]
       obtain ⟨u0,u1,u2,u3,b0,b1,b2,b3,bf⟩:=S9.box.open
       have bf0:=bf 0
       have bf1:=bf 1
       have bf2:=bf 2
       have bf3:=bf 3
       clear bf
       go_wp2
       obtain ⟨Wf,hWf,hput,_,d0,d1,d2,d3⟩:=putN4 S9.box (.int .i64 12) (.string ⟨([]).toArray⟩) (.int .i64 0) (.slice (some ⟨w7.heap.size,0,none⟩) 1 1)
       rw [hWf]
       exact bodyPost_ret (v:=.agg #[.int .i64 12,.string ⟨([]).toArray⟩,.int .i64 0,.slice (some ⟨w7.heap.size,0,none⟩) 1 1]) (by simp [results,Tryz.results168,go_sem,d0,d1,d2,d3]) rfl (OutT.of HR (S9.done Tt9 hput (by omega)))
   | true =>
    refine (take_yes X w1 i h S1.par [42] (by decide) hm2).mono ?_
    rintro e w2 ⟨rfl,hb2,H2⟩
    have E2:=Lib.hid hm2
    have S2:=S1.call hb2 H2
    have lt2:=H2.lt
    clear hm2
    go_wp2_with fail
    refine (A.typ w2 (i + 1) h S2.par (by omega)).mono ?_
    rintro e w10 ⟨hb10,hr10⟩
    cases hp10 : (ps X.l n).typ (i + 1) with
    | bad j10 =>
     rw [hp10] at hr10
     obtain ⟨rfl,h10,H10⟩:=hr10
     have E10:=Lib.hid hp10
     have HR : Hid (typS X.l (ps X.l n) i = .bad j10):=by simp [Hid,typS,Res.bind,E1.out,E2.out,E10.out]
     exact ⟨rfl,OutT.of HR (S2.bad hb10 H10)⟩
    | ok t10 j10 =>
     rw [hp10] at hr10
     obtain ⟨ij10,H10,sl10,rfl,hk10⟩:=hr10
     obtain ⟨ao10,n10,c10,rfl⟩:=hk10.slice
     have E10:=Lib.hid hp10
     have S10:=S2.call hb10 H10
     have lt10:=H10.lt
     have Tt10:=Tre.new S2 hk10
     clear hp10 hk10
     have Tl11:=Own.made1 S10 Tt10
     have S11:=S10.alloc (.cells #[.int .i64 t10.kind,.string ⟨t10.text.toArray⟩,.int .i64 t10.num,.slice ao10 n10 c10] 24)
     go_wp2_with fail
     refine (node_any 11 [] _ _ _ _).mono ?_
     rintro e w12 ⟨rfl,hb12⟩
     have S12:=S11.below hb12
     have Tl11_12:=Tl11.below hb12
     have Tt12:=Tl11_12.tre 11 [] 0
     have HR : Hid (typS X.l (ps X.l n) i = .ok (.mk 11 [] 0 [t10]) j10):=by simp [Hid,typS,Res.bind,E1.out,E2.out,E10.out]
     obtain ⟨u0,u1,u2,u3,b0,b1,b2,b3,bf⟩:=S12.box.open
     have bf0:=bf 0
     have bf1:=bf 1
     have bf2:=bf 2
     have bf3:=bf 3
     clear bf
     go_wp2
     obtain ⟨Wf,hWf,hput,_,d0,d1,d2,d3⟩:=putN4 S12.box (.int .i64 11) (.string ⟨([]).toArray⟩) (.int .i64 0) (.slice (some ⟨w10.heap.size,0,none⟩) 1 1)
     rw [hWf]
     exact bodyPost_ret (v:=.agg #[.int .i64 11,.string ⟨([]).toArray⟩,.int .i64 0,.slice (some ⟨w10.heap.size,0,none⟩) 1 1]) (by simp [results,Tryz.results168,go_sem,d0,d1,d2,d3]) rfl (OutT.of HR (S12.done Tt12 hput (by omega)))
  | true =>
   have E1:=Lib.hid hm1
   go_wp2_with fail
   refine (name_yes X w1 i h S1.par (by simpa using hm1)).mono ?_
   rintro e w13 ⟨rfl,hb13,H13⟩
   have S13:=S1.call hb13 H13
   have lt13:=H13.lt
   clear hm1
   go_wp2_with fail
   refine (node_any 10 (textA X.l i) _ _ _ _).mono ?_
   rintro e w14 ⟨rfl,hb14⟩
   have S14:=S13.below hb14
   have Tt14:=Tre.leaf w w14 10 (textA X.l i) 0 none 0
   have HR : Hid (typS X.l (ps X.l n) i = .ok (.mk 10 (textA X.l i) 0 []) (i + 1)):=by simp [Hid,typS,E1.out]
   obtain ⟨u0,u1,u2,u3,b0,b1,b2,b3,bf⟩:=S14.box.open
   have bf0:=bf 0
   have bf1:=bf 1
   have bf2:=bf 2
   have bf3:=bf 3
   clear bf
   go_wp2
   obtain ⟨Wf,hWf,hput,_,d0,d1,d2,d3⟩:=putN4 S14.box (.int .i64 10) (.string ⟨((textA X.l i)).toArray⟩) (.int .i64 0) (.slice none 0 0)
   rw [hWf]
   exact bodyPost_ret (v:=.agg #[.int .i64 10,.string ⟨((textA X.l i)).toArray⟩,.int .i64 0,.slice none 0 0]) (by simp [results,Tryz.results168,go_sem,d0,d1,d2,d3]) rfl (OutT.of HR (S14.done Tt14 hput (by omega)))
set_option maxRecDepth 20000 in
set_option maxHeartbeats 1600000 in
theorem receiver_any (X : Px) (w : World) (i : Nat) (h : Bool) (H : Par X w i h) :
    Calls Tryz.prog 100 #[X.p] w (OutT X w i h (receiverR X.l i)):=by
  obtain ⟨W0,hW0,S0⟩:=St.first H
  have lt0:=H.lt
  go_enter Tryz.func100,Tryz.ntmps100
  go_wp2_with fail
  cases hm1 : (kindA X.l i == 1) with
  | false =>
   have E1:=Lib.hid (nameR_no hm1)
   refine (name_no X W0 i h S0.par (by simpa using hm1)).mono ?_
   rintro e w1 ⟨rfl,hb1,H1⟩
   have HR : Hid (receiverR X.l i = .bad i):=by simp [Hid,receiverR,Res.bind,E1.out]
   exact ⟨rfl,OutT.of HR (S0.bad hb1 H1)⟩
  | true =>
   have E1:=Lib.hid (nameR_yes hm1)
   refine (name_yes X W0 i h S0.par (by simpa using hm1)).mono ?_
   rintro e w1 ⟨rfl,hb1,H1⟩
   have S1:=S0.call hb1 H1
   have lt1:=H1.lt
   clear hm1
   go_wp2_with fail
   cases hm2 : isM X.l (i + 1) [42] with
   | false =>
    have E2:=Lib.hid (needR_no hm2)
    refine (need_no X w1 (i + 1) h S1.par [42] hm2).mono ?_
    rintro e w2 ⟨rfl,hb2,H2⟩
    have HR : Hid (receiverR X.l i = .bad (i + 1)):=by simp [Hid,receiverR,Res.bind,E1.out,E2.out]
    exact ⟨rfl,OutT.of HR (S1.bad hb2 H2)⟩
   | true =>
    have E2:=Lib.hid (needR_yes hm2)
    refine (need_yes X w1 (i + 1) h S1.par [42] (by decide) hm2).mono ?_
    rintro e w2 ⟨rfl,hb2,H2⟩
    have S2:=S1.call hb2 H2
    have lt2:=H2.lt
    clear hm2
    go_wp2_with fail
    cases hm3 : (kindA X.l (i + 2) == 1) with
    | false =>
     have E3:=Lib.hid (nameR_no hm3)
     refine (name_no X w2 (i + 2) h S2.par (by simpa using hm3)).mono ?_
     rintro e w3 ⟨rfl,hb3,H3⟩
     have HR : Hid (receiverR X.l i = .bad (i + 2)):=by simp [Hid,receiverR,Res.bind,E1.out,E2.out,E3.out]
     exact ⟨rfl,OutT.of HR (S2.bad hb3 H3)⟩
    | true =>
     have E3:=Lib.hid (nameR_yes hm3)
     refine (name_yes X w2 (i + 2) h S2.par (by simpa using hm3)).mono ?_
     rintro e w3 ⟨rfl,hb3,H3⟩
     have S3:=S2.call hb3 H3
     have lt3:=H3.lt
     clear hm3
     go_wp2_with fail
     refine (node_any 10 (textA X.l (i + 2)) _ _ _ _).mono ?_
     rintro e w4 ⟨rfl,hb4⟩
     have S4:=S3.below hb4
     have Tt4:=Tre.leaf w w4 10 (textA X.l (i + 2)) 0 none 0
     have Tl5:=Own.made1 S4 Tt4
     have S5:=S4.alloc (.cells #[.int .i64 10,.string ⟨((textA X.l (i + 2))).toArray⟩,.int .i64 0,.slice none 0 0] 24)
     go_wp2_with fail
     refine (node_any 11 [] _ _ _ _).mono ?_
     rintro e w6 ⟨rfl,hb6⟩
     have S6:=S5.below hb6
     have Tl5_6:=Tl5.below hb6
     have Tt6:=Tl5_6.tre 11 [] 0
     have Tl7:=Own.made1 S6 Tt6
     have S7:=S6.alloc (.cells #[.int .i64 11,.string ⟨([]).toArray⟩,.int .i64 0,.slice (some ⟨w4.heap.size,0,none⟩) 1 1] 24)
     go_wp2_with fail
     refine (node_any 8 (textA X.l i) _ _ _ _).mono ?_
     rintro e w8 ⟨rfl,hb8⟩
     have S8:=S7.below hb8
     have Tl7_8:=Tl7.below hb8
     have Tt8:=Tl7_8.tre 8 (textA X.l i) 0
     have HR : Hid (receiverR X.l i = .ok (.mk 8 (textA X.l i) 0 [(.mk 11 [] 0 [(.mk 10 (textA X.l (i + 2)) 0 [])])]) (i + 3)):=by simp [Hid,receiverR,Res.bind,E1.out,E2.out,E3.out]
     obtain ⟨u0,u1,u2,u3,b0,b1,b2,b3,bf⟩:=S8.box.open
     have bf0:=bf 0
     have bf1:=bf 1
     have bf2:=bf 2
     have bf3:=bf 3
     clear bf
     go_wp2
     obtain ⟨Wf,hWf,hput,_,d0,d1,d2,d3⟩:=putN4 S8.box (.int .i64 8) (.string ⟨((textA X.l i)).toArray⟩) (.int .i64 0) (.slice (some ⟨w6.heap.size,0,none⟩) 1 1)
     rw [hWf]
     exact bodyPost_ret (v:=.agg #[.int .i64 8,.string ⟨((textA X.l i)).toArray⟩,.int .i64 0,.slice (some ⟨w6.heap.size,0,none⟩) 1 1]) (by simp [results,Tryz.results100,go_sem,d0,d1,d2,d3]) rfl (OutT.of HR (S8.done Tt8 hput (by omega)))
set_option maxRecDepth 20000 in
set_option maxHeartbeats 1600000 in
theorem field_any (X : Px) (n : Nat) (A : Good X n) (w : World) (i : Nat) (h : Bool) (H : Par X w i h) (hn : 3 * (X.l.length - i) ≤ n + 3) :
    Calls Tryz.prog 139 #[X.p] w (OutT X w i h (fieldR X.l (ps X.l n) i)):=by
  obtain ⟨W0,hW0,S0⟩:=St.first H
  have lt0:=H.lt
  go_enter Tryz.func139,Tryz.ntmps139
  go_wp2_with fail
  cases hm1 : (kindA X.l i == 1) with
  | false =>
   have E1:=Lib.hid (nameR_no hm1)
   refine (name_no X W0 i h S0.par (by simpa using hm1)).mono ?_
   rintro e w1 ⟨rfl,hb1,H1⟩
   have HR : Hid (fieldR X.l (ps X.l n) i = .bad i):=by simp [Hid,fieldR,Res.bind,E1.out]
   exact ⟨rfl,OutT.of HR (S0.bad hb1 H1)⟩
  | true =>
   have E1:=Lib.hid (nameR_yes hm1)
   refine (name_yes X W0 i h S0.par (by simpa using hm1)).mono ?_
   rintro e w1 ⟨rfl,hb1,H1⟩
   have S1:=S0.call hb1 H1
   have lt1:=H1.lt
   clear hm1
   go_wp2_with fail
   refine (A.typ w1 (i + 1) h S1.par (by omega)).mono ?_
   rintro e w2 ⟨hb2,hr2⟩
   cases hp2 : (ps X.l n).typ (i + 1) with
   | bad j2 =>
    rw [hp2] at hr2
    obtain ⟨rfl,h2,H2⟩:=hr2
    have E2:=Lib.hid hp2
    have HR : Hid (fieldR X.l (ps X.l n) i = .bad j2):=by simp [Hid,fieldR,Res.bind,E1.out,E2.out]
    exact ⟨rfl,OutT.of HR (S1.bad hb2 H2)⟩
   | ok t2 j2 =>
    rw [hp2] at hr2
    obtain ⟨ij2,H2,sl2,rfl,hk2⟩:=hr2
    obtain ⟨ao2,n2,c2,rfl⟩:=hk2.slice
    have E2:=Lib.hid hp2
    have S2:=S1.call hb2 H2
    have lt2:=H2.lt
    have Tt2:=Tre.new S1 hk2
    clear hp2 hk2
    have Tl3:=Own.made1 S2 Tt2
    have S3:=S2.alloc (.cells #[.int .i64 t2.kind,.string ⟨t2.text.toArray⟩,.int .i64 t2.num,.slice ao2 n2 c2] 24)
    go_wp2_with fail
    refine (node_any 6 (textA X.l i) _ _ _ _).mono ?_
    rintro e w4 ⟨rfl,hb4⟩
    have S4:=S3.below hb4
    have Tl3_4:=Tl3.below hb4
    have Tt4:=Tl3_4.tre 6 (textA X.l i) 0
    have pl5:=S4.par.plt
    have S5:=S4.alloc (.cells #[.int .i64 6,.string ⟨((textA X.l i)).toArray⟩,.int .i64 0,.slice (some ⟨w2.heap.size,0,none⟩) 1 1] 24)
    have Tt4_5:=Tt4.alloc (.cells #[.int .i64 6,.string ⟨((textA X.l i)).toArray⟩,.int .i64 0,.slice (some ⟨w2.heap.size,0,none⟩) 1 1] 24)
    go_wp2_with fail
    cases hm6 : isM X.l j2 [59] with
    | false =>
     have E6:=Lib.hid (needR_no hm6)
     refine (need_no X (w4.alloc (.cells #[.int .i64 6,.string ⟨((textA X.l i)).toArray⟩,.int .i64 0,.slice (some ⟨w2.heap.size,0,none⟩) 1 1] 24)) j2 h S5.par [59] hm6).mono ?_
     rintro e w6 ⟨rfl,hb6,H6⟩
     have HR : Hid (fieldR X.l (ps X.l n) i = .bad j2):=by simp [Hid,fieldR,Res.bind,E1.out,E2.out,E6.out]
     exact ⟨rfl,OutT.of HR (S5.bad hb6 H6)⟩
    | true =>
     have E6:=Lib.hid (needR_yes hm6)
     refine (need_yes X (w4.alloc (.cells #[.int .i64 6,.string ⟨((textA X.l i)).toArray⟩,.int .i64 0,.slice (some ⟨w2.heap.size,0,none⟩) 1 1] 24)) j2 h S5.par [59] (by decide) hm6).mono ?_
     rintro e w6 ⟨rfl,hb6,H6⟩
     obtain ⟨q0,q1,q2,q3⟩:=held4 hb6 pl5
     have S6:=S5.call hb6 H6
     have Tt4_6:=Tt4_5.call S5 hb6
     have lt6:=H6.lt
     clear hm6
     have HR : Hid (fieldR X.l (ps X.l n) i = .ok (.mk 6 (textA X.l i) 0 [t2]) (j2 + 1)):=by simp [Hid,fieldR,Res.bind,E1.out,E2.out,E6.out]
     obtain ⟨u0,u1,u2,u3,b0,b1,b2,b3,bf⟩:=S6.box.open
     have bf0:=bf 0
     have bf1:=bf 1
     have bf2:=bf 2
     have bf3:=bf 3
     clear bf
     go_wp2
     obtain ⟨Wf,hWf,hput,_,d0,d1,d2,d3⟩:=putN4 S6.box (.int .i64 6) (.string ⟨((textA X.l i)).toArray⟩) (.int .i64 0) (.slice (some ⟨w2.heap.size,0,none⟩) 1 1)
     rw [hWf]
     exact bodyPost_ret (v:=.agg #[.int .i64 6,.string ⟨((textA X.l i)).toArray⟩,.int .i64 0,.slice (some ⟨w2.heap.size,0,none⟩) 1 1]) (by simp [results,Tryz.results139,go_sem,d0,d1,d2,d3]) rfl (OutT.of HR (S6.done Tt4_6 hput (by omega)))
set_option maxRecDepth 20000 in
set_option maxHeartbeats 1600000 in
theorem method_any (X : Px) (n : Nat) (A : Good X n) (w : World) (i : Nat) (h : Bool) (H : Par X w i h) (hn : 3 * (X.l.length - i) ≤ n + 3) :
    Calls Tryz.prog 140 #[X.p] w (OutT X w i h (methodR X.l (ps X.l n) i)):=by
  obtain ⟨W0,hW0,S0⟩:=St.first H
  have lt0:=H.lt
  go_enter Tryz.func140,Tryz.ntmps140
  go_wp2_with fail
  cases hm1 : (kindA X.l i == 1) with
  | false =>
   have E1:=Lib.hid (nameR_no hm1)
   refine (name_no X W0 i h S0.par (by simpa using hm1)).mono ?_
   rintro e w1 ⟨rfl,hb1,H1⟩
   have HR : Hid (methodR X.l (ps X.l n) i = .bad i):=by simp [Hid,methodR,Res.bind,E1.out]
   exact ⟨rfl,OutT.of HR (S0.bad hb1 H1)⟩
  | true =>
   have E1:=Lib.hid (nameR_yes hm1)
   refine (name_yes X W0 i h S0.par (by simpa using hm1)).mono ?_
   rintro e w1 ⟨rfl,hb1,H1⟩
   have S1:=S0.call hb1 H1
   have lt1:=H1.lt
   clear hm1
   go_wp2_with fail
   refine (signature_any X n A w1 (i + 1) h S1.par (by omega)).mono ?_
   rintro e w2 ⟨hb2,hr2⟩
   cases hp2 : sigR X.l (ps X.l n) (i + 1) with
   | bad j2 =>
    rw [hp2] at hr2
    obtain ⟨rfl,h2,H2⟩:=hr2
    have E2:=Lib.hid hp2
    have HR : Hid (methodR X.l (ps X.l n) i = .bad j2):=by simp [Hid,methodR,Res.bind,E1.out,E2.out]
    exact ⟨rfl,OutT.of HR (S1.bad hb2 H2)⟩
   | ok t2 j2 =>
    rw [hp2] at hr2
    obtain ⟨ij2,H2,sl2,rfl,hk2⟩:=hr2
    obtain ⟨ao2,n2,c2,rfl⟩:=hk2.slice
    have E2:=Lib.hid hp2
    have S2:=S1.call hb2 H2
    have lt2:=H2.lt
    have Tt2:=Tre.new S1 hk2
    clear hp2 hk2
    have Tl3:=Own.made1 S2 Tt2
    have S3:=S2.alloc (.cells #[.int .i64 t2.kind,.string ⟨t2.text.toArray⟩,.int .i64 t2.num,.slice ao2 n2 c2] 24)
    go_wp2_with fail
    refine (node_any 6 (textA X.l i) _ _ _ _).mono ?_
    rintro e w4 ⟨rfl,hb4⟩
    have S4:=S3.below hb4
    have Tl3_4:=Tl3.below hb4
    have Tt4:=Tl3_4.tre 6 (textA X.l i) 0
    have pl5:=S4.par.plt
    have S5:=S4.alloc (.cells #[.int .i64 6,.string ⟨((textA X.l i)).toArray⟩,.int .i64 0,.slice (some ⟨w2.heap.size,0,none⟩) 1 1] 24)
    have Tt4_5:=Tt4.alloc (.cells #[.int .i64 6,.string ⟨((textA X.l i)).toArray⟩,.int .i64 0,.slice (some ⟨w2.heap.size,0,none⟩) 1 1] 24)
    go_wp2_with fail
    cases hm6 : isM X.l j2 [59] with
    | false =>
     have E6:=Lib.hid (needR_no hm6)
     refine (need_no X (w4.alloc (.cells #[.int .i64 6,.string ⟨((textA X.l i)).toArray⟩,.int .i64 0,.slice (some ⟨w2.heap.size,0,none⟩) 1 1] 24)) j2 h S5.par [59] hm6).mono ?_
     rintro e w6 ⟨rfl,hb6,H6⟩
     have HR : Hid (methodR X.l (ps X.l n) i = .bad j2):=by simp [Hid,methodR,Res.bind,E1.out,E2.out,E6.out]
     exact ⟨rfl,OutT.of HR (S5.bad hb6 H6)⟩
    | true =>
     have E6:=Lib.hid (needR_yes hm6)
     refine (need_yes X (w4.alloc (.cells #[.int .i64 6,.string ⟨((textA X.l i)).toArray⟩,.int .i64 0,.slice (some ⟨w2.heap.size,0,none⟩) 1 1] 24)) j2 h S5.par [59] (by decide) hm6).mono ?_
     rintro e w6 ⟨rfl,hb6,H6⟩
     obtain ⟨q0,q1,q2,q3⟩:=held4 hb6 pl5
     have S6:=S5.call hb6 H6
     have Tt4_6:=Tt4_5.call S5 hb6
     have lt6:=H6.lt
     clear hm6
     have HR : Hid (methodR X.l (ps X.l n) i = .ok (.mk 6 (textA X.l i) 0 [t2]) (j2 + 1)):=by simp [Hid,methodR,Res.bind,E1.out,E2.out,E6.out]
     obtain ⟨u0,u1,u2,u3,b0,b1,b2,b3,bf⟩:=S6.box.open
     have bf0:=bf 0
     have bf1:=bf 1
     have bf2:=bf 2
     have bf3:=bf 3
     clear bf
     go_wp2
     obtain ⟨Wf,hWf,hput,_,d0,d1,d2,d3⟩:=putN4 S6.box (.int .i64 6) (.string ⟨((textA X.l i)).toArray⟩) (.int .i64 0) (.slice (some ⟨w2.heap.size,0,none⟩) 1 1)
     rw [hWf]
     exact bodyPost_ret (v:=.agg #[.int .i64 6,.string ⟨((textA X.l i)).toArray⟩,.int .i64 0,.slice (some ⟨w2.heap.size,0,none⟩) 1 1]) (by simp [results,Tryz.results140,go_sem,d0,d1,d2,d3]) rfl (OutT.of HR (S6.done Tt4_6 hput (by omega)))
set_option maxRecDepth 20000 in
set_option maxHeartbeats 1600000 in
theorem typeDeclaration_any (X : Px) (n : Nat) (A : Good X n) (w : World) (i : Nat) (h : Bool) (H : Par X w i h) (hn : 3 * (X.l.length - i) ≤ n + 3) :
    Calls Tryz.prog 97 #[X.p] w (OutT X w i h (typeDeclR X.l (ps X.l n) i)):=by
  obtain ⟨W0,hW0,S0⟩:=St.first H
  have lt0:=H.lt
  go_enter Tryz.func97,Tryz.ntmps97
  go_wp2_with fail
  cases hm1 : (kindA X.l i == 1) with
  | false =>
   have E1:=Lib.hid (nameR_no hm1)
   refine (name_no X W0 i h S0.par (by simpa using hm1)).mono ?_
   rintro e w1 ⟨rfl,hb1,H1⟩
   have HR : Hid (typeDeclR X.l (ps X.l n) i = .bad i):=by simp [Hid,typeDeclR,Res.bind,E1.out]
   exact ⟨rfl,OutT.of HR (S0.bad hb1 H1)⟩
  | true =>
   have E1:=Lib.hid (nameR_yes hm1)
   refine (name_yes X W0 i h S0.par (by simpa using hm1)).mono ?_
   rintro e w1 ⟨rfl,hb1,H1⟩
   have S1:=S0.call hb1 H1
   have lt1:=H1.lt
   clear hm1
   go_wp2_with fail
   cases hm2 : isM X.l (i + 1) [115,116,114,117,99,116] with
   | false =>
    refine (take_no X w1 (i + 1) h S1.par [115,116,114,117,99,116] hm2).mono ?_
    rintro e w2 ⟨rfl,hb2,H2⟩
    have E2:=Lib.hid hm2
    have S2:=S1.call hb2 H2
    have lt2:=H2.lt
    clear hm2
    go_wp2_with fail
    cases hm3 : isM X.l (i + 1) [105,110,116,101,114,102,97,99,101] with
    | false =>
     have E3:=Lib.hid (needR_no hm3)
     refine (need_no X w2 (i + 1) h S2.par [105,110,116,101,114,102,97,99,101] hm3).mono ?_
     rintro e w3 ⟨rfl,hb3,H3⟩
     have HR : Hid (typeDeclR X.l (ps X.l n) i = .bad (i + 1)):=by simp [Hid,typeDeclR,Res.bind,E1.out,E2.out,E3.out]
     exact ⟨rfl,OutT.of HR (S2.bad hb3 H3)⟩
    | true =>
     have E3:=Lib.hid (needR_yes hm3)
     refine (need_yes X w2 (i + 1) h S2.par [105,110,116,101,114,102,97,99,101] (by decide) hm3).mono ?_
     rintro e w3 ⟨rfl,hb3,H3⟩
     have S3:=S2.call hb3 H3
     have lt3:=H3.lt
     clear hm3
     go_wp2_with fail
     refine (members_any X w3 (i + 2) h (methodR X.l (ps X.l n)) 140 #[X.p] #[] enters_method S3.par (fun _ w1 k hk _ H1 => by rw [Array.append_empty]; exact method_any X n A w1 k false H1 (by omega))).mono ?_
     rintro e w4 ⟨⟨hb4,hr4⟩,hx4⟩
     cases hp4 : membersR X.l (methodR X.l (ps X.l n)) (i + 2) with
     | bad j4 =>
      rw [hp4] at hr4
      obtain ⟨rfl,h4,H4⟩:=hr4
      have E4:=Lib.hid hp4
      have HR : Hid (typeDeclR X.l (ps X.l n) i = .bad j4):=by simp [Hid,typeDeclR,Res.bind,E1.out,E2.out,E3.out,E4.out]
      exact ⟨rfl,OutT.of HR (S3.bad hb4 H4)⟩
     | ok l4 j4 =>
      rw [hp4] at hr4
      obtain ⟨ij4,H4,v4,rfl,hk4⟩:=hr4
      obtain ⟨ao4,c4,rfl⟩:=hk4.slice
      have xx4:=hx4 _ _ hp4
      have E4:=Lib.hid hp4
      have S4:=S3.call hb4 H4
      have lt4:=H4.lt
      have Tl4:=Own.new S3 hk4
      clear hp4
      clear hx4
      go_wp2_with fail
      refine (node_any 3 (textA X.l i) _ _ _ _).mono ?_
      rintro e w5 ⟨rfl,hb5⟩
      have S5:=S4.below hb5
      have Tl4_5:=Tl4.below hb5
      have Tt5:=Tl4_5.tre 3 (textA X.l i) 0
      have HR : Hid (typeDeclR X.l (ps X.l n) i = .ok (.mk 3 (textA X.l i) 0 l4) j4):=by simp [Hid,typeDeclR,Res.bind,E1.out,E2.out,E3.out,E4.out]
      obtain ⟨u0,u1,u2,u3,b0,b1,b2,b3,bf⟩:=S5.box.open
      have bf0:=bf 0
      have bf1:=bf 1
      have bf2:=bf 2
      have bf3:=bf 3
      clear bf
      go_wp2
      obtain ⟨Wf,hWf,hput,_,d0,d1,d2,d3⟩:=putN4 S5.box (.int .i64 3) (.string ⟨((textA X.l i)).toArray⟩) (.int .i64 0) (.slice ao4 l4.length c4)
      rw [hWf]
      exact bodyPost_ret (v:=.agg #[.int .i64 3,.string ⟨((textA X.l i)).toArray⟩,.int .i64 0,.slice ao4 l4.length c4]) (by simp [results,Tryz.results97,go_sem,d0,d1,d2,d3]) rfl (OutT.of HR (S5.done Tt5 hput (by omega)))
   | true =>
    refine (take_yes X w1 (i + 1) h S1.par [115,116,114,117,99,116] (by decide) hm2).mono ?_
    rintro e w2 ⟨rfl,hb2,H2⟩
    have E2:=Lib.hid hm2
    have S2:=S1.call hb2 H2
    have lt2:=H2.lt
    clear hm2
    go_wp2_with fail
    refine (members_any X w2 (i + 2) h (fieldR X.l (ps X.l n)) 139 #[X.p] #[] enters_field S2.par (fun _ w1 k hk _ H1 => by rw [Array.append_empty]; exact field_any X n A w1 k false H1 (by omega))).mono ?_
    rintro e w6 ⟨⟨hb6,hr6⟩,hx6⟩
    cases hp6 : membersR X.l (fieldR X.l (ps X.l n)) (i + 2) with
    | bad j6 =>
     rw [hp6] at hr6
     obtain ⟨rfl,h6,H6⟩:=hr6
     have E6:=Lib.hid hp6
     have HR : Hid (typeDeclR X.l (ps X.l n) i = .bad j6):=by simp [Hid,typeDeclR,Res.bind,E1.out,E2.out,E6.out]
     exact ⟨rfl,OutT.of HR (S2.bad hb6 H6)⟩
    | ok l6 j6 =>
     rw [hp6] at hr6
     obtain ⟨ij6,H6,v6,rfl,hk6⟩:=hr6
     obtain ⟨ao6,c6,rfl⟩:=hk6.slice
     have xx6:=hx6 _ _ hp6
     have E6:=Lib.hid hp6
     have S6:=S2.call hb6 H6
     have lt6:=H6.lt
     have Tl6:=Own.new S2 hk6
     clear hp6
     clear hx6
     go_wp2_with fail
     refine (node_any 2 (textA X.l i) _ _ _ _).mono ?_
     rintro e w7 ⟨rfl,hb7⟩
     have S7:=S6.below hb7
     have Tl6_7:=Tl6.below hb7
     have Tt7:=Tl6_7.tre 2 (textA X.l i) 0
     have HR : Hid (typeDeclR X.l (ps X.l n) i = .ok (.mk 2 (textA X.l i) 0 l6) j6):=by simp [Hid,typeDeclR,Res.bind,E1.out,E2.out,E6.out]
     obtain ⟨u0,u1,u2,u3,b0,b1,b2,b3,bf⟩:=S7.box.open
     have bf0:=bf 0
     have bf1:=bf 1
     have bf2:=bf 2
     have bf3:=bf 3
     clear bf
     go_wp2
     obtain ⟨Wf,hWf,hput,_,d0,d1,d2,d3⟩:=putN4 S7.box (.int .i64 2) (.string ⟨((textA X.l i)).toArray⟩) (.int .i64 0) (.slice ao6 l6.length c6)
     rw [hWf]
     exact bodyPost_ret (v:=.agg #[.int .i64 2,.string ⟨((textA X.l i)).toArray⟩,.int .i64 0,.slice ao6 l6.length c6]) (by simp [results,Tryz.results97,go_sem,d0,d1,d2,d3]) rfl (OutT.of HR (S7.done Tt7 hput (by omega)))
end Go.Proofs.YtffnaknidofobaaGreatDoor
