/- The parser's expressions: operators and lists. -/
import Derived.Test.YtffnaknidofobaaGreatDoorParFJt
namespace Go.Proofs.YtffnaknidofobaaGreatDoor
open Go.RowKit
theorem isPrefix_any (s : List UInt8) (w : World) : Calls Tryz.prog 182 #[.string ⟨s.toArray⟩] w fun e w' => e = .returned (.bool (prefixL s)) ∧ w' = w:=by
 have HR : Hid (prefixL s = (s == [45] || s == [33] || s == [38] || s == [42])):=rfl
 by_cases h0 : s = [45]
 · subst h0
   have HP : Hid (prefixL _ = true):=Lib.hid (show prefixL [45] = true by decide)
   go_enter Tryz.func182,Tryz.ntmps182
   go_wp2
   go_ret
   exact ⟨by simp [HP.out],rfl⟩
 by_cases h1 : s = [33]
 · subst h1
   have HP : Hid (prefixL _ = true):=Lib.hid (show prefixL [33] = true by decide)
   go_enter Tryz.func182,Tryz.ntmps182
   go_wp2
   go_ret
   exact ⟨by simp [HP.out],rfl⟩
 by_cases h2 : s = [38]
 · subst h2
   have HP : Hid (prefixL _ = true):=Lib.hid (show prefixL [38] = true by decide)
   go_enter Tryz.func182,Tryz.ntmps182
   go_wp2
   go_ret
   exact ⟨by simp [HP.out],rfl⟩
 have e0 : (s == [45]) = false:=by simpa using h0
 have e1 : (s == [33]) = false:=by simpa using h1
 have e2 : (s == [38]) = false:=by simpa using h2
 have HR2 : Hid (prefixL s = (s == [42])):=HR.out.trans (by rw [e0,e1,e2]; rfl)
 clear h0 h1 h2
 go_enter Tryz.func182,Tryz.ntmps182
 go_wp2
 go_ret
 exact ⟨by simp [HR2.out],rfl⟩
set_option maxRecDepth 20000 in
set_option maxHeartbeats 1600000 in
theorem rank_any (s : List UInt8) (w : World) : Calls Tryz.prog 183 #[.string ⟨s.toArray⟩] w fun e w' => e = .returned (.int .i64 (rankL s)) ∧ w' = w:=by
 by_cases h0 : s = [124,124]
 · subst h0
   have HP : Hid (rankL [124,124] = 1):=Lib.hid (by decide)
   go_enter Tryz.func183,Tryz.ntmps183
   go_wp2
   go_ret
   exact ⟨by simp [HP.out],rfl⟩
 have e0 : (s == [124,124]) = false:=by simpa using h0
 clear h0
 by_cases h1 : s = [38,38]
 · subst h1
   have HP : Hid (rankL [38,38] = 2):=Lib.hid (by decide)
   go_enter Tryz.func183,Tryz.ntmps183
   go_wp2
   go_ret
   exact ⟨by simp [HP.out],rfl⟩
 have e1 : (s == [38,38]) = false:=by simpa using h1
 clear h1
 by_cases h2 : s = [61,61]
 · subst h2
   have HP : Hid (rankL [61,61] = 3):=Lib.hid (by decide)
   go_enter Tryz.func183,Tryz.ntmps183
   go_wp2
   go_ret
   exact ⟨by simp [HP.out],rfl⟩
 have e2 : (s == [61,61]) = false:=by simpa using h2
 clear h2
 by_cases h3 : s = [33,61]
 · subst h3
   have HP : Hid (rankL [33,61] = 3):=Lib.hid (by decide)
   go_enter Tryz.func183,Tryz.ntmps183
   go_wp2
   go_ret
   exact ⟨by simp [HP.out],rfl⟩
 have e3 : (s == [33,61]) = false:=by simpa using h3
 clear h3
 by_cases h4 : s = [60]
 · subst h4
   have HP : Hid (rankL [60] = 3):=Lib.hid (by decide)
   go_enter Tryz.func183,Tryz.ntmps183
   go_wp2
   go_ret
   exact ⟨by simp [HP.out],rfl⟩
 have e4 : (s == [60]) = false:=by simpa using h4
 clear h4
 by_cases h5 : s = [60,61]
 · subst h5
   have HP : Hid (rankL [60,61] = 3):=Lib.hid (by decide)
   go_enter Tryz.func183,Tryz.ntmps183
   go_wp2
   go_ret
   exact ⟨by simp [HP.out],rfl⟩
 have e5 : (s == [60,61]) = false:=by simpa using h5
 clear h5
 by_cases h6 : s = [62]
 · subst h6
   have HP : Hid (rankL [62] = 3):=Lib.hid (by decide)
   go_enter Tryz.func183,Tryz.ntmps183
   go_wp2
   go_ret
   exact ⟨by simp [HP.out],rfl⟩
 have e6 : (s == [62]) = false:=by simpa using h6
 clear h6
 by_cases h7 : s = [62,61]
 · subst h7
   have HP : Hid (rankL [62,61] = 3):=Lib.hid (by decide)
   go_enter Tryz.func183,Tryz.ntmps183
   go_wp2
   go_ret
   exact ⟨by simp [HP.out],rfl⟩
 have e7 : (s == [62,61]) = false:=by simpa using h7
 clear h7
 by_cases h8 : s = [43]
 · subst h8
   have HP : Hid (rankL [43] = 4):=Lib.hid (by decide)
   go_enter Tryz.func183,Tryz.ntmps183
   go_wp2
   go_ret
   exact ⟨by simp [HP.out],rfl⟩
 have e8 : (s == [43]) = false:=by simpa using h8
 clear h8
 by_cases h9 : s = [45]
 · subst h9
   have HP : Hid (rankL [45] = 4):=Lib.hid (by decide)
   go_enter Tryz.func183,Tryz.ntmps183
   go_wp2
   go_ret
   exact ⟨by simp [HP.out],rfl⟩
 have e9 : (s == [45]) = false:=by simpa using h9
 clear h9
 by_cases h10 : s = [42]
 · subst h10
   have HP : Hid (rankL [42] = 5):=Lib.hid (by decide)
   go_enter Tryz.func183,Tryz.ntmps183
   go_wp2
   go_ret
   exact ⟨by simp [HP.out],rfl⟩
 have e10 : (s == [42]) = false:=by simpa using h10
 clear h10
 by_cases h11 : s = [47]
 · subst h11
   have HP : Hid (rankL [47] = 5):=Lib.hid (by decide)
   go_enter Tryz.func183,Tryz.ntmps183
   go_wp2
   go_ret
   exact ⟨by simp [HP.out],rfl⟩
 have e11 : (s == [47]) = false:=by simpa using h11
 clear h11
 by_cases h12 : s = [37]
 · subst h12
   have HP : Hid (rankL [37] = 5):=Lib.hid (by decide)
   go_enter Tryz.func183,Tryz.ntmps183
   go_wp2
   go_ret
   exact ⟨by simp [HP.out],rfl⟩
 have e12 : (s == [37]) = false:=by simpa using h12
 clear h12
 have HR : Hid (rankL s = 0):=by simp only [Hid,rankL,e0,e1,e2,e3,e4,e5,e6,e7,e8,e9,e10,e11,e12]; rfl
 go_enter Tryz.func183,Tryz.ntmps183
 go_wp2
 go_ret
 exact ⟨by simp [HR.out],rfl⟩
set_option maxRecDepth 20000 in
set_option maxHeartbeats 1600000 in
theorem expression_any (X : Px) (n : Nat) (A : Good X n) (w : World) (i : Nat) (h : Bool) (H : Par X w i h) (hn : 3 * (X.l.length - i) + 1 ≤ n) :
    Calls Tryz.prog 209 #[X.p] w (OutT X w i h (exprR (ps X.l n) h i)):=by
  obtain ⟨W0,hW0,S0⟩:=St.first H
  have lt0:=H.lt
  go_enter Tryz.func209,Tryz.ntmps209
  go_wp2_with fail
  refine (A.bin W0 i h 1 S0.par (by decide) (by decide) hn).mono ?_
  rintro e w1 ⟨hb1,hr1⟩
  cases hp1 : (ps X.l n).bin h 1 i with
  | bad j1 =>
   rw [hp1] at hr1
   obtain ⟨rfl,h1,H1⟩:=hr1
   have E1:=Lib.hid hp1
   have HR : Hid (exprR (ps X.l n) h i = .bad j1):=by simp [Hid,exprR,E1.out]
   exact ⟨rfl,OutT.of HR (S0.bad hb1 H1)⟩
  | ok t1 j1 =>
   rw [hp1] at hr1
   obtain ⟨ij1,H1,sl1,rfl,hk1⟩:=hr1
   obtain ⟨ao1,n1,c1,rfl⟩:=hk1.slice
   have E1:=Lib.hid hp1
   have S1:=S0.call hb1 H1
   have lt1:=H1.lt
   have Tt1:=Tre.new S0 hk1
   clear hp1 hk1
   have HR : Hid (exprR (ps X.l n) h i = .ok t1 j1):=by simp [Hid,exprR,E1.out]
   obtain ⟨u0,u1,u2,u3,b0,b1,b2,b3,bf⟩:=S1.box.open
   have bf0:=bf 0
   have bf1:=bf 1
   have bf2:=bf 2
   have bf3:=bf 3
   clear bf
   go_wp2
   obtain ⟨Wf,hWf,hput,_,d0,d1,d2,d3⟩:=putN4 S1.box (.int .i64 t1.kind) (.string ⟨t1.text.toArray⟩) (.int .i64 t1.num) (.slice ao1 n1 c1)
   rw [hWf]
   exact bodyPost_ret (v:=.agg #[.int .i64 t1.kind,.string ⟨t1.text.toArray⟩,.int .i64 t1.num,.slice ao1 n1 c1]) (by simp [results,Tryz.results209,go_sem,d0,d1,d2,d3]) rfl (OutT.of HR (S1.done Tt1 hput (by omega)))
theorem expressions_any (X : Px) (n : Nat) (A : Good X n) (w : World) (i : Nat) (h : Bool) (H : Par X w i h) (hn : 3 * (X.l.length - i) + 1 ≤ n) :
    Calls Tryz.prog 198 #[X.p] w (fun e w' => OutL X w i h (exprsR X.l (ps X.l n) h i) e w' ∧ ∀ ts j,exprsR X.l (ps X.l n) h i = .ok ts j → 0 < ts.length):=by
  have cC:=commas_any X w i h (exprR (ps X.l n) h) 209 #[X.p] #[] enters_expression H (fun w1 k hk _ H1 => by rw [Array.append_empty]; exact expression_any X n A w1 k h H1 (by omega))
  have HX : Hid (exprsR X.l (ps X.l n) h i = commasR X.l (exprR (ps X.l n) h) i):=rfl
  go_enter Tryz.func198,Tryz.ntmps198
  go_wp2_with fail
  refine cC.mono ?_
  rintro e w2 ⟨⟨hb2,hr⟩,hx⟩
  clear cC
  generalize commasR X.l (exprR (ps X.l n) h) i = r at *
  cases r with
  | bad j =>
   obtain ⟨rfl,h',H2⟩:=hr
   exact ⟨rfl,OutL.of HX ⟨hb2,rfl,h',H2⟩,fun ts j e => by rw [HX.out] at e; cases e⟩
  | ok ts j =>
   obtain ⟨hij,H2,v,rfl,hk⟩:=hr
   obtain ⟨ao,cap,rfl⟩:=hk.slice
   go_wp2
   go_ret
   exact ⟨OutL.of HX ⟨hb2,hij,H2,_,rfl,hk⟩,fun ts' j' e => by rw [HX.out] at e; exact hx ts' j' e⟩
theorem elements_any (X : Px) (n : Nat) (A : Good X n) (w : World) (i : Nat) (h : Bool) (H : Par X w i h) (hn : 3 * (X.l.length - i) ≤ n + 2) :
    Calls Tryz.prog 221 #[X.p] w (fun e w' => OutL X w i h (elementsR X.l (ps X.l n) i) e w' ∧ ∀ ts j,elementsR X.l (ps X.l n) i = .ok ts j → i < j):=by
  have lt0:=H.lt
  have cC:=listed_any X w i h (exprR (ps X.l n) false) 209 #[X.p] #[] enters_expression H [123] [125] (by decide) (by decide) (fun _ w1 k hk _ H1 => by rw [Array.append_empty]; exact expression_any X n A w1 k false H1 (by omega))
  have HX : Hid (elementsR X.l (ps X.l n) i = listedR X.l [123] [125] (exprR (ps X.l n) false) i):=rfl
  go_enter Tryz.func221,Tryz.ntmps221
  go_wp2_with fail
  refine cC.mono ?_
  rintro e w2 ⟨⟨hb2,hr⟩,hx⟩
  clear cC
  generalize listedR X.l [123] [125] (exprR (ps X.l n) false) i = r at *
  cases r with
  | bad j =>
   obtain ⟨rfl,h',H2⟩:=hr
   exact ⟨rfl,OutL.of HX ⟨hb2,rfl,h',H2⟩,fun ts j e => by rw [HX.out] at e; cases e⟩
  | ok ts j =>
   obtain ⟨hij,H2,v,rfl,hk⟩:=hr
   obtain ⟨ao,cap,rfl⟩:=hk.slice
   go_wp2
   go_ret
   exact ⟨OutL.of HX ⟨hb2,hij,H2,_,rfl,hk⟩,fun ts' j' e => by rw [HX.out] at e; exact hx ts' j' e⟩
set_option maxRecDepth 20000 in
set_option maxHeartbeats 1600000 in
theorem named_false_any (X : Px) (n : Nat) (A : Good X n) (w : World) (i : Nat) (H : Par X w i false) (hn : 3 * (X.l.length - i) ≤ n + 3) :
    Calls Tryz.prog 220 #[X.p] w (OutT X w i false (namedR X.l (ps X.l n) false i)):=by
  obtain ⟨W0,hW0,S0⟩:=St.first H
  have lt0:=H.lt
  go_enter Tryz.func220,Tryz.ntmps220
  go_wp2_with fail
  cases hm1 : (kindA X.l i == 1) with
  | false =>
   have E1:=Lib.hid (nameR_no hm1)
   refine (name_no X W0 i false S0.par (by simpa using hm1)).mono ?_
   rintro e w1 ⟨rfl,hb1,H1⟩
   have HR : Hid (namedR X.l (ps X.l n) false i = .bad i):=by simp [Hid,namedR,Res.bind,E1.out]
   exact ⟨rfl,OutT.of HR (S0.bad hb1 H1)⟩
  | true =>
   have E1:=Lib.hid (nameR_yes hm1)
   refine (name_yes X W0 i false S0.par (by simpa using hm1)).mono ?_
   rintro e w1 ⟨rfl,hb1,H1⟩
   have S1:=S0.call hb1 H1
   have lt1:=H1.lt
   clear hm1
   have c2:=S1.par.c2
   go_wp2_with fail
   have cI2:=is_any X w1 (i + 1) false S1.par [123]
   cases hm2 : isM X.l (i + 1) [123] with
   | false =>
    rw [hm2] at cI2
    refine cI2.mono ?_
    rintro e w2 ⟨rfl,hb2⟩
    have E2:=Lib.hid hm2
    have S2:=S1.below hb2
    clear hm2 cI2
    go_wp2_with fail
    refine (node_any 44 (textA X.l i) _ _ _ _).mono ?_
    rintro e w3 ⟨rfl,hb3⟩
    have S3:=S2.below hb3
    have Tt3:=Tre.leaf w w3 44 (textA X.l i) 0 none 0
    have HR : Hid (namedR X.l (ps X.l n) false i = .ok (.mk 44 (textA X.l i) 0 []) (i + 1)):=by simp [Hid,namedR,Res.bind,E1.out,E2.out]
    obtain ⟨u0,u1,u2,u3,b0,b1,b2,b3,bf⟩:=S3.box.open
    have bf0:=bf 0
    have bf1:=bf 1
    have bf2:=bf 2
    have bf3:=bf 3
    clear bf
    go_wp2
    obtain ⟨Wf,hWf,hput,_,d0,d1,d2,d3⟩:=putN4 S3.box (.int .i64 44) (.string ⟨((textA X.l i)).toArray⟩) (.int .i64 0) (.slice none 0 0)
    rw [hWf]
    exact bodyPost_ret (v:=.agg #[.int .i64 44,.string ⟨((textA X.l i)).toArray⟩,.int .i64 0,.slice none 0 0]) (by simp [results,Tryz.results220,go_sem,d0,d1,d2,d3]) rfl (OutT.of HR (S3.done Tt3 hput (by omega)))
   | true =>
    rw [hm2] at cI2
    refine cI2.mono ?_
    rintro e w2 ⟨rfl,hb2⟩
    have E2:=Lib.hid hm2
    have S2:=S1.below hb2
    clear hm2 cI2
    have c2:=S2.par.c2
    go_wp2_with fail
    refine (elements_any X n A w2 (i + 1) false S2.par (by omega)).mono ?_
    rintro e w4 ⟨⟨hb4,hr4⟩,hx4⟩
    cases hp4 : elementsR X.l (ps X.l n) (i + 1) with
    | bad j4 =>
     rw [hp4] at hr4
     obtain ⟨rfl,h4,H4⟩:=hr4
     have E4:=Lib.hid hp4
     have HR : Hid (namedR X.l (ps X.l n) false i = .bad j4):=by simp [Hid,namedR,Res.bind,E1.out,E2.out,E4.out]
     exact ⟨rfl,OutT.of HR (S2.bad hb4 H4)⟩
    | ok l4 j4 =>
     rw [hp4] at hr4
     obtain ⟨ij4,H4,v4,rfl,hk4⟩:=hr4
     obtain ⟨ao4,c4,rfl⟩:=hk4.slice
     have xx4:=hx4 _ _ hp4
     have E4:=Lib.hid hp4
     have S4:=S2.call hb4 H4
     have lt4:=H4.lt
     have Tl4:=Own.new S2 hk4
     clear hp4
     clear hx4
     go_wp2_with fail
     refine (node_any 45 (textA X.l i) _ _ _ _).mono ?_
     rintro e w5 ⟨rfl,hb5⟩
     have S5:=S4.below hb5
     have Tl4_5:=Tl4.below hb5
     have Tt5:=Tl4_5.tre 45 (textA X.l i) 0
     have HR : Hid (namedR X.l (ps X.l n) false i = .ok (.mk 45 (textA X.l i) 0 l4) j4):=by simp [Hid,namedR,Res.bind,E1.out,E2.out,E4.out]
     obtain ⟨u0,u1,u2,u3,b0,b1,b2,b3,bf⟩:=S5.box.open
     have bf0:=bf 0
     have bf1:=bf 1
     have bf2:=bf 2
     have bf3:=bf 3
     clear bf
     go_wp2
     obtain ⟨Wf,hWf,hput,_,d0,d1,d2,d3⟩:=putN4 S5.box (.int .i64 45) (.string ⟨((textA X.l i)).toArray⟩) (.int .i64 0) (.slice ao4 l4.length c4)
     rw [hWf]
     exact bodyPost_ret (v:=.agg #[.int .i64 45,.string ⟨((textA X.l i)).toArray⟩,.int .i64 0,.slice ao4 l4.length c4]) (by simp [results,Tryz.results220,go_sem,d0,d1,d2,d3]) rfl (OutT.of HR (S5.done Tt5 hput (by omega)))
set_option maxRecDepth 20000 in
set_option maxHeartbeats 1600000 in
theorem named_true_any (X : Px) (n : Nat) (w : World) (i : Nat) (H : Par X w i true) :
    Calls Tryz.prog 220 #[X.p] w (OutT X w i true (namedR X.l (ps X.l n) true i)):=by
  obtain ⟨W0,hW0,S0⟩:=St.first H
  have lt0:=H.lt
  go_enter Tryz.func220,Tryz.ntmps220
  go_wp2_with fail
  cases hm1 : (kindA X.l i == 1) with
  | false =>
   have E1:=Lib.hid (nameR_no hm1)
   refine (name_no X W0 i true S0.par (by simpa using hm1)).mono ?_
   rintro e w1 ⟨rfl,hb1,H1⟩
   have HR : Hid (namedR X.l (ps X.l n) true i = .bad i):=by simp [Hid,namedR,Res.bind,E1.out]
   exact ⟨rfl,OutT.of HR (S0.bad hb1 H1)⟩
  | true =>
   have E1:=Lib.hid (nameR_yes hm1)
   refine (name_yes X W0 i true S0.par (by simpa using hm1)).mono ?_
   rintro e w1 ⟨rfl,hb1,H1⟩
   have S1:=S0.call hb1 H1
   have lt1:=H1.lt
   clear hm1
   have c2:=S1.par.c2
   go_wp2_with fail
   have cI2:=is_any X w1 (i + 1) true S1.par [123]
   cases hm2 : isM X.l (i + 1) [123] with
   | false =>
    rw [hm2] at cI2
    refine cI2.mono ?_
    rintro e w2 ⟨rfl,hb2⟩
    have E2:=Lib.hid hm2
    have S2:=S1.below hb2
    clear hm2 cI2
    go_wp2_with fail
    refine (node_any 44 (textA X.l i) _ _ _ _).mono ?_
    rintro e w3 ⟨rfl,hb3⟩
    have S3:=S2.below hb3
    have Tt3:=Tre.leaf w w3 44 (textA X.l i) 0 none 0
    have HR : Hid (namedR X.l (ps X.l n) true i = .ok (.mk 44 (textA X.l i) 0 []) (i + 1)):=by simp [Hid,namedR,Res.bind,E1.out,E2.out]
    obtain ⟨u0,u1,u2,u3,b0,b1,b2,b3,bf⟩:=S3.box.open
    have bf0:=bf 0
    have bf1:=bf 1
    have bf2:=bf 2
    have bf3:=bf 3
    clear bf
    go_wp2
    obtain ⟨Wf,hWf,hput,_,d0,d1,d2,d3⟩:=putN4 S3.box (.int .i64 44) (.string ⟨((textA X.l i)).toArray⟩) (.int .i64 0) (.slice none 0 0)
    rw [hWf]
    exact bodyPost_ret (v:=.agg #[.int .i64 44,.string ⟨((textA X.l i)).toArray⟩,.int .i64 0,.slice none 0 0]) (by simp [results,Tryz.results220,go_sem,d0,d1,d2,d3]) rfl (OutT.of HR (S3.done Tt3 hput (by omega)))
   | true =>
    rw [hm2] at cI2
    refine cI2.mono ?_
    rintro e w2 ⟨rfl,hb2⟩
    have E2:=Lib.hid hm2
    have S2:=S1.below hb2
    clear hm2 cI2
    have c2:=S2.par.c2
    go_wp2_with fail
    refine (node_any 44 (textA X.l i) _ _ _ _).mono ?_
    rintro e w4 ⟨rfl,hb4⟩
    have S4:=S2.below hb4
    have Tt4:=Tre.leaf w w4 44 (textA X.l i) 0 none 0
    have HR : Hid (namedR X.l (ps X.l n) true i = .ok (.mk 44 (textA X.l i) 0 []) (i + 1)):=by simp [Hid,namedR,Res.bind,E1.out,E2.out]
    obtain ⟨u0,u1,u2,u3,b0,b1,b2,b3,bf⟩:=S4.box.open
    have bf0:=bf 0
    have bf1:=bf 1
    have bf2:=bf 2
    have bf3:=bf 3
    clear bf
    go_wp2
    obtain ⟨Wf,hWf,hput,_,d0,d1,d2,d3⟩:=putN4 S4.box (.int .i64 44) (.string ⟨((textA X.l i)).toArray⟩) (.int .i64 0) (.slice none 0 0)
    rw [hWf]
    exact bodyPost_ret (v:=.agg #[.int .i64 44,.string ⟨((textA X.l i)).toArray⟩,.int .i64 0,.slice none 0 0]) (by simp [results,Tryz.results220,go_sem,d0,d1,d2,d3]) rfl (OutT.of HR (S4.done Tt4 hput (by omega)))
theorem named_any (X : Px) (n : Nat) (A : Good X n) (w : World) (i : Nat) (h : Bool) (H : Par X w i h) (hn : 3 * (X.l.length - i) ≤ n + 3) :
    Calls Tryz.prog 220 #[X.p] w (OutT X w i h (namedR X.l (ps X.l n) h i)):=by
  cases h
  · exact named_false_any X n A w i H hn
  · exact named_true_any X n w i H
set_option maxRecDepth 20000 in
set_option maxHeartbeats 8000000 in
theorem primary_any (X : Px) (n : Nat) (A : Good X n) (w : World) (i : Nat) (h : Bool) (H : Par X w i h) (hn : 3 * (X.l.length - i) ≤ n + 1) :
    Calls Tryz.prog 217 #[X.p] w (OutT X w i h (primR X.l (ps X.l n) h i)):=by
  obtain ⟨W0,hW0,S0⟩:=St.first H
  have lt0:=H.lt
  go_enter Tryz.func217,Tryz.ntmps217
  go_wp2_with fail
  refine (tokenA_any X W0 i h S0.par).mono ?_
  rintro e w1 ⟨rfl,hb1⟩
  have S1:=S0.below hb1
  have tp1:=S1.plt
  have tl1:=S1.lt
  have tq1 : X.P < w1.heap.size:=S1.par.plt
  have tn1 : X.P ≠ w1.heap.size:=by omega
  have to1 : w1.heap.size ≠ X.P:=by omega
  cases hm2 : (kindA X.l i == 2) with
  | false =>
   have E2:=Lib.hid hm2
   cases hm3 : (kindA X.l i == 3) with
   | false =>
    have E3:=Lib.hid hm3
    cases hm4 : (kindA X.l i == 1) with
    | false =>
     have E4:=Lib.hid hm4
     have S5:=S1.alloc (.cells #[.int .i64 (kindA X.l i),.string ⟨(textA X.l i).toArray⟩,.int .i64 (numA X.l i),.int .i64 (atA X.l i)] 56)
     go_wp2_with fail
     cases hm6 : isM X.l i [116,114,117,101] with
     | false =>
      refine (take_no X (w1.alloc (.cells #[.int .i64 (kindA X.l i),.string ⟨(textA X.l i).toArray⟩,.int .i64 (numA X.l i),.int .i64 (atA X.l i)] 56)) i h S5.par [116,114,117,101] hm6).mono ?_
      rintro e w6 ⟨rfl,hb6,H6⟩
      have E6:=Lib.hid hm6
      have S6:=S5.call hb6 H6
      have lt6:=H6.lt
      clear hm6
      go_wp2_with fail
      cases hm7 : isM X.l i [102,97,108,115,101] with
      | false =>
       refine (take_no X w6 i h S6.par [102,97,108,115,101] hm7).mono ?_
       rintro e w7 ⟨rfl,hb7,H7⟩
       have E7:=Lib.hid hm7
       have S7:=S6.call hb7 H7
       have lt7:=H7.lt
       clear hm7
       go_wp2_with fail
       cases hm8 : isM X.l i [110,105,108] with
       | false =>
        refine (take_no X w7 i h S7.par [110,105,108] hm8).mono ?_
        rintro e w8 ⟨rfl,hb8,H8⟩
        have E8:=Lib.hid hm8
        have S8:=S7.call hb8 H8
        have lt8:=H8.lt
        clear hm8
        go_wp2_with fail
        have cI9:=is_any X w8 i h S8.par [40]
        cases hm9 : isM X.l i [40] with
        | false =>
         rw [hm9] at cI9
         refine cI9.mono ?_
         rintro e w9 ⟨rfl,hb9⟩
         have E9:=Lib.hid hm9
         have S9:=S8.below hb9
         clear hm9 cI9
         go_wp2_with fail
         cases hm10 : isM X.l i [91] with
         | false =>
          refine (take_no X w9 i h S9.par [91] hm10).mono ?_
          rintro e w10 ⟨rfl,hb10,H10⟩
          have E10:=Lib.hid hm10
          have S10:=S9.call hb10 H10
          have lt10:=H10.lt
          clear hm10
          go_wp2_with fail
          cases hm11 : isM X.l i [102,117,110,99] with
          | false =>
           have E11:=Lib.hid (needR_no hm11)
           refine (need_no X w10 i h S10.par [102,117,110,99] hm11).mono ?_
           rintro e w11 ⟨rfl,hb11,H11⟩
           have HR : Hid (primR X.l (ps X.l n) h i = .bad i):=by simp [Hid,primR,Res.bind,E2.out,E3.out,E4.out,E6.out,E7.out,E8.out,E9.out,E10.out,E11.out]
           exact ⟨rfl,OutT.of HR (S10.bad hb11 H11)⟩
          | true =>
           have E11:=Lib.hid (needR_yes hm11)
           refine (need_yes X w10 i h S10.par [102,117,110,99] (by decide) hm11).mono ?_
           rintro e w11 ⟨rfl,hb11,H11⟩
           have S11:=S10.call hb11 H11
           have lt11:=H11.lt
           clear hm11
           go_wp2_with fail
           refine (signature_any X n A w11 (i + 1) h S11.par (by omega)).mono ?_
           rintro e w12 ⟨hb12,hr12⟩
           cases hp12 : sigR X.l (ps X.l n) (i + 1) with
           | bad j12 =>
            rw [hp12] at hr12
            obtain ⟨rfl,h12,H12⟩:=hr12
            have E12:=Lib.hid hp12
            have HR : Hid (primR X.l (ps X.l n) h i = .bad j12):=by simp [Hid,primR,Res.bind,E2.out,E3.out,E4.out,E6.out,E7.out,E8.out,E9.out,E10.out,E11.out,E12.out]
            exact ⟨rfl,OutT.of HR (S11.bad hb12 H12)⟩
           | ok t12 j12 =>
            rw [hp12] at hr12
            obtain ⟨ij12,H12,sl12,rfl,hk12⟩:=hr12
            obtain ⟨ao12,n12,c12,rfl⟩:=hk12.slice
            have E12:=Lib.hid hp12
            have S12:=S11.call hb12 H12
            have lt12:=H12.lt
            have Tt12:=Tre.new S11 hk12
            clear hp12 hk12
            go_wp2_with fail
            refine (A.blk w12 j12 h S12.par (by omega)).mono ?_
            rintro e w13 ⟨hb13,hr13⟩
            cases hp13 : (ps X.l n).blk j12 with
            | bad j13 =>
             rw [hp13] at hr13
             obtain ⟨rfl,h13,H13⟩:=hr13
             have E13:=Lib.hid hp13
             have HR : Hid (primR X.l (ps X.l n) h i = .bad j13):=by simp [Hid,primR,Res.bind,E2.out,E3.out,E4.out,E6.out,E7.out,E8.out,E9.out,E10.out,E11.out,E12.out,E13.out]
             exact ⟨rfl,OutT.of HR (S12.bad hb13 H13)⟩
            | ok t13 j13 =>
             rw [hp13] at hr13
             obtain ⟨ij13,H13,sl13,rfl,hk13⟩:=hr13
             obtain ⟨ao13,n13,c13,rfl⟩:=hk13.slice
             have E13:=Lib.hid hp13
             have S13:=S12.call hb13 H13
             have Tt12_13:=Tt12.call S12 hb13
             have lt13:=H13.lt
             have Tt13:=Tre.new S12 hk13
             clear hp13 hk13
             have Tl14:=Own.made2 S13 Tt12_13 Tt13
             have S14:=S13.alloc (.cells #[.int .i64 t12.kind,.string ⟨t12.text.toArray⟩,.int .i64 t12.num,.slice ao12 n12 c12,.int .i64 t13.kind,.string ⟨t13.text.toArray⟩,.int .i64 t13.num,.slice ao13 n13 c13] 24)
             go_wp2_with fail
             refine (node_any 47 [] _ _ _ _).mono ?_
             rintro e w15 ⟨rfl,hb15⟩
             have S15:=S14.below hb15
             have Tl14_15:=Tl14.below hb15
             have Tt15:=Tl14_15.tre 47 [] 0
             have HR : Hid (primR X.l (ps X.l n) h i = .ok (.mk 47 [] 0 [t12,t13]) j13):=by simp [Hid,primR,Res.bind,E2.out,E3.out,E4.out,E6.out,E7.out,E8.out,E9.out,E10.out,E11.out,E12.out,E13.out]
             obtain ⟨u0,u1,u2,u3,b0,b1,b2,b3,bf⟩:=S15.box.open
             have bf0:=bf 0
             have bf1:=bf 1
             have bf2:=bf 2
             have bf3:=bf 3
             clear bf
             go_wp2
             obtain ⟨Wf,hWf,hput,_,d0,d1,d2,d3⟩:=putN4 S15.box (.int .i64 47) (.string ⟨([]).toArray⟩) (.int .i64 0) (.slice (some ⟨w13.heap.size,0,none⟩) 2 2)
             rw [hWf]
             exact bodyPost_ret (v:=.agg #[.int .i64 47,.string ⟨([]).toArray⟩,.int .i64 0,.slice (some ⟨w13.heap.size,0,none⟩) 2 2]) (by simp [results,Tryz.results217,go_sem,d0,d1,d2,d3]) rfl (OutT.of HR (S15.done Tt15 hput (by omega)))
         | true =>
          refine (take_yes X w9 i h S9.par [91] (by decide) hm10).mono ?_
          rintro e w10 ⟨rfl,hb10,H10⟩
          have E10:=Lib.hid hm10
          have S10:=S9.call hb10 H10
          have lt10:=H10.lt
          clear hm10
          go_wp2_with fail
          cases hm16 : isM X.l (i + 1) [93] with
          | false =>
           have E16:=Lib.hid (needR_no hm16)
           refine (need_no X w10 (i + 1) h S10.par [93] hm16).mono ?_
           rintro e w16 ⟨rfl,hb16,H16⟩
           have HR : Hid (primR X.l (ps X.l n) h i = .bad (i + 1)):=by simp [Hid,primR,Res.bind,E2.out,E3.out,E4.out,E6.out,E7.out,E8.out,E9.out,E10.out,E16.out]
           exact ⟨rfl,OutT.of HR (S10.bad hb16 H16)⟩
          | true =>
           have E16:=Lib.hid (needR_yes hm16)
           refine (need_yes X w10 (i + 1) h S10.par [93] (by decide) hm16).mono ?_
           rintro e w16 ⟨rfl,hb16,H16⟩
           have S16:=S10.call hb16 H16
           have lt16:=H16.lt
           clear hm16
           go_wp2_with fail
           refine (A.typ w16 (i + 2) h S16.par (by omega)).mono ?_
           rintro e w17 ⟨hb17,hr17⟩
           cases hp17 : (ps X.l n).typ (i + 2) with
           | bad j17 =>
            rw [hp17] at hr17
            obtain ⟨rfl,h17,H17⟩:=hr17
            have E17:=Lib.hid hp17
            have HR : Hid (primR X.l (ps X.l n) h i = .bad j17):=by simp [Hid,primR,Res.bind,E2.out,E3.out,E4.out,E6.out,E7.out,E8.out,E9.out,E10.out,E16.out,E17.out]
            exact ⟨rfl,OutT.of HR (S16.bad hb17 H17)⟩
           | ok t17 j17 =>
            rw [hp17] at hr17
            obtain ⟨ij17,H17,sl17,rfl,hk17⟩:=hr17
            obtain ⟨ao17,n17,c17,rfl⟩:=hk17.slice
            have E17:=Lib.hid hp17
            have S17:=S16.call hb17 H17
            have lt17:=H17.lt
            have Tt17:=Tre.new S16 hk17
            clear hp17 hk17
            have Tl18:=Own.made1 S17 Tt17
            have S18:=S17.alloc (.cells #[.int .i64 t17.kind,.string ⟨t17.text.toArray⟩,.int .i64 t17.num,.slice ao17 n17 c17] 24)
            go_wp2_with fail
            generalize (Value.slice (some ⟨w17.heap.size,0,none⟩) 1 1) = V19 at *
            refine (elements_any X n A (w17.alloc (.cells #[.int .i64 t17.kind,.string ⟨t17.text.toArray⟩,.int .i64 t17.num,.slice ao17 n17 c17] 24)) j17 h S18.par (by omega)).mono ?_
            rintro e w19 ⟨⟨hb19,hr19⟩,hx19⟩
            cases hp19 : elementsR X.l (ps X.l n) j17 with
            | bad j19 =>
             rw [hp19] at hr19
             obtain ⟨rfl,h19,H19⟩:=hr19
             have E19:=Lib.hid hp19
             have HR : Hid (primR X.l (ps X.l n) h i = .bad j19):=by simp [Hid,primR,Res.bind,E2.out,E3.out,E4.out,E6.out,E7.out,E8.out,E9.out,E10.out,E16.out,E17.out,E19.out]
             exact ⟨rfl,OutT.of HR (S18.bad hb19 H19)⟩
            | ok l19 j19 =>
             rw [hp19] at hr19
             obtain ⟨ij19,H19,v19,rfl,hk19⟩:=hr19
             obtain ⟨ao19,c19,rfl⟩:=hk19.slice
             have xx19:=hx19 _ _ hp19
             have E19:=Lib.hid hp19
             have bz19:=hb19.size
             have ls19:=S18.lt
             have bd19:=H19.bnd
             have lv19_l18:=OwnL.lt Tl18
             have S19:=S18.call hb19 H19
             have Tl18_19:=Tl18.call S18 hb19
             have lt19:=H19.lt
             have Tl19:=Own.new S18 hk19
             clear hp19
             clear hx19
             go_wp2_with (at_builtin; refine wpList_join (by rfl) _ _ (by rfl) (by rfl) (by rfl) Tl18_19 hk19 (by omega) (by omega) (fun q hq => (lv19_l18 q hq).2) (by first | omega | (simp only [List.length_cons,List.length_nil]; omega)) ?_)
             intro ao20 c20 w20 hO20 hg20
             have S20:=S19.grown hg20 (fun q hq => (lv19_l18 q hq).1)
             have Tl20 : Own w w20 _ _:=hO20
             clear hk19
             go_wp2_with fail
             refine (node_any 46 [] _ _ _ _).mono ?_
             rintro e w21 ⟨rfl,hb21⟩
             have S21:=S20.below hb21
             have Tl20_21:=Tl20.below hb21
             have Tt21:=Tl20_21.tre 46 [] 0
             have HR : Hid (primR X.l (ps X.l n) h i = .ok (.mk 46 [] 0 ([t17] ++ l19)) j19):=by simp [Hid,primR,Res.bind,E2.out,E3.out,E4.out,E6.out,E7.out,E8.out,E9.out,E10.out,E16.out,E17.out,E19.out]
             obtain ⟨u0,u1,u2,u3,b0,b1,b2,b3,bf⟩:=S21.box.open
             have bf0:=bf 0
             have bf1:=bf 1
             have bf2:=bf 2
             have bf3:=bf 3
             clear bf
             go_wp2
             obtain ⟨Wf,hWf,hput,_,d0,d1,d2,d3⟩:=putN4 S21.box (.int .i64 46) (.string ⟨([]).toArray⟩) (.int .i64 0) (.slice ao20 (1 + l19.length) c20)
             rw [hWf]
             exact bodyPost_ret (v:=.agg #[.int .i64 46,.string ⟨([]).toArray⟩,.int .i64 0,.slice ao20 (1 + l19.length) c20]) (by simp [results,Tryz.results217,go_sem,d0,d1,d2,d3]) rfl (OutT.of HR (S21.done Tt21 hput (by omega)))
        | true =>
         rw [hm9] at cI9
         refine cI9.mono ?_
         rintro e w9 ⟨rfl,hb9⟩
         have E9:=Lib.hid hm9
         have S9:=S8.below hb9
         clear hm9 cI9
         go_wp2_with fail
         refine (betweenN_any X w9 i h (exprR (ps X.l n) false) 209 #[X.p] #[] enters_expression S9.par [40] [41] (by decide) (by decide) (fun _ w1 _ H1 => by rw [Array.append_empty]; exact expression_any X n A w1 (i + 1) false H1 (by omega))).mono ?_
         rintro e w22 ⟨hb22,hr22⟩
         cases hp22 : betweenR X.l [40] [41] (exprR (ps X.l n) false) i with
         | bad j22 =>
          rw [hp22] at hr22
          obtain ⟨rfl,h22,H22⟩:=hr22
          have E22:=Lib.hid hp22
          have HR : Hid (primR X.l (ps X.l n) h i = .bad j22):=by simp [Hid,primR,E2.out,E3.out,E4.out,E6.out,E7.out,E8.out,E9.out,E22.out]
          exact ⟨rfl,OutT.of HR (S9.bad hb22 H22)⟩
         | ok t22 j22 =>
          rw [hp22] at hr22
          obtain ⟨ij22,H22,sl22,rfl,hk22⟩:=hr22
          obtain ⟨ao22,n22,c22,rfl⟩:=hk22.slice
          have E22:=Lib.hid hp22
          have S22:=S9.call hb22 H22
          have lt22:=H22.lt
          have Tt22:=Tre.new S9 hk22
          clear hp22 hk22
          have HR : Hid (primR X.l (ps X.l n) h i = .ok t22 j22):=by simp [Hid,primR,E2.out,E3.out,E4.out,E6.out,E7.out,E8.out,E9.out,E22.out]
          obtain ⟨u0,u1,u2,u3,b0,b1,b2,b3,bf⟩:=S22.box.open
          have bf0:=bf 0
          have bf1:=bf 1
          have bf2:=bf 2
          have bf3:=bf 3
          clear bf
          go_wp2
          obtain ⟨Wf,hWf,hput,_,d0,d1,d2,d3⟩:=putN4 S22.box (.int .i64 t22.kind) (.string ⟨t22.text.toArray⟩) (.int .i64 t22.num) (.slice ao22 n22 c22)
          rw [hWf]
          exact bodyPost_ret (v:=.agg #[.int .i64 t22.kind,.string ⟨t22.text.toArray⟩,.int .i64 t22.num,.slice ao22 n22 c22]) (by simp [results,Tryz.results217,go_sem,d0,d1,d2,d3]) rfl (OutT.of HR (S22.done Tt22 hput (by omega)))
       | true =>
        refine (take_yes X w7 i h S7.par [110,105,108] (by decide) hm8).mono ?_
        rintro e w8 ⟨rfl,hb8,H8⟩
        have E8:=Lib.hid hm8
        have S8:=S7.call hb8 H8
        have lt8:=H8.lt
        clear hm8
        go_wp2_with fail
        refine (node_any 43 [] _ _ _ _).mono ?_
        rintro e w23 ⟨rfl,hb23⟩
        have S23:=S8.below hb23
        have Tt23:=Tre.leaf w w23 43 [] 0 none 0
        have HR : Hid (primR X.l (ps X.l n) h i = .ok (.mk 43 [] 0 []) (i + 1)):=by simp [Hid,primR,E2.out,E3.out,E4.out,E6.out,E7.out,E8.out]
        obtain ⟨u0,u1,u2,u3,b0,b1,b2,b3,bf⟩:=S23.box.open
        have bf0:=bf 0
        have bf1:=bf 1
        have bf2:=bf 2
        have bf3:=bf 3
        clear bf
        go_wp2
        obtain ⟨Wf,hWf,hput,_,d0,d1,d2,d3⟩:=putN4 S23.box (.int .i64 43) (.string ⟨([]).toArray⟩) (.int .i64 0) (.slice none 0 0)
        rw [hWf]
        exact bodyPost_ret (v:=.agg #[.int .i64 43,.string ⟨([]).toArray⟩,.int .i64 0,.slice none 0 0]) (by simp [results,Tryz.results217,go_sem,d0,d1,d2,d3]) rfl (OutT.of HR (S23.done Tt23 hput (by omega)))
      | true =>
       refine (take_yes X w6 i h S6.par [102,97,108,115,101] (by decide) hm7).mono ?_
       rintro e w7 ⟨rfl,hb7,H7⟩
       have E7:=Lib.hid hm7
       have S7:=S6.call hb7 H7
       have lt7:=H7.lt
       clear hm7
       go_wp2_with fail
       refine (node_any 42 [] _ _ _ _).mono ?_
       rintro e w24 ⟨rfl,hb24⟩
       have S24:=S7.below hb24
       have Tt24:=Tre.leaf w w24 42 [] 0 none 0
       have HR : Hid (primR X.l (ps X.l n) h i = .ok (.mk 42 [] 0 []) (i + 1)):=by simp [Hid,primR,E2.out,E3.out,E4.out,E6.out,E7.out]
       obtain ⟨u0,u1,u2,u3,b0,b1,b2,b3,bf⟩:=S24.box.open
       have bf0:=bf 0
       have bf1:=bf 1
       have bf2:=bf 2
       have bf3:=bf 3
       clear bf
       go_wp2
       obtain ⟨Wf,hWf,hput,_,d0,d1,d2,d3⟩:=putN4 S24.box (.int .i64 42) (.string ⟨([]).toArray⟩) (.int .i64 0) (.slice none 0 0)
       rw [hWf]
       exact bodyPost_ret (v:=.agg #[.int .i64 42,.string ⟨([]).toArray⟩,.int .i64 0,.slice none 0 0]) (by simp [results,Tryz.results217,go_sem,d0,d1,d2,d3]) rfl (OutT.of HR (S24.done Tt24 hput (by omega)))
     | true =>
      refine (take_yes X (w1.alloc (.cells #[.int .i64 (kindA X.l i),.string ⟨(textA X.l i).toArray⟩,.int .i64 (numA X.l i),.int .i64 (atA X.l i)] 56)) i h S5.par [116,114,117,101] (by decide) hm6).mono ?_
      rintro e w6 ⟨rfl,hb6,H6⟩
      have E6:=Lib.hid hm6
      have S6:=S5.call hb6 H6
      have lt6:=H6.lt
      clear hm6
      have Tt25:=Tre.leaf w w6 42 [] 1 none 0
      have HR : Hid (primR X.l (ps X.l n) h i = .ok (.mk 42 [] 1 []) (i + 1)):=by simp [Hid,primR,E2.out,E3.out,E4.out,E6.out]
      obtain ⟨u0,u1,u2,u3,b0,b1,b2,b3,bf⟩:=S6.box.open
      have bf0:=bf 0
      have bf1:=bf 1
      have bf2:=bf 2
      have bf3:=bf 3
      clear bf
      go_wp2
      obtain ⟨Wf,hWf,hput,_,d0,d1,d2,d3⟩:=putN4 S6.box (.int .i64 42) (.string ⟨([]).toArray⟩) (.int .i64 1) (.slice none 0 0)
      rw [hWf]
      exact bodyPost_ret (v:=.agg #[.int .i64 42,.string ⟨([]).toArray⟩,.int .i64 1,.slice none 0 0]) (by simp [results,Tryz.results217,go_sem,d0,d1,d2,d3]) rfl (OutT.of HR (S6.done Tt25 hput (by omega)))
    | true =>
     have E4:=Lib.hid hm4
     have S26:=S1.alloc (.cells #[.int .i64 (kindA X.l i),.string ⟨(textA X.l i).toArray⟩,.int .i64 (numA X.l i),.int .i64 (atA X.l i)] 56)
     go_wp2_with fail
     refine (named_any X n A (w1.alloc (.cells #[.int .i64 (kindA X.l i),.string ⟨(textA X.l i).toArray⟩,.int .i64 (numA X.l i),.int .i64 (atA X.l i)] 56)) i h S26.par (by omega)).mono ?_
     rintro e w27 ⟨hb27,hr27⟩
     cases hp27 : namedR X.l (ps X.l n) h i with
     | bad j27 =>
      rw [hp27] at hr27
      obtain ⟨rfl,h27,H27⟩:=hr27
      have E27:=Lib.hid hp27
      have HR : Hid (primR X.l (ps X.l n) h i = .bad j27):=by simp [Hid,primR,E2.out,E3.out,E4.out,E27.out]
      exact ⟨rfl,OutT.of HR (S26.bad hb27 H27)⟩
     | ok t27 j27 =>
      rw [hp27] at hr27
      obtain ⟨ij27,H27,sl27,rfl,hk27⟩:=hr27
      obtain ⟨ao27,n27,c27,rfl⟩:=hk27.slice
      have E27:=Lib.hid hp27
      have S27:=S26.call hb27 H27
      have lt27:=H27.lt
      have Tt27:=Tre.new S26 hk27
      clear hp27 hk27
      have HR : Hid (primR X.l (ps X.l n) h i = .ok t27 j27):=by simp [Hid,primR,E2.out,E3.out,E4.out,E27.out]
      obtain ⟨u0,u1,u2,u3,b0,b1,b2,b3,bf⟩:=S27.box.open
      have bf0:=bf 0
      have bf1:=bf 1
      have bf2:=bf 2
      have bf3:=bf 3
      clear bf
      go_wp2
      obtain ⟨Wf,hWf,hput,_,d0,d1,d2,d3⟩:=putN4 S27.box (.int .i64 t27.kind) (.string ⟨t27.text.toArray⟩) (.int .i64 t27.num) (.slice ao27 n27 c27)
      rw [hWf]
      exact bodyPost_ret (v:=.agg #[.int .i64 t27.kind,.string ⟨t27.text.toArray⟩,.int .i64 t27.num,.slice ao27 n27 c27]) (by simp [results,Tryz.results217,go_sem,d0,d1,d2,d3]) rfl (OutT.of HR (S27.done Tt27 hput (by omega)))
   | true =>
    have E3:=Lib.hid hm3
    have c1_28:=S1.par.c1
    have f1_28:=S1.par.fz 1
    have bn28:=S1.par.bnd
    have nx28 : i + 1 < X.l.length:=kind_end (k:=3) S1.par (by decide) (by simpa using E3.out)
    have S28:=S1.next nx28
    have S29:=S28.alloc (.cells #[.int .i64 (kindA X.l i),.string ⟨(textA X.l i).toArray⟩,.int .i64 (numA X.l i),.int .i64 (atA X.l i)] 56)
    go_wp2_with fail
    refine (node_any 41 (textA X.l i) _ _ _ _).mono ?_
    rintro e w30 ⟨rfl,hb30⟩
    have S30:=S29.below hb30
    have Tt30:=Tre.leaf w w30 41 (textA X.l i) 0 none 0
    have HR : Hid (primR X.l (ps X.l n) h i = .ok (.mk 41 (textA X.l i) 0 []) (i + 1)):=by simp [Hid,primR,E2.out,E3.out]
    obtain ⟨u0,u1,u2,u3,b0,b1,b2,b3,bf⟩:=S30.box.open
    have bf0:=bf 0
    have bf1:=bf 1
    have bf2:=bf 2
    have bf3:=bf 3
    clear bf
    go_wp2
    obtain ⟨Wf,hWf,hput,_,d0,d1,d2,d3⟩:=putN4 S30.box (.int .i64 41) (.string ⟨((textA X.l i)).toArray⟩) (.int .i64 0) (.slice none 0 0)
    rw [hWf]
    exact bodyPost_ret (v:=.agg #[.int .i64 41,.string ⟨((textA X.l i)).toArray⟩,.int .i64 0,.slice none 0 0]) (by simp [results,Tryz.results217,go_sem,d0,d1,d2,d3]) rfl (OutT.of HR (S30.done Tt30 hput (by omega)))
  | true =>
   have E2:=Lib.hid hm2
   have c1_31:=S1.par.c1
   have f1_31:=S1.par.fz 1
   have bn31:=S1.par.bnd
   have nx31 : i + 1 < X.l.length:=kind_end (k:=2) S1.par (by decide) (by simpa using E2.out)
   have S31:=S1.next nx31
   have Tt32:=Tre.leaf w (w1.setCell ⟨X.P,1,none⟩ (.int .i64 ((i : Int) + 1))) 40 [] (numA X.l i) none 0
   have HR : Hid (primR X.l (ps X.l n) h i = .ok (.mk 40 [] (numA X.l i) []) (i + 1)):=by simp [Hid,primR,E2.out]
   obtain ⟨u0,u1,u2,u3,b0,b1,b2,b3,bf⟩:=S1.box.open
   have bf0:=bf 0
   have bf1:=bf 1
   have bf2:=bf 2
   have bf3:=bf 3
   clear bf
   have nlt:=S31.lt
   have nlt2 : w.heap.size < w1.heap.size:=S1.lt
   have nne : w.heap.size ≠ w1.heap.size:=by omega
   have nne2 : w1.heap.size ≠ w.heap.size:=by omega
   go_wp2
   obtain ⟨Wf,hWf,hput,_,d0,d1,d2,d3⟩:=putN4 S31.box (.int .i64 40) (.string ⟨([]).toArray⟩) (.int .i64 (numA X.l i)) (.slice none 0 0)
   rw [hWf]
   have hlz : w.heap.size < Wf.heap.size:=by rw [hput.size]; exact S31.lt
   exact bodyPost_ret (v:=.agg #[.int .i64 40,.string ⟨([]).toArray⟩,.int .i64 (numA X.l i),.slice none 0 0]) (by simp [results,Tryz.results217,go_sem,d0,d1,d2,d3,hlz]) rfl (OutT.of HR (S31.doneA Tt32 hput (by omega) _))
end Go.Proofs.YtffnaknidofobaaGreatDoor
