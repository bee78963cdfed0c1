/- The parser's declarations. -/
import Derived.Test.YtffnaknidofobaaGreatDoorParQJt
namespace Go.Proofs.YtffnaknidofobaaGreatDoor
open Go.RowKit
attribute [local go_sem ↓] Go.wp_at_zero Go.wp_at_succ
set_option maxRecDepth 20000 in
set_option maxHeartbeats 8000000 in
theorem declaration_any (X : Px) (n : Nat) (A : Good X n) (w : World) (i : Nat) (h : Bool) (H : Par X w i h) (hn : 3 * (X.l.length - i) ≤ n) :
    Calls Tryz.prog 61 #[X.p] w (OutT X w i h (declR X.l (ps X.l n) i)):=by
  obtain ⟨W0,hW0,S0⟩:=St.first H
  have lt0:=H.lt
  go_enter Tryz.func61,Tryz.ntmps61
  go_wp2_with fail
  cases hm1 : isM X.l i [116,121,112,101] with
  | false =>
   refine (take_no X W0 i h S0.par [116,121,112,101] hm1).mono ?_
   rintro e w1 ⟨rfl,hb1,H1⟩
   have E1:=Lib.hid hm1
   have S1:=S0.call hb1 H1
   have lt1:=H1.lt
   clear hm1
   go_wp2_with fail
   cases hm2 : isM X.l i [102,117,110,99] with
   | false =>
    have E2:=Lib.hid (needR_no hm2)
    refine (need_no X w1 i h S1.par [102,117,110,99] hm2).mono ?_
    rintro e w2 ⟨rfl,hb2,H2⟩
    have HR : Hid (declR X.l (ps X.l n) i = .bad i):=by simp [Hid,declR,Res.bind,E1.out,E2.out]
    exact ⟨rfl,OutT.of HR (S1.bad hb2 H2)⟩
   | true =>
    have E2:=Lib.hid (needR_yes hm2)
    refine (need_yes X w1 i h S1.par [102,117,110,99] (by decide) hm2).mono ?_
    rintro e w2 ⟨rfl,hb2,H2⟩
    have S2:=S1.call hb2 H2
    have lt2:=H2.lt
    clear hm2
    go_wp2_with fail
    have cI3:=is_any X w2 (i + 1) h S2.par [40]
    cases hm3 : isM X.l (i + 1) [40] with
    | false =>
     rw [hm3] at cI3
     refine cI3.mono ?_
     rintro e w3 ⟨rfl,hb3⟩
     have E3:=Lib.hid hm3
     have S3:=S2.below hb3
     clear hm3 cI3
     go_wp2_with fail
     cases hm4 : (kindA X.l (i + 1) == 1) with
     | false =>
      have E4:=Lib.hid (nameR_no hm4)
      refine (name_no X w3 (i + 1) h S3.par (by simpa using hm4)).mono ?_
      rintro e w4 ⟨rfl,hb4,H4⟩
      have HR : Hid (declR X.l (ps X.l n) i = .bad (i + 1)):=by simp [Hid,declR,Res.bind,E1.out,E2.out,E3.out,E4.out]
      exact ⟨rfl,OutT.of HR (S3.bad hb4 H4)⟩
     | true =>
      have E4:=Lib.hid (nameR_yes hm4)
      refine (name_yes X w3 (i + 1) h S3.par (by simpa using hm4)).mono ?_
      rintro e w4 ⟨rfl,hb4,H4⟩
      have S4:=S3.call hb4 H4
      have lt4:=H4.lt
      clear hm4
      go_wp2_with fail
      refine (signature_any X n A w4 (i + 2) h S4.par (by omega)).mono ?_
      rintro e w5 ⟨hb5,hr5⟩
      cases hp5 : sigR X.l (ps X.l n) (i + 2) with
      | bad j5 =>
       rw [hp5] at hr5
       obtain ⟨rfl,h5,H5⟩:=hr5
       have E5:=Lib.hid hp5
       have HR : Hid (declR X.l (ps X.l n) i = .bad j5):=by simp [Hid,declR,Res.bind,E1.out,E2.out,E3.out,E4.out,E5.out]
       exact ⟨rfl,OutT.of HR (S4.bad hb5 H5)⟩
      | ok t5 j5 =>
       rw [hp5] at hr5
       obtain ⟨ij5,H5,sl5,rfl,hk5⟩:=hr5
       obtain ⟨ao5,n5,c5,rfl⟩:=hk5.slice
       have E5:=Lib.hid hp5
       have S5:=S4.call hb5 H5
       have lt5:=H5.lt
       have Tt5:=Tre.new S4 hk5
       clear hp5 hk5
       go_wp2_with fail
       refine (A.blk w5 j5 h S5.par (by omega)).mono ?_
       rintro e w6 ⟨hb6,hr6⟩
       cases hp6 : (ps X.l n).blk j5 with
       | bad j6 =>
        rw [hp6] at hr6
        obtain ⟨rfl,h6,H6⟩:=hr6
        have E6:=Lib.hid hp6
        have HR : Hid (declR X.l (ps X.l n) i = .bad j6):=by simp [Hid,declR,Res.bind,E1.out,E2.out,E3.out,E4.out,E5.out,E6.out]
        exact ⟨rfl,OutT.of HR (S5.bad hb6 H6)⟩
       | ok t6 j6 =>
        rw [hp6] at hr6
        obtain ⟨ij6,H6,sl6,rfl,hk6⟩:=hr6
        obtain ⟨ao6,n6,c6,rfl⟩:=hk6.slice
        have E6:=Lib.hid hp6
        have S6:=S5.call hb6 H6
        have Tt5_6:=Tt5.call S5 hb6
        have lt6:=H6.lt
        have Tt6:=Tre.new S5 hk6
        clear hp6 hk6
        have Tl7:=Own.made2 S6 Tt5_6 Tt6
        have S7:=S6.alloc (.cells #[.int .i64 t5.kind,.string ⟨t5.text.toArray⟩,.int .i64 t5.num,.slice ao5 n5 c5,.int .i64 t6.kind,.string ⟨t6.text.toArray⟩,.int .i64 t6.num,.slice ao6 n6 c6] 24)
        go_wp2_with fail
        refine (node_any 4 (textA X.l (i + 1)) _ _ _ _).mono ?_
        rintro e w8 ⟨rfl,hb8⟩
        have S8:=S7.below hb8
        have Tl7_8:=Tl7.below hb8
        have Tt8:=Tl7_8.tre 4 (textA X.l (i + 1)) 0
        have HR : Hid (declR X.l (ps X.l n) i = .ok (.mk 4 (textA X.l (i + 1)) 0 [t5,t6]) j6):=by simp [Hid,declR,Res.bind,E1.out,E2.out,E3.out,E4.out,E5.out,E6.out]
        obtain ⟨u0,u1,u2,u3,b0,b1,b2,b3,bf⟩:=S8.box.open
        have bf0:=bf 0
        have bf1:=bf 1
        have bf2:=bf 2
        have bf3:=bf 3
        clear bf
        go_wp2
        obtain ⟨Wf,hWf,hput,_,d0,d1,d2,d3⟩:=putN4 S8.box (.int .i64 4) (.string ⟨((textA X.l (i + 1))).toArray⟩) (.int .i64 0) (.slice (some ⟨w6.heap.size,0,none⟩) 2 2)
        rw [hWf]
        exact bodyPost_ret (v:=.agg #[.int .i64 4,.string ⟨((textA X.l (i + 1))).toArray⟩,.int .i64 0,.slice (some ⟨w6.heap.size,0,none⟩) 2 2]) (by simp [results,Tryz.results61,go_sem,d0,d1,d2,d3]) rfl (OutT.of HR (S8.done Tt8 hput (by omega)))
    | true =>
     rw [hm3] at cI3
     refine cI3.mono ?_
     rintro e w3 ⟨rfl,hb3⟩
     have E3:=Lib.hid hm3
     have S3:=S2.below hb3
     clear hm3 cI3
     go_wp2_with fail
     refine (betweenN_any X w3 (i + 1) h (receiverR X.l) 100 #[X.p] #[] enters_receiver S3.par [40] [41] (by decide) (by decide) (fun _ w1 _ H1 => by rw [Array.append_empty]; exact receiver_any X w1 _ false H1)).mono ?_
     rintro e w9 ⟨hb9,hr9⟩
     cases hp9 : betweenR X.l [40] [41] (receiverR X.l) (i + 1) with
     | bad j9 =>
      rw [hp9] at hr9
      obtain ⟨rfl,h9,H9⟩:=hr9
      have E9:=Lib.hid hp9
      have HR : Hid (declR X.l (ps X.l n) i = .bad j9):=by simp [Hid,declR,Res.bind,E1.out,E2.out,E3.out,E9.out]
      exact ⟨rfl,OutT.of HR (S3.bad hb9 H9)⟩
     | ok t9 j9 =>
      rw [hp9] at hr9
      obtain ⟨ij9,H9,sl9,rfl,hk9⟩:=hr9
      obtain ⟨ao9,n9,c9,rfl⟩:=hk9.slice
      have E9:=Lib.hid hp9
      have S9:=S3.call hb9 H9
      have lt9:=H9.lt
      have Tt9:=Tre.new S3 hk9
      clear hp9 hk9
      have hH:=Held.new S9 Tt9
      have SR:=S9.alloc (.cells #[.int .i64 t9.kind,.string ⟨t9.text.toArray⟩,.int .i64 t9.num,.slice ao9 n9 c9] 24)
      go_wp2_with fail
      generalize (w9.alloc (.cells #[.int .i64 t9.kind,.string ⟨t9.text.toArray⟩,.int .i64 t9.num,.slice ao9 n9 c9] 24)) = WR at *
      obtain ⟨q0,q1,q2,q3,_⟩:=hH.cells
      have mz : w.heap.size < w9.heap.size:=S9.lt
      go_region_with (first
        | (go_at_call 101; rcases Bool.eq_false_or_eq_true (kindA X.l j9 == 1) with hm | hm
           rotate_left
           · (refine (name_no X WR.drew j9 h SR.drew.par (by simpa using hm)).mono ?_; rintro e w5 ⟨rfl,hb5,H5⟩; have E5:=nameR_no hm; have HR : Hid (declR X.l (ps X.l n) i = .bad j9):=(by simp [Hid,declR,Res.bind,E1.out,E2.out,E3.out,E9.out,E5]); exact ⟨rfl,OutT.of HR (SR.drew.bad hb5 H5)⟩)
           refine (name_yes X WR.drew j9 h SR.drew.par (by simpa using hm)).mono ?_
           rintro e w5 ⟨rfl,hb5,H5⟩
           have E5:=Lib.hid (nameR_yes hm)
           have S5:=SR.drew.call hb5 H5
           have T5:=hH.drew.call SR.drew hb5
           have lt5:=H5.lt
           obtain ⟨x0,x1,x2,x3,_⟩:=T5.cells
           clear hm)
        | (go_at_call 102; refine (signature_any X n A w5 (j9 + 1) h S5.par (by omega)).mono ?_; rintro e w6 ⟨hb6,hr6⟩; rcases Res.or (sigR X.l (ps X.l n) (j9 + 1)) with ⟨jb,hp⟩ | ⟨g6,j6,hp⟩
           · (rw [hp] at hr6; obtain ⟨rfl,h6,H6⟩:=hr6; have HR : Hid (declR X.l (ps X.l n) i = .bad jb):=(by simp [Hid,declR,Res.bind,E1.out,E2.out,E3.out,E9.out,E5.out,hp]); exact ⟨rfl,OutT.of HR (S5.bad hb6 H6)⟩)
           rw [hp] at hr6
           obtain ⟨ij6,H6,sl6,rfl,hk6⟩:=hr6
           obtain ⟨ao6,n6,c6,rfl⟩:=hk6.slice
           have E6:=Lib.hid hp
           have S6:=S5.call hb6 H6
           have T6:=T5.call S5 hb6
           have G6:=Tre.new S5 hk6
           have lt6:=H6.lt
           obtain ⟨y0,y1,y2,y3,_⟩:=T6.cells
           clear hp hk6)
        | (go_at_call 103; refine (A.blk w6 j6 h S6.par (by omega)).mono ?_; rintro e w7 ⟨hb7,hr7⟩; rcases Res.or ((ps X.l n).blk j6) with ⟨jb,hp⟩ | ⟨g7,j7,hp⟩
           · (rw [hp] at hr7; obtain ⟨rfl,h7,H7⟩:=hr7; have HR : Hid (declR X.l (ps X.l n) i = .bad jb):=(by simp [Hid,declR,Res.bind,E1.out,E2.out,E3.out,E9.out,E5.out,E6.out,hp]); exact ⟨rfl,OutT.of HR (S6.bad hb7 H7)⟩)
           rw [hp] at hr7
           obtain ⟨ij7,H7,sl7,rfl,hk7⟩:=hr7
           obtain ⟨ao7,n7,c7,rfl⟩:=hk7.slice
           have E7:=Lib.hid hp
           have S7:=S6.call hb7 H7
           have T7:=T6.call S6 hb7
           have G7:=G6.call S6 hb7
           have B7:=Tre.new S6 hk7
           have O7:=Own.made3 S7 T7.out G7 B7
           obtain ⟨z0,z1,z2,z3,_⟩:=T7.cells
           clear hp hk7)
        | (go_at_call 59; refine (node_any _ _ _ _ _ _).mono ?_; rintro e w8 ⟨rfl,hb8⟩
           have S8:=(S7.alloc _).below hb8
           have T8:=(O7.below hb8).tre 5 (textA X.l j9) 0
           obtain ⟨u0,u1,u2,u3,b0,b1,b2,b3,bf⟩:=S8.box.open
           have bf0:=bf 0
           have bf1:=bf 1
           have bf2:=bf 2
           have bf3:=bf 3
           clear bf))
      all_goals
       have HR : Hid (declR X.l (ps X.l n) i = .ok (.mk 5 (textA X.l j9) 0 [t9,g6,g7]) j7):=(by simp [Hid,declR,Res.bind,E1.out,E2.out,E3.out,E9.out,E5.out,E6.out,E7.out])
       go_wp2
       obtain ⟨Wf,hWf,hput,_,d0,d1,d2,d3⟩:=putN4 S8.box (.int .i64 5) (.string ⟨(textA X.l j9).toArray⟩) (.int .i64 0) (.slice (some ⟨w7.heap.size,0,none⟩) 3 3)
       rw [hWf]
       exact bodyPost_ret (v:=.agg #[.int .i64 5,.string ⟨(textA X.l j9).toArray⟩,.int .i64 0,.slice (some ⟨w7.heap.size,0,none⟩) 3 3]) (by simp [results,Tryz.results61,go_sem,d0,d1,d2,d3]) rfl (OutT.of HR (S8.done T8 hput (by omega)))
  | true =>
   refine (take_yes X W0 i h S0.par [116,121,112,101] (by decide) hm1).mono ?_
   rintro e w1 ⟨rfl,hb1,H1⟩
   have E1:=Lib.hid hm1
   have S1:=S0.call hb1 H1
   have lt1:=H1.lt
   clear hm1
   go_wp2_with fail
   refine (typeDeclaration_any X n A w1 (i + 1) h S1.par (by omega)).mono ?_
   rintro e w10 ⟨hb10,hr10⟩
   cases hp10 : typeDeclR X.l (ps X.l n) (i + 1) with
   | bad j10 =>
    rw [hp10] at hr10
    obtain ⟨rfl,h10,H10⟩:=hr10
    have E10:=Lib.hid hp10
    have HR : Hid (declR X.l (ps X.l n) i = .bad j10):=by simp [Hid,declR,E1.out,E10.out]
    exact ⟨rfl,OutT.of HR (S1.bad hb10 H10)⟩
   | ok t10 j10 =>
    rw [hp10] at hr10
    obtain ⟨ij10,H10,sl10,rfl,hk10⟩:=hr10
    obtain ⟨ao10,n10,c10,rfl⟩:=hk10.slice
    have E10:=Lib.hid hp10
    have S10:=S1.call hb10 H10
    have lt10:=H10.lt
    have Tt10:=Tre.new S1 hk10
    clear hp10 hk10
    have HR : Hid (declR X.l (ps X.l n) i = .ok t10 j10):=by simp [Hid,declR,E1.out,E10.out]
    obtain ⟨u0,u1,u2,u3,b0,b1,b2,b3,bf⟩:=S10.box.open
    have bf0:=bf 0
    have bf1:=bf 1
    have bf2:=bf 2
    have bf3:=bf 3
    clear bf
    go_wp2
    obtain ⟨Wf,hWf,hput,_,d0,d1,d2,d3⟩:=putN4 S10.box (.int .i64 t10.kind) (.string ⟨t10.text.toArray⟩) (.int .i64 t10.num) (.slice ao10 n10 c10)
    rw [hWf]
    exact bodyPost_ret (v:=.agg #[.int .i64 t10.kind,.string ⟨t10.text.toArray⟩,.int .i64 t10.num,.slice ao10 n10 c10]) (by simp [results,Tryz.results61,go_sem,d0,d1,d2,d3]) rfl (OutT.of HR (S10.done Tt10 hput (by omega)))
end Go.Proofs.YtffnaknidofobaaGreatDoor

namespace Go.Proofs.YtffnaknidofobaaGreatDoor
open Go.RowKit
/-- What a part leaves that answers a tree, some of which lay in blocks of Z before. -/
def OutS (X : Px) (Z : Nat → Prop) (w : World) (i : Nat) (h : Bool) (r : Res Tr) (e : Ending) (w' : World) : Prop :=
  But X.P w.heap.size w w' ∧ match r with
  | .ok t j => i < j ∧ Par X w' j h ∧ ∃ sl,e = .returned (tv t sl) ∧ KT w' (fun b => Z b ∨ Rg w.heap.size w'.heap.size b) t sl
  | .bad j => e = pan ∧ ∃ h',Par X w' j h'
theorem OutS.of {X : Px} {Z : Nat → Prop} {w : World} {i : Nat} {h : Bool} {r r' : Res Tr} {e : Ending} {w' : World} (hr : Hid (r = r')) (o : OutS X Z w i h r' e w') : OutS X Z w i h r e w':=by
 have:=hr.out; subst this; exact o
set_option maxRecDepth 20000 in
set_option maxHeartbeats 800000 in
theorem withinS_any (X : Px) (Z : Nat → Prop) (w : World) (i : Nat) (h g : Bool) (r : Res Tr) (f : Nat) (bs ls : Array Value) (he : Enters Tryz.prog f) (H : Par X w i h) (hZ : ∀ b,Z b → b < w.heap.size ∧ b ≠ X.P)
    (hI : ∀ w1,But X.P w.heap.size w w1 → Par X w1 i g → Calls Tryz.prog f (bs ++ ls) w1 (OutS X Z w1 i g r)) :
    Calls Tryz.prog 142 #[X.p,.bool g,.func (.func f) bs ls] w (OutS X Z w i h r):=by
  have eg : ∀ args w,(callFunc f args).run Tryz.prog w = .ok (.enter f args) w:=he
  have c2:=H.c2
  have f2:=H.fz 2
  have hpl:=H.plt
  have hb1 : But X.P w.heap.size w ((w.setCell ⟨X.P,2,none⟩ (.bool g)).alloc (.cells #[.int .i64 0,.string ⟨#[]⟩,.int .i64 0,.slice none 0 0] 24)):=((But.refl _ _ _).setCell (p:=⟨X.P,2,none⟩) (.inl rfl) _).alloc (by simp) _
  have H1 : Par X ((w.setCell ⟨X.P,2,none⟩ (.bool g)).alloc (.cells #[.int .i64 0,.string ⟨#[]⟩,.int .i64 0,.slice none 0 0] 24)) i g:=(H.head g).alloc _
  have hx1 : Box ((w.setCell ⟨X.P,2,none⟩ (.bool g)).alloc (.cells #[.int .i64 0,.string ⟨#[]⟩,.int .i64 0,.slice none 0 0] 24)) w.heap.size:=by
   have:=Box.new (w.setCell ⟨X.P,2,none⟩ (.bool g)) (.int .i64 0) (.string ⟨#[]⟩) (.int .i64 0) (.slice none 0 0)
   rw [World.size_setCell] at this; exact this
  have hz1 : ((w.setCell ⟨X.P,2,none⟩ (.bool g)).alloc (.cells #[.int .i64 0,.string ⟨#[]⟩,.int .i64 0,.slice none 0 0] 24)).heap.size = w.heap.size + 1:=by simp
  have htl:=H.tlt
  go_enter Tryz.func142,Tryz.ntmps142
  go_wp2_with fail
  clear c2 f2
  generalize ((w.setCell ⟨X.P,2,none⟩ (.bool g)).alloc (.cells #[.int .i64 0,.string ⟨#[]⟩,.int .i64 0,.slice none 0 0] 24)) = W1 at *
  refine (hI W1 hb1 H1).mono ?_
  rintro e w2 ⟨hb2,hr⟩
  cases r with
  | bad j =>
   obtain ⟨rfl,h',H2⟩:=hr
   exact ⟨rfl,hb1.trans (hb2.mono (by omega)),rfl,h',H2⟩
  | ok t j =>
   obtain ⟨hij,H2,sl,rfl,hk⟩:=hr
   obtain ⟨ao,n,cap,rfl⟩:=hk.slice
   have hz2:=hb2.size
   have f2:=H2.fz 2
   have c2:=H2.c2
   obtain ⟨u0,u1,u2,u3,b0,b1,b2,b3,bf⟩:=(hx1.later hb2 (by omega) (by omega)).open
   have hpl2:=H2.plt
   have bf0:=bf 0
   have bf1:=bf 1
   have bf2:=bf 2
   have bf3:=bf 3
   have nn : w.heap.size ≠ X.P:=by omega
   have nm : w2.heap.size ≠ X.P:=by omega
   have no : w.heap.size ≠ w2.heap.size:=by omega
   have nn' : X.P ≠ w.heap.size:=by omega
   have nm' : X.P ≠ w2.heap.size:=by omega
   have no' : w2.heap.size ≠ w.heap.size:=by omega
   have nl : w.heap.size < w2.heap.size:=by omega
   go_wp2
   have H3:=H2.head h
   have hx3 : Box (w2.setCell ⟨X.P,2,none⟩ (.bool h)) w.heap.size:=(hx1.later hb2 (by omega) (by omega)).of_block (Below.heap_setCell _ _ _ _ nn)
   have hb3 : But X.P w.heap.size w (w2.setCell ⟨X.P,2,none⟩ (.bool h)):=(hb1.trans (hb2.mono (by omega))).setCell (p:=⟨X.P,2,none⟩) (.inl rfl) _
   have hk3 : KT (w2.setCell ⟨X.P,2,none⟩ (.bool h)) (fun b => Z b ∨ Rg W1.heap.size w2.heap.size b) t (.slice ao n cap):=hk.fr (fun b hb => Below.heap_setCell _ _ _ _ (by simp only; rcases hb with hb | hb; exact (hZ b hb).2; omega)) (fun _ hb => hb)
   have hz3 : (w2.setCell ⟨X.P,2,none⟩ (.bool h)).heap.size = w2.heap.size:=by simp
   generalize w2.setCell ⟨X.P,2,none⟩ (.bool h) = w3 at *
   obtain ⟨Wf,hWf,hput,hbx,d0,d1,d2,d3⟩:=putN4 hx3 (.int .i64 t.kind) (.string ⟨t.text.toArray⟩) (.int .i64 t.num) (.slice ao n cap)
   rw [hWf]
   have hzf:=hput.size
   have hl : w.heap.size < Wf.heap.size:=by omega
   exact bodyPost_ret (v:=tv t (.slice ao n cap)) (by simp [results,Tryz.results142,go_sem,d0,d1,d2,d3,hl]) rfl
     ⟨(hb3.put hput (.inr (Nat.le_refl _))).alloc (by omega) _,hij,(H3.put hput nn (by omega)).alloc _,_,rfl,
       hk3.fr (((Fr.refl _ _).put hput (fun b hb => by rcases hb with hb | hb; have:=(hZ b hb).1; omega; omega)).alloc (fun b hb => by rcases hb with hb | hb; have:=(hZ b hb).1; omega; omega) _) (fun b hb => hb.imp id (fun hb => ⟨by omega,by simp; omega⟩))⟩
set_option maxRecDepth 20000 in
set_option maxHeartbeats 800000 in
theorem betweenS_any (X : Px) (Z : Nat → Prop) (w : World) (i : Nat) (h : Bool) (pr : Nat → Res Tr) (f : Nat) (bs ls : Array Value) (he : Enters Tryz.prog f) (H : Par X w i h) (hZ : ∀ b,Z b → b < w.heap.size ∧ b ≠ X.P) (o s : List UInt8) (ho : o ≠ []) (hs : s ≠ [])
    (hI : isM X.l i o = true → ∀ w1,But X.P w.heap.size w w1 → Par X w1 (i + 1) false → Calls Tryz.prog f (bs ++ ls) w1 (OutS X Z w1 (i + 1) false (pr (i + 1)))) :
    Calls Tryz.prog 99 #[X.p,.string ⟨o.toArray⟩,.string ⟨s.toArray⟩,.func (.func f) bs ls] w (OutS X Z w i h (betweenR X.l o s pr i)):=by
  obtain ⟨W,hW,HW,hbW,hzW,hxW⟩:=first_box H
  have hpl:=H.plt
  have htl:=H.tlt
  cases hm : isM X.l i o with
  | false =>
   have HR : Hid (betweenR X.l o s pr i = .bad i):=by simp [Hid,betweenR,needR,hm,Res.bind]
   have cN:=need_no X W i h HW o hm
   clear hm hI
   go_enter Tryz.func99,Tryz.ntmps99
   go_wp2_with fail
   refine cN.mono ?_
   rintro e w1 ⟨rfl,hb1,H1⟩
   exact ⟨rfl,OutS.of HR ⟨hbW.trans (hb1.mono (by omega)),rfl,h,H1⟩⟩
  | true =>
   have cN:=need_yes X W i h HW o ho hm
   have HI:=hI hm
   have HR : Hid (betweenR X.l o s pr i = (pr (i + 1)).bind fun a i => (needR X.l s i).bind fun _ i => .ok a i):=by simp [Hid,betweenR,needR,hm,Res.bind]
   clear hm hI
   go_enter Tryz.func99,Tryz.ntmps99
   go_wp2_with fail
   refine cN.mono ?_
   rintro e w1 ⟨rfl,hb1,H1⟩
   have hz1:=hb1.size
   have hB1 : But X.P w.heap.size w w1:=hbW.trans (hb1.mono (by omega))
   have hx1:=hxW.later hb1 (by omega) (by omega)
   clear cN
   go_wp2_with fail
   refine (withinS_any X Z w1 (i + 1) h false (pr (i + 1)) f bs ls he H1 (fun b hb => ⟨by have:=(hZ b hb).1; omega,(hZ b hb).2⟩) (fun w2 hb2 H2 => HI w2 (hB1.trans (hb2.mono (by omega))) H2)).mono ?_
   rintro e w2 ⟨hb2,hr⟩
   have hz2:=hb2.size
   have hB2 : But X.P w.heap.size w w2:=hB1.trans (hb2.mono (by omega))
   have hx2:=hx1.later hb2 (by omega) (by omega)
   clear HI
   generalize pr (i + 1) = r at *
   cases r with
   | bad j =>
    obtain ⟨rfl,h',H2⟩:=hr
    exact ⟨rfl,OutS.of HR ⟨hB2,rfl,h',H2⟩⟩
   | ok t j =>
    obtain ⟨hij,H2,sl,rfl,hk⟩:=hr
    obtain ⟨ao,n,cap,rfl⟩:=hk.slice
    have H3 : Par X (w2.alloc (.cells #[.int .i64 t.kind,.string ⟨t.text.toArray⟩,.int .i64 t.num,.slice ao n cap] 24)) j h:=H2.alloc _
    cases hm : isM X.l j s with
    | false =>
     have HR2 : Hid (betweenR X.l o s pr i = .bad j):=HR.out.trans (by simp [Res.bind,needR,hm])
     have cN:=need_no X _ j h H3 s hm
     clear hm HR
     go_wp2_with fail
     refine cN.mono ?_
     rintro e w3 ⟨rfl,hb3,H4⟩
     exact ⟨rfl,OutS.of HR2 ⟨(hB2.alloc (by omega) _).trans (hb3.mono (by simp; omega)),rfl,h,H4⟩⟩
    | true =>
     have HR2 : Hid (betweenR X.l o s pr i = .ok t (j + 1)):=HR.out.trans (by simp [Res.bind,needR,hm])
     have cN:=need_yes X _ j h H3 s hs hm
     clear hm HR
     go_wp2_with fail
     refine cN.mono ?_
     rintro e w3 ⟨rfl,hb3,H4⟩
     have hz3:=hb3.size
     rw [World.size_alloc] at hz3
     obtain ⟨q0,q1,q2,q3⟩:=held4 hb3 H2.plt
     have hx3 : Box w3 w.heap.size:=(hx2.of_block (Below.heap_alloc w2 _ _ hx2.lt)).later hb3 (by simp; omega) (by omega)
     have hB3 : But X.P w.heap.size w w3:=(hB2.alloc (by omega) _).trans (hb3.mono (by simp; omega))
     have hk3 : KT w3 (fun b => Z b ∨ Rg w1.heap.size w2.heap.size b) t (.slice ao n cap):=hk.fr (((Fr.refl _ _).alloc (fun b hb => by rcases hb with hb | hb; have:=(hZ b hb).1; omega; omega) _).but hb3 (fun b hb => by rw [World.size_alloc]; rcases hb with hb | hb; have:=hZ b hb; exact ⟨by omega,this.2⟩; exact ⟨by omega,by omega⟩)) (fun _ hb => hb)
     clear cN hb3 H3 hx2 hB2
     obtain ⟨u0,u1,u2,u3,b0,b1,b2,b3,bf⟩:=hx3.open
     have bf0:=bf 0
     have bf1:=bf 1
     have bf2:=bf 2
     have bf3:=bf 3
     clear bf
     go_wp2
     obtain ⟨Wf,hWf,hput,hbx,d0,d1,d2,d3⟩:=putN4 hx3 (.int .i64 t.kind) (.string ⟨t.text.toArray⟩) (.int .i64 t.num) (.slice ao n cap)
     rw [hWf]
     have hzf:=hput.size
     exact bodyPost_ret (v:=tv t (.slice ao n cap)) (by simp [results,Tryz.results99,go_sem,d0,d1,d2,d3]) rfl
       (OutS.of HR2 ⟨hB3.put hput (.inr (Nat.le_refl _)),by omega,H4.put hput (by omega) (by omega),_,rfl,
         hk3.fr ((Fr.refl _ _).put hput (fun b hb => by rcases hb with hb | hb; have:=(hZ b hb).1; omega; omega)) (fun b hb => hb.imp id (fun hb => ⟨by omega,by omega⟩))⟩)
/-- An own list that keeps to blocks of R. -/
def OwnG (R : Nat → Prop) (w : World) (B : Nat) (v : Value) (ts : List Tr) : Prop :=
  ∃ sls,w.ownsRow B 24 4 v ts.length (cellsOf ts sls) ∧ KL w (fun b => (R b ∧ b < w.heap.size) ∧ some b ≠ v.ownBlock) ts sls ∧ ∀ k,v.ownBlock = some k → R k
theorem OwnG.later {R : Nat → Prop} {w w' : World} {B : Nat} {v : Value} {ts : List Tr} (h : OwnG R w B v ts) (hz : w.heap.size ≤ w'.heap.size) (hw : ∀ b,R b → b < w.heap.size → w'.heap[b]? = w.heap[b]?) : OwnG R w' B v ts:=by
 obtain ⟨sls,h1,h2,h3⟩:=h
 refine ⟨sls,?_,h2.fr (fun b hb => hw b hb.1.1 hb.1.2) (fun b hb => ⟨⟨hb.1.1,by omega⟩,hb.2⟩),h3⟩
 refine ⟨h1.1,?_⟩
 rcases h1.2 with hn | ⟨g,cap,cur,rfl,hb,hg,rest⟩
 · exact .inl hn
 · exact .inr ⟨g,cap,cur,rfl,hb,(hw g (h3 g rfl) (lt_of_block hg)).trans hg,rest⟩
theorem OwnG.slice {R : Nat → Prop} {w : World} {B : Nat} {v : Value} {ts : List Tr} (h : OwnG R w B v ts) : ∃ ao cap,v = .slice ao ts.length cap:=by
 obtain ⟨sls,h1,_⟩:=h
 rcases h1.2 with ⟨rfl,e⟩ | ⟨g,cap,cur,rfl,_⟩
 · exact ⟨none,0,by rw [e]⟩
 · exact ⟨_,cap,rfl⟩
theorem OwnG.lt {R : Nat → Prop} {w : World} {B : Nat} {v : Value} {ts : List Tr} (h : OwnG R w B v ts) : ∀ k,v.ownBlock = some k → B ≤ k ∧ k < w.heap.size:=by
 obtain ⟨sls,h1,_⟩:=h
 exact h1.lt
theorem OwnG.kt {R : Nat → Prop} {w : World} {B : Nat} {v : Value} {ts : List Tr} (h : OwnG R w B v ts) (k : Int) (s : List UInt8) (n : Int) : KT w (fun b => R b ∧ b < w.heap.size) (.mk k s n ts) v:=by
 obtain ⟨sls,h1,h2,h3⟩:=h
 simp only [KT]
 refine ⟨sls,?_,h2.fr (Fr.refl _ _) (fun b hb => hb.1)⟩
 rcases h1.2 with ⟨rfl,e⟩ | ⟨g,cap,cur,rfl,hb,hg,hcap,_,hsz,htk⟩
 · exact .inl ⟨e,none,0,rfl⟩
 · refine .inr ⟨g,0,cap,rfl,hcap,⟨h3 g rfl,lt_of_block hg⟩,fun j u hj => ?_⟩
   rw [← htk] at hj
   have hj' : cur[j]? = some u:=by
    rw [List.getElem?_take] at hj
    split at hj
    · simpa using hj
    · cases hj
   simp [World.cell?,hg,hj']
/-- A slice that is built of trees in blocks of R. -/
theorem OwnG.made {R : Nat → Prop} {w : World} {B : Nat} {ts : List Tr} {sls : List Value} {c : Array Value} (hB : B ≤ w.heap.size) (hk : KL w (fun b => R b ∧ b < w.heap.size) ts sls) (hR : R w.heap.size) (hc : c = (cellsOf ts sls).toArray) (hn : ts.length ≤ 1000000) :
    OwnG R (w.alloc (.cells c 24)) B (.slice (some ⟨w.heap.size,0,none⟩) ts.length ts.length) ts:=by
  subst hc
  have hl:=cellsOf_length hk.length
  refine ⟨sls,⟨hl,.inr ⟨w.heap.size,ts.length,_,rfl,hB,heap_alloc_new w _,Nat.le_refl _,by unfold maxLen; omega,by simpa using hl,?_⟩⟩,?_,fun k hk' => by cases hk'; exact hR⟩
  · rw [List.take_of_length_le (by simp [hl])]
  · exact hk.fr (fun b hb => Below.heap_alloc w _ b hb.2) (fun b hb => ⟨⟨hb.1,by simp; omega⟩,by simp [Value.ownBlock]; omega⟩)
theorem run_joinG {W : World} {B C : Nat} {v1 v2 : Value} {ts us : List Tr} {R : Nat → Prop} (ty : TypeId) (h1 : OwnG R W B v1 ts) (h2 : OwnG (fun b => R b ∧ some b ≠ v1.ownBlock) W C v2 us) (hR : R W.heap.size) (hB : B ≤ W.heap.size) (hlen : ts.length + us.length ≤ 1000000) :
    ∃ ao cap w',(Builtin.append_ #[22,22] ty #[v1,v2]).run Tryz.prog W = .ok (.slice ao (ts.length + us.length) cap) w' ∧ OwnG R w' B (.slice ao (ts.length + us.length) cap) (ts ++ us) ∧ W.grownBy w' v1.ownBlock:=by
  obtain ⟨sls,o1,k1,g1⟩:=h1
  obtain ⟨sls2,o2,k2,g2⟩:=h2
  obtain ⟨i0,hi,hz0,hz1,hz2⟩:=info_parts Tryz.info24
  have key : ∃ v' w',(Builtin.append_ #[22,22] ty #[v1,v2]).run Tryz.prog W = .ok v' w' ∧ w'.ownsRow B 24 4 v' (ts.length + us.length) (cellsOf ts sls ++ cellsOf us sls2) ∧ W.grownBy w' v1.ownBlock ∧ (v'.ownBlock = v1.ownBlock ∨ v'.ownBlock = some W.heap.size):=by
   rcases o2.2 with ⟨rfl,e0⟩ | ⟨g,cap,cur,rfl,hb,hg,hcap,_,hsz,htk⟩
   · have hu : us = []:=List.eq_nil_of_length_eq_zero e0
     subst hu
     refine ⟨v1,W,run_append_owned_none W B 22 ty 24 i0 4 Tryz.underlying22 hi v1 _ _ o1,?_,⟨rfl,rfl,rfl,Nat.le_refl _,fun _ _ _ => rfl⟩,.inl rfl⟩
     cases sls2 with
     | nil => simpa [cellsOf] using o1
     | cons a b => simpa [cellsOf] using o1
   · have hnews : ∀ j u,(cellsOf us sls2)[j]? = some u → W.cell? ((⟨g,0,none⟩ : Addr).add j) = some u:=by
      intro j u hj
      rw [← htk] at hj
      have hj' : cur[j]? = some u:=by
       rw [List.getElem?_take] at hj
       split at hj
       · simpa using hj
       · cases hj
      have ha : (⟨g,0,none⟩ : Addr).add j = ⟨g,j,none⟩:=by cases j <;> simp [Addr.add]
      rw [ha]; simp [World.cell?,hg,hj']
     obtain ⟨v',w',hr,ho,hgr,_,hat⟩:=run_append_own_at (P:=Tryz.prog) W B 22 ty 24 i0 _ 4 56 Tryz.underlying22 hi hz0 hz1 hz2 rfl (by decide) v1 _ _ o1 ⟨g,0,none⟩ us.length cap (cellsOf us sls2) (cellsOf_length k2.length) hnews (cellsOf_one k2.one) (by unfold maxLen; omega) (by omega) hB
     exact ⟨v',w',hr,ho,hgr,hat⟩
  obtain ⟨v',w',hr,ho,hgr,hat⟩:=key
  have hz:=hgr.size
  have hO : OwnG R w' B v' (ts ++ us):=by
   refine ⟨sls ++ sls2,?_,KL.append (k1.fr (fun b hb => hgr.block b hb.1.2 hb.2) (fun b hb => ⟨⟨hb.1.1,by omega⟩,?_⟩)) (k2.fr (fun b hb => hgr.block b hb.1.2 hb.1.1.2) (fun b hb => ⟨⟨hb.1.1.1,by omega⟩,?_⟩)),?_⟩
   · rw [cellsOf_append k1.length,List.length_append]; exact ho
   · rcases hat with e | e
     · rw [e]; exact hb.2
     · rw [e]; intro e2; cases e2; omega
   · rcases hat with e | e
     · rw [e]; exact hb.1.1.2
     · rw [e]; intro e2; cases e2; omega
   · intro k hk
     rcases hat with e | e
     · exact g1 k (e ▸ hk)
     · rw [e] at hk; cases hk; exact hR
  obtain ⟨ao,cap,e⟩:=hO.slice
  rw [List.length_append] at e
  rw [e] at hr hO
  exact ⟨ao,cap,w',hr,hO,hgr⟩
theorem wpList_joinG {W : World} {ops : Array Oper} {rest : List Oper} {o : Oper} {a : Act} {Q : Exit → Act → World → Prop} {R : Nat → Prop} (hgd : o.guard = none) (s x : Operand)
    (ho : o.op = .call { callee:=.builtin .append,args:=#[s,x],argTypes:=#[22,22] }) {B C : Nat} {v1 v2 : Value} {ts us : List Tr} (hs : a.eval s = v1) (hx : a.eval x = v2)
    (h1 : OwnG R W B v1 ts) (h2 : OwnG (fun b => R b ∧ some b ≠ v1.ownBlock) W C v2 us) (hR : R W.heap.size) (hB : B ≤ W.heap.size) (hlen : ts.length + us.length ≤ 1000000)
    (h : ∀ ao cap w',OwnG R w' B (.slice ao (ts.length + us.length) cap) (ts ++ us) → W.grownBy w' v1.ownBlock → wpList Tryz.prog ops Q rest (a.put o.dst (.slice ao (ts.length + us.length) cap)) w') : wpList Tryz.prog ops Q (o :: rest) a W:=by
  refine wpList_plain hgd fun _ hK => ?_
  obtain ⟨ao,cap,w',hr,hO,hg⟩:=run_joinG o.type h1 h2 hR hB hlen
  unfold Oper.wp execOp
  simp only [ho,resolve,invoke,builtin,Sem.run_bind,Sem.run_pure,Result.andThen_ok,List.map_toArray,List.map_cons,List.map_nil,hs,hx,hr]
  exact hK _ _ (h ao cap w' hO hg)
theorem step_joinG {W : World} {ops : Array Oper} {o : Oper} {a : Act} {K : Act → World → Prop} {Q : Exit → Act → World → Prop} {E : Prop} {R : Nat → Prop} (hgd : o.guard = none) (s x : Operand)
    (ho : o.op = .call { callee:=.builtin .append,args:=#[s,x],argTypes:=#[22,22] }) {B C : Nat} {v1 v2 : Value} {ts us : List Tr} (hs : a.eval s = v1) (hx : a.eval x = v2)
    (h1 : OwnG R W B v1 ts) (h2 : OwnG (fun b => R b ∧ some b ≠ v1.ownBlock) W C v2 us) (hR : R W.heap.size) (hB : B ≤ W.heap.size) (hlen : ts.length + us.length ≤ 1000000)
    (h : ∀ ao cap w',OwnG R w' B (.slice ao (ts.length + us.length) cap) (ts ++ us) → W.grownBy w' v1.ownBlock → K (a.put o.dst (.slice ao (ts.length + us.length) cap)) w') :
    if Region.wanted o (yielded ops a.tmps) = true then Oper.wp Tryz.prog o a W K Q else E:=by
  have hw : Region.wanted o (yielded ops a.tmps) = true:=by simp [Region.wanted,hgd]
  rw [if_pos hw]
  obtain ⟨ao,cap,w',hr,hO,hg⟩:=run_joinG o.type h1 h2 hR hB hlen
  unfold Oper.wp execOp
  simp only [ho,resolve,invoke,builtin,Sem.run_bind,Sem.run_pure,Result.andThen_ok,List.map_toArray,List.map_cons,List.map_nil,hs,hx,hr]
  exact h ao cap w' hO hg
end Go.Proofs.YtffnaknidofobaaGreatDoor
