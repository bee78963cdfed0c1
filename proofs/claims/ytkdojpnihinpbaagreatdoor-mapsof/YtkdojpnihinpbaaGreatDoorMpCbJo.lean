/- behind, by its cases. -/
import Derived.Test.YtkdojpnihinpbaaGreatDoorMpBJo
namespace Go.Proofs.YtkdojpnihinpbaaGreatDoor
set_option maxRecDepth 100000
set_option maxHeartbeats 1000000
open Go.RowKit
section
variable {B E b:Nat} {X:Nat→Prop} {w:World} {a1 a2 a3 a4 b1 b2 b3 b4:Option Addr} {d1 d2 d3 d4 e1 e2 e3 e4:Nat} {p:Pg} {f:Fd} {s:List Int}
variable (Y:WyAt B w (.slice a1 p.ty.length d1) (.slice a2 p.fu.length d2) (.slice a3 p.ta.length d3) (.slice a4 p.st.length d4) (.slice b1 f.lo.length e1) (.slice b2 f.re.length e2) (.slice b3 f.ar.length e3) (.slice b4 f.co.length e4) p f) (P:PileAt X w E b s) (hX:∀ j,X j→B≤j∧j<w.heap.size) (hs:s.length≤1000000000000)
include Y P hX hs
theorem bh_5 (i:In3) (ho:i.o=5) (hlen:1≤s.length):Calls Tryz.prog 19 #[.agg #[.slice a1 p.ty.length d1,.slice a2 p.fu.length d2,.slice a3 p.ta.length d3,.slice a4 p.st.length d4,.int .i64 f.pa,.slice b1 f.lo.length e1,.slice b2 f.re.length e2,.slice b3 f.ar.length e3,.slice b4 f.co.length e4],.agg #[.int .i64 i.o,.int .i64 i.a,.int .i64 i.b],pp b] w (BhO X E (s.take (s.length - 1)) w):=by
 obtain ⟨W1,hW1,hW,i0,i1,i2,hlW,hlI,HWB,HIB,HB,HY,HP,HX,HXN,HWO,HWI,HW1,HTP,HTK,HSL⟩:=bpre Y i P hX hs
 have HPOS:=hide (show 0<s.length by omega)
 have HLEN:=hide hlen
 clear hlen
 clear Y P hX hs hW
 rw [ho] at i0 hW1 HIB ⊢
 clear ho
 go_enter Tryz.func19,Tryz.ntmps19
 go_wp2_with fail
 refine (HWO.out W1 1 (Below.refl _ _) HLEN.out).mono ?_
 rintro e w9 ⟨b9,rfl,hp9,hb9⟩
 have HB9:=hide (show Below W1.heap.size W1 w9 from bel_tr (Below.refl _ _) hb9)
 have HP9:=hide hp9
 clear hb9 hp9
 go_wp2
 go_ret
 exact ⟨b9,rfl,HP9.out,bel_tr HB.out HB9.out⟩
theorem bh_10 (i:In3) (ho:i.o=10) (hlen:1≤s.length):Calls Tryz.prog 19 #[.agg #[.slice a1 p.ty.length d1,.slice a2 p.fu.length d2,.slice a3 p.ta.length d3,.slice a4 p.st.length d4,.int .i64 f.pa,.slice b1 f.lo.length e1,.slice b2 f.re.length e2,.slice b3 f.ar.length e3,.slice b4 f.co.length e4],.agg #[.int .i64 i.o,.int .i64 i.a,.int .i64 i.b],pp b] w (BhO X E (s.take (s.length - 1)) w):=by
 obtain ⟨W1,hW1,hW,i0,i1,i2,hlW,hlI,HWB,HIB,HB,HY,HP,HX,HXN,HWO,HWI,HW1,HTP,HTK,HSL⟩:=bpre Y i P hX hs
 have HPOS:=hide (show 0<s.length by omega)
 have HLEN:=hide hlen
 clear hlen
 clear Y P hX hs hW
 rw [ho] at i0 hW1 HIB ⊢
 clear ho
 go_enter Tryz.func19,Tryz.ntmps19
 go_wp2_with fail
 refine (HWO.out W1 1 (Below.refl _ _) HLEN.out).mono ?_
 rintro e w9 ⟨b9,rfl,hp9,hb9⟩
 have HB9:=hide (show Below W1.heap.size W1 w9 from bel_tr (Below.refl _ _) hb9)
 have HP9:=hide hp9
 clear hb9 hp9
 go_wp2
 go_ret
 exact ⟨b9,rfl,HP9.out,bel_tr HB.out HB9.out⟩
theorem bh_25 (i:In3) (ho:i.o=25) (hlen:1≤s.length):Calls Tryz.prog 19 #[.agg #[.slice a1 p.ty.length d1,.slice a2 p.fu.length d2,.slice a3 p.ta.length d3,.slice a4 p.st.length d4,.int .i64 f.pa,.slice b1 f.lo.length e1,.slice b2 f.re.length e2,.slice b3 f.ar.length e3,.slice b4 f.co.length e4],.agg #[.int .i64 i.o,.int .i64 i.a,.int .i64 i.b],pp b] w (BhO X E (s.take (s.length - 1)) w):=by
 obtain ⟨W1,hW1,hW,i0,i1,i2,hlW,hlI,HWB,HIB,HB,HY,HP,HX,HXN,HWO,HWI,HW1,HTP,HTK,HSL⟩:=bpre Y i P hX hs
 have HPOS:=hide (show 0<s.length by omega)
 have HLEN:=hide hlen
 clear hlen
 clear Y P hX hs hW
 rw [ho] at i0 hW1 HIB ⊢
 clear ho
 go_enter Tryz.func19,Tryz.ntmps19
 go_wp2_with fail
 refine (HWO.out W1 1 (Below.refl _ _) HLEN.out).mono ?_
 rintro e w9 ⟨b9,rfl,hp9,hb9⟩
 have HB9:=hide (show Below W1.heap.size W1 w9 from bel_tr (Below.refl _ _) hb9)
 have HP9:=hide hp9
 clear hb9 hp9
 go_wp2
 go_ret
 exact ⟨b9,rfl,HP9.out,bel_tr HB.out HB9.out⟩
theorem bh_26 (i:In3) (ho:i.o=26) (hlen:1≤s.length):Calls Tryz.prog 19 #[.agg #[.slice a1 p.ty.length d1,.slice a2 p.fu.length d2,.slice a3 p.ta.length d3,.slice a4 p.st.length d4,.int .i64 f.pa,.slice b1 f.lo.length e1,.slice b2 f.re.length e2,.slice b3 f.ar.length e3,.slice b4 f.co.length e4],.agg #[.int .i64 i.o,.int .i64 i.a,.int .i64 i.b],pp b] w (BhO X E (s.take (s.length - 1)) w):=by
 obtain ⟨W1,hW1,hW,i0,i1,i2,hlW,hlI,HWB,HIB,HB,HY,HP,HX,HXN,HWO,HWI,HW1,HTP,HTK,HSL⟩:=bpre Y i P hX hs
 have HPOS:=hide (show 0<s.length by omega)
 have HLEN:=hide hlen
 clear hlen
 clear Y P hX hs hW
 rw [ho] at i0 hW1 HIB ⊢
 clear ho
 go_enter Tryz.func19,Tryz.ntmps19
 go_wp2_with fail
 refine (HWO.out W1 1 (Below.refl _ _) HLEN.out).mono ?_
 rintro e w9 ⟨b9,rfl,hp9,hb9⟩
 have HB9:=hide (show Below W1.heap.size W1 w9 from bel_tr (Below.refl _ _) hb9)
 have HP9:=hide hp9
 clear hb9 hp9
 go_wp2
 go_ret
 exact ⟨b9,rfl,HP9.out,bel_tr HB.out HB9.out⟩
theorem bh_15 (i:In3) (ho:i.o=15) (hlen:2≤s.length):Calls Tryz.prog 19 #[.agg #[.slice a1 p.ty.length d1,.slice a2 p.fu.length d2,.slice a3 p.ta.length d3,.slice a4 p.st.length d4,.int .i64 f.pa,.slice b1 f.lo.length e1,.slice b2 f.re.length e2,.slice b3 f.ar.length e3,.slice b4 f.co.length e4],.agg #[.int .i64 i.o,.int .i64 i.a,.int .i64 i.b],pp b] w (BhO X E (s.take (s.length - 2)) w):=by
 obtain ⟨W1,hW1,hW,i0,i1,i2,hlW,hlI,HWB,HIB,HB,HY,HP,HX,HXN,HWO,HWI,HW1,HTP,HTK,HSL⟩:=bpre Y i P hX hs
 have HPOS:=hide (show 0<s.length by omega)
 have HLEN:=hide hlen
 clear hlen
 clear Y P hX hs hW
 rw [ho] at i0 hW1 HIB ⊢
 clear ho
 go_enter Tryz.func19,Tryz.ntmps19
 go_wp2_with fail
 refine (HWO.out W1 2 (Below.refl _ _) HLEN.out).mono ?_
 rintro e w9 ⟨b9,rfl,hp9,hb9⟩
 have HB9:=hide (show Below W1.heap.size W1 w9 from bel_tr (Below.refl _ _) hb9)
 have HP9:=hide hp9
 clear hb9 hp9
 go_wp2
 go_ret
 exact ⟨b9,rfl,HP9.out,bel_tr HB.out HB9.out⟩
theorem bh_8 (i:In3) (ho:i.o=8) (hlen:2≤s.length):Calls Tryz.prog 19 #[.agg #[.slice a1 p.ty.length d1,.slice a2 p.fu.length d2,.slice a3 p.ta.length d3,.slice a4 p.st.length d4,.int .i64 f.pa,.slice b1 f.lo.length e1,.slice b2 f.re.length e2,.slice b3 f.ar.length e3,.slice b4 f.co.length e4],.agg #[.int .i64 i.o,.int .i64 i.a,.int .i64 i.b],pp b] w (BhO X E (s.take (s.length - 2)++[0]) w):=by
 obtain ⟨W1,hW1,hW,i0,i1,i2,hlW,hlI,HWB,HIB,HB,HY,HP,HX,HXN,HWO,HWI,HW1,HTP,HTK,HSL⟩:=bpre Y i P hX hs
 have HPOS:=hide (show 0<s.length by omega)
 have HLEN:=hide hlen
 clear hlen
 clear Y P hX hs hW
 rw [ho] at i0 hW1 HIB ⊢
 clear ho
 go_enter Tryz.func19,Tryz.ntmps19
 go_wp2_with fail
 refine (HWO.out W1 2 (Below.refl _ _) HLEN.out).mono ?_
 rintro e w3 ⟨b3,rfl,hp3,hb3⟩
 have HB3:=hide (show Below W1.heap.size W1 w3 from bel_tr (Below.refl _ _) hb3)
 have HP3:=hide hp3
 clear hb3 hp3
 go_wp2_with fail
 refine (HW1.out w3 b3 (s.take (s.length - 2)) 0 HB3.out HP3.out (HTK.out _)).mono ?_
 rintro e w9 ⟨b9,rfl,hp9,hb9⟩
 have HB9:=hide (show Below W1.heap.size W1 w9 from bel_tr HB3.out hb9)
 have HP9:=hide hp9
 clear hb9 hp9
 go_wp2
 go_ret
 exact ⟨b9,rfl,HP9.out,bel_tr HB.out HB9.out⟩
theorem bh_18 (i:In3) (ho:i.o=18) (hlen:1≤s.length):Calls Tryz.prog 19 #[.agg #[.slice a1 p.ty.length d1,.slice a2 p.fu.length d2,.slice a3 p.ta.length d3,.slice a4 p.st.length d4,.int .i64 f.pa,.slice b1 f.lo.length e1,.slice b2 f.re.length e2,.slice b3 f.ar.length e3,.slice b4 f.co.length e4],.agg #[.int .i64 i.o,.int .i64 i.a,.int .i64 i.b],pp b] w (BhO X E (s.take (s.length - 1)++[0]) w):=by
 obtain ⟨W1,hW1,hW,i0,i1,i2,hlW,hlI,HWB,HIB,HB,HY,HP,HX,HXN,HWO,HWI,HW1,HTP,HTK,HSL⟩:=bpre Y i P hX hs
 have HPOS:=hide (show 0<s.length by omega)
 have HLEN:=hide hlen
 clear hlen
 clear Y P hX hs hW
 rw [ho] at i0 hW1 HIB ⊢
 clear ho
 go_enter Tryz.func19,Tryz.ntmps19
 go_wp2_with fail
 refine (HWO.out W1 1 (Below.refl _ _) HLEN.out).mono ?_
 rintro e w3 ⟨b3,rfl,hp3,hb3⟩
 have HB3:=hide (show Below W1.heap.size W1 w3 from bel_tr (Below.refl _ _) hb3)
 have HP3:=hide hp3
 clear hb3 hp3
 go_wp2_with fail
 refine (HW1.out w3 b3 (s.take (s.length - 1)) 0 HB3.out HP3.out (HTK.out _)).mono ?_
 rintro e w9 ⟨b9,rfl,hp9,hb9⟩
 have HB9:=hide (show Below W1.heap.size W1 w9 from bel_tr HB3.out hb9)
 have HP9:=hide hp9
 clear hb9 hp9
 go_wp2
 go_ret
 exact ⟨b9,rfl,HP9.out,bel_tr HB.out HB9.out⟩
theorem bh_20 (i:In3) (ho:i.o=20) (hlen:1≤s.length):Calls Tryz.prog 19 #[.agg #[.slice a1 p.ty.length d1,.slice a2 p.fu.length d2,.slice a3 p.ta.length d3,.slice a4 p.st.length d4,.int .i64 f.pa,.slice b1 f.lo.length e1,.slice b2 f.re.length e2,.slice b3 f.ar.length e3,.slice b4 f.co.length e4],.agg #[.int .i64 i.o,.int .i64 i.a,.int .i64 i.b],pp b] w (BhO X E (s.take (s.length - 1)++[0]) w):=by
 obtain ⟨W1,hW1,hW,i0,i1,i2,hlW,hlI,HWB,HIB,HB,HY,HP,HX,HXN,HWO,HWI,HW1,HTP,HTK,HSL⟩:=bpre Y i P hX hs
 have HPOS:=hide (show 0<s.length by omega)
 have HLEN:=hide hlen
 clear hlen
 clear Y P hX hs hW
 rw [ho] at i0 hW1 HIB ⊢
 clear ho
 go_enter Tryz.func19,Tryz.ntmps19
 go_wp2_with fail
 refine (HWO.out W1 1 (Below.refl _ _) HLEN.out).mono ?_
 rintro e w3 ⟨b3,rfl,hp3,hb3⟩
 have HB3:=hide (show Below W1.heap.size W1 w3 from bel_tr (Below.refl _ _) hb3)
 have HP3:=hide hp3
 clear hb3 hp3
 go_wp2_with fail
 refine (HW1.out w3 b3 (s.take (s.length - 1)) 0 HB3.out HP3.out (HTK.out _)).mono ?_
 rintro e w9 ⟨b9,rfl,hp9,hb9⟩
 have HB9:=hide (show Below W1.heap.size W1 w9 from bel_tr HB3.out hb9)
 have HP9:=hide hp9
 clear hb9 hp9
 go_wp2
 go_ret
 exact ⟨b9,rfl,HP9.out,bel_tr HB.out HB9.out⟩
theorem bh_19 (i:In3) (ho:i.o=19) (hlen:1≤s.length):Calls Tryz.prog 19 #[.agg #[.slice a1 p.ty.length d1,.slice a2 p.fu.length d2,.slice a3 p.ta.length d3,.slice a4 p.st.length d4,.int .i64 f.pa,.slice b1 f.lo.length e1,.slice b2 f.re.length e2,.slice b3 f.ar.length e3,.slice b4 f.co.length e4],.agg #[.int .i64 i.o,.int .i64 i.a,.int .i64 i.b],pp b] w (BhO X E (s.take (s.length - 1)++[1]) w):=by
 obtain ⟨W1,hW1,hW,i0,i1,i2,hlW,hlI,HWB,HIB,HB,HY,HP,HX,HXN,HWO,HWI,HW1,HTP,HTK,HSL⟩:=bpre Y i P hX hs
 have HPOS:=hide (show 0<s.length by omega)
 have HLEN:=hide hlen
 clear hlen
 clear Y P hX hs hW
 rw [ho] at i0 hW1 HIB ⊢
 clear ho
 go_enter Tryz.func19,Tryz.ntmps19
 go_wp2_with fail
 refine (HWO.out W1 1 (Below.refl _ _) HLEN.out).mono ?_
 rintro e w3 ⟨b3,rfl,hp3,hb3⟩
 have HB3:=hide (show Below W1.heap.size W1 w3 from bel_tr (Below.refl _ _) hb3)
 have HP3:=hide hp3
 clear hb3 hp3
 go_wp2_with fail
 refine (HW1.out w3 b3 (s.take (s.length - 1)) 1 HB3.out HP3.out (HTK.out _)).mono ?_
 rintro e w9 ⟨b9,rfl,hp9,hb9⟩
 have HB9:=hide (show Below W1.heap.size W1 w9 from bel_tr HB3.out hb9)
 have HP9:=hide hp9
 clear hb9 hp9
 go_wp2
 go_ret
 exact ⟨b9,rfl,HP9.out,bel_tr HB.out HB9.out⟩
theorem bh_0 (i:In3) (ho:i.o≠1∧i.o≠2∧i.o≠3∧i.o≠4∧i.o≠5∧i.o≠10∧i.o≠25∧i.o≠26∧i.o≠6∧i.o≠7∧i.o≠8∧i.o≠11∧i.o≠12∧i.o≠13∧i.o≠14∧i.o≠15∧i.o≠16∧i.o≠17∧i.o≠18∧i.o≠20∧i.o≠19∧i.o≠21∧i.o≠22∧i.o≠23∧i.o≠29):Calls Tryz.prog 19 #[.agg #[.slice a1 p.ty.length d1,.slice a2 p.fu.length d2,.slice a3 p.ta.length d3,.slice a4 p.st.length d4,.int .i64 f.pa,.slice b1 f.lo.length e1,.slice b2 f.re.length e2,.slice b3 f.ar.length e3,.slice b4 f.co.length e4],.agg #[.int .i64 i.o,.int .i64 i.a,.int .i64 i.b],pp b] w (BhO X E (s) w):=by
 obtain ⟨W1,hW1,hW,i0,i1,i2,hlW,hlI,HWB,HIB,HB,HY,HP,HX,HXN,HWO,HWI,HW1,HTP,HTK,HSL⟩:=bpre Y i P hX hs
 clear Y P hX hs hW
 have q1:(i.o == 1)=false:=by simp;omega
 have q2:(i.o == 2)=false:=by simp;omega
 have q3:(i.o == 3)=false:=by simp;omega
 have q4:(i.o == 4)=false:=by simp;omega
 have q5:(i.o == 5)=false:=by simp;omega
 have q10:(i.o == 10)=false:=by simp;omega
 have q25:(i.o == 25)=false:=by simp;omega
 have q26:(i.o == 26)=false:=by simp;omega
 have q6:(i.o == 6)=false:=by simp;omega
 have q7:(i.o == 7)=false:=by simp;omega
 have q8:(i.o == 8)=false:=by simp;omega
 have q11:(i.o == 11)=false:=by simp;omega
 have q12:(i.o == 12)=false:=by simp;omega
 have q13:(i.o == 13)=false:=by simp;omega
 have q14:(i.o == 14)=false:=by simp;omega
 have q15:(i.o == 15)=false:=by simp;omega
 have q16:(i.o == 16)=false:=by simp;omega
 have q17:(i.o == 17)=false:=by simp;omega
 have q18:(i.o == 18)=false:=by simp;omega
 have q20:(i.o == 20)=false:=by simp;omega
 have q19:(i.o == 19)=false:=by simp;omega
 have q21:(i.o == 21)=false:=by simp;omega
 have q22:(i.o == 22)=false:=by simp;omega
 have q23:(i.o == 23)=false:=by simp;omega
 have q29:(i.o == 29)=false:=by simp;omega
 clear ho
 go_enter Tryz.func19,Tryz.ntmps19
 go_wp2
 go_ret
 exact ⟨b,rfl,HP.out _ (Below.refl _ _),HB.out⟩
end
end Go.Proofs.YtkdojpnihinpbaaGreatDoor
