/- behind, by its cases. -/
import Derived.Test.YtkdojpnihinpbaaGreatDoorMpBJo
namespace Go.Proofs.YtkdojpnihinpbaaGreatDoor
set_option maxRecDepth 100000
set_option maxHeartbeats 1000000
open Go.RowKit
section
variable {B E b:Nat} {X:Nat→Prop} {w:World} {a1 a2 a3 a4 b1 b2 b3 b4:Option Addr} {d1 d2 d3 d4 e1 e2 e3 e4:Nat} {p:Pg} {f:Fd} {s:List Int}
variable (Y:WyAt B w (.slice a1 p.ty.length d1) (.slice a2 p.fu.length d2) (.slice a3 p.ta.length d3) (.slice a4 p.st.length d4) (.slice b1 f.lo.length e1) (.slice b2 f.re.length e2) (.slice b3 f.ar.length e3) (.slice b4 f.co.length e4) p f) (P:PileAt X w E b s) (hX:∀ j,X j→B≤j∧j<w.heap.size) (hs:s.length≤1000000000000)
include Y P hX hs
theorem bh_1 (i:In3) (ho:i.o=1):Calls Tryz.prog 19 #[.agg #[.slice a1 p.ty.length d1,.slice a2 p.fu.length d2,.slice a3 p.ta.length d3,.slice a4 p.st.length d4,.int .i64 f.pa,.slice b1 f.lo.length e1,.slice b2 f.re.length e2,.slice b3 f.ar.length e3,.slice b4 f.co.length e4],.agg #[.int .i64 i.o,.int .i64 i.a,.int .i64 i.b],pp b] w (BhO X E (s++[0]) w):=by
 obtain ⟨W1,hW1,hW,i0,i1,i2,hlW,hlI,HWB,HIB,HB,HY,HP,HX,HXN,HWO,HWI,HW1,HTP,HTK,HSL⟩:=bpre Y i P hX hs
 clear Y P hX hs hW
 rw [ho] at i0 hW1 HIB ⊢
 clear ho
 go_enter Tryz.func19,Tryz.ntmps19
 go_wp2_with fail
 refine (HW1.out W1 b s 0 (Below.refl _ _) (HP.out _ (Below.refl _ _)) (Nat.le_refl _)).mono ?_
 rintro e w9 ⟨b9,rfl,hp9,hb9⟩
 have HB9:=hide (show Below W1.heap.size W1 w9 from bel_tr (Below.refl _ _) hb9)
 have HP9:=hide hp9
 clear hb9 hp9
 go_wp2
 go_ret
 exact ⟨b9,rfl,HP9.out,bel_tr HB.out HB9.out⟩
theorem bh_2 (i:In3) (ho:i.o=2):Calls Tryz.prog 19 #[.agg #[.slice a1 p.ty.length d1,.slice a2 p.fu.length d2,.slice a3 p.ta.length d3,.slice a4 p.st.length d4,.int .i64 f.pa,.slice b1 f.lo.length e1,.slice b2 f.re.length e2,.slice b3 f.ar.length e3,.slice b4 f.co.length e4],.agg #[.int .i64 i.o,.int .i64 i.a,.int .i64 i.b],pp b] w (BhO X E (s++[i.a]) w):=by
 obtain ⟨W1,hW1,hW,i0,i1,i2,hlW,hlI,HWB,HIB,HB,HY,HP,HX,HXN,HWO,HWI,HW1,HTP,HTK,HSL⟩:=bpre Y i P hX hs
 clear Y P hX hs hW
 rw [ho] at i0 hW1 HIB ⊢
 clear ho
 go_enter Tryz.func19,Tryz.ntmps19
 go_wp2_with fail
 refine (HW1.out W1 b s i.a (Below.refl _ _) (HP.out _ (Below.refl _ _)) (Nat.le_refl _)).mono ?_
 rintro e w9 ⟨b9,rfl,hp9,hb9⟩
 have HB9:=hide (show Below W1.heap.size W1 w9 from bel_tr (Below.refl _ _) hb9)
 have HP9:=hide hp9
 clear hb9 hp9
 go_wp2
 go_ret
 exact ⟨b9,rfl,HP9.out,bel_tr HB.out HB9.out⟩
theorem bh_3 (i:In3) (ho:i.o=3) {m:Nat} {o:Int} (ha:i.a=(m:Int)) (hx:f.lo[m]?=some o):Calls Tryz.prog 19 #[.agg #[.slice a1 p.ty.length d1,.slice a2 p.fu.length d2,.slice a3 p.ta.length d3,.slice a4 p.st.length d4,.int .i64 f.pa,.slice b1 f.lo.length e1,.slice b2 f.re.length e2,.slice b3 f.ar.length e3,.slice b4 f.co.length e4],.agg #[.int .i64 i.o,.int .i64 i.a,.int .i64 i.b],pp b] w (BhO X E (s++[o]) w):=by
 obtain ⟨W1,hW1,hW,i0,i1,i2,hlW,hlI,HWB,HIB,HB,HY,HP,HX,HXN,HWO,HWI,HW1,HTP,HTK,HSL⟩:=bpre Y i P hX hs
 obtain ⟨ao,cap,hv,_,hel⟩:=(HY.out W1 (Below.refl _ _)).lo
 cases hv
 obtain ⟨g,q,rfl,hg,hc,_⟩:=ints_at hel hx
 have k5:W1.cell? ⟨w.heap.size,5,none⟩=some (.slice (some ⟨g,q,none⟩) f.lo.length e1):=cell_of hW rfl
 have hgw:g<W1.heap.size:=Nat.lt_of_lt_of_le hg (HY.out W1 (Below.refl _ _)).hB
 have dd:decide (m<f.lo.length)=true:=by simpa using get_lt hx
 have dl:=get_lt hx
 rw [ha] at i1 hW1 HIB ⊢
 clear ha hx hel hg
 clear Y P hX hs hW
 rw [ho] at i0 hW1 HIB ⊢
 clear ho
 go_enter Tryz.func19,Tryz.ntmps19
 go_wp2_with fail
 refine (HW1.out W1 b s o (Below.refl _ _) (HP.out _ (Below.refl _ _)) (Nat.le_refl _)).mono ?_
 rintro e w9 ⟨b9,rfl,hp9,hb9⟩
 have HB9:=hide (show Below W1.heap.size W1 w9 from bel_tr (Below.refl _ _) hb9)
 have HP9:=hide hp9
 clear hb9 hp9
 go_wp2
 go_ret
 exact ⟨b9,rfl,HP9.out,bel_tr HB.out HB9.out⟩
theorem bh_13 (i:In3) (ho:i.o=13) {m t:Nat} (ha:i.a=(m:Int)) (hx:f.ar[m]?=some (t:Int)) (ht:t≤1024):Calls Tryz.prog 19 #[.agg #[.slice a1 p.ty.length d1,.slice a2 p.fu.length d2,.slice a3 p.ta.length d3,.slice a4 p.st.length d4,.int .i64 f.pa,.slice b1 f.lo.length e1,.slice b2 f.re.length e2,.slice b3 f.ar.length e3,.slice b4 f.co.length e4],.agg #[.int .i64 i.o,.int .i64 i.a,.int .i64 i.b],pp b] w (BhO X E (s++[1048578+2*(t:Int)]) w):=by
 obtain ⟨W1,hW1,hW,i0,i1,i2,hlW,hlI,HWB,HIB,HB,HY,HP,HX,HXN,HWO,HWI,HW1,HTP,HTK,HSL⟩:=bpre Y i P hX hs
 obtain ⟨ao,cap,hv,_,hel⟩:=(HY.out W1 (Below.refl _ _)).ar
 cases hv
 obtain ⟨g,q,rfl,hg,hc,_⟩:=ints_at hel hx
 have k7:W1.cell? ⟨w.heap.size,7,none⟩=some (.slice (some ⟨g,q,none⟩) f.ar.length e3):=cell_of hW rfl
 have hgw:g<W1.heap.size:=Nat.lt_of_lt_of_le hg (HY.out W1 (Below.refl _ _)).hB
 have dd:decide (m<f.ar.length)=true:=by simpa using get_lt hx
 have dl:=get_lt hx
 have b8:(t:Int)≤1024:=by omega
 have b9:(0:Int)≤(t:Int):=by omega
 rw [ha] at i1 hW1 HIB ⊢
 clear ha hx hel hg ht
 clear Y P hX hs hW
 rw [ho] at i0 hW1 HIB ⊢
 clear ho
 go_enter Tryz.func19,Tryz.ntmps19
 go_wp2_with fail
 refine (HW1.out W1 b s (1048578+2*(t:Int)) (Below.refl _ _) (HP.out _ (Below.refl _ _)) (Nat.le_refl _)).mono ?_
 rintro e w9 ⟨b9,rfl,hp9,hb9⟩
 have HB9:=hide (show Below W1.heap.size W1 w9 from bel_tr (Below.refl _ _) hb9)
 have HP9:=hide hp9
 clear hb9 hp9
 go_wp2
 go_ret
 exact ⟨b9,rfl,HP9.out,bel_tr HB.out HB9.out⟩
theorem bh_4 (i:In3) (ho:i.o=4) (hlen:1≤s.length):Calls Tryz.prog 19 #[.agg #[.slice a1 p.ty.length d1,.slice a2 p.fu.length d2,.slice a3 p.ta.length d3,.slice a4 p.st.length d4,.int .i64 f.pa,.slice b1 f.lo.length e1,.slice b2 f.re.length e2,.slice b3 f.ar.length e3,.slice b4 f.co.length e4],.agg #[.int .i64 i.o,.int .i64 i.a,.int .i64 i.b],pp b] w (BhO X E (s.take (s.length - 1)) w):=by
 obtain ⟨W1,hW1,hW,i0,i1,i2,hlW,hlI,HWB,HIB,HB,HY,HP,HX,HXN,HWO,HWI,HW1,HTP,HTK,HSL⟩:=bpre Y i P hX hs
 have HPOS:=hide (show 0<s.length by omega)
 have HLEN:=hide hlen
 clear hlen
 clear Y P hX hs hW
 rw [ho] at i0 hW1 HIB ⊢
 clear ho
 go_enter Tryz.func19,Tryz.ntmps19
 go_wp2_with fail
 refine (HWO.out W1 1 (Below.refl _ _) HLEN.out).mono ?_
 rintro e w9 ⟨b9,rfl,hp9,hb9⟩
 have HB9:=hide (show Below W1.heap.size W1 w9 from bel_tr (Below.refl _ _) hb9)
 have HP9:=hide hp9
 clear hb9 hp9
 go_wp2
 go_ret
 exact ⟨b9,rfl,HP9.out,bel_tr HB.out HB9.out⟩
theorem bh_6 (i:In3) (ho:i.o=6) (hlen:1≤s.length):Calls Tryz.prog 19 #[.agg #[.slice a1 p.ty.length d1,.slice a2 p.fu.length d2,.slice a3 p.ta.length d3,.slice a4 p.st.length d4,.int .i64 f.pa,.slice b1 f.lo.length e1,.slice b2 f.re.length e2,.slice b3 f.ar.length e3,.slice b4 f.co.length e4],.agg #[.int .i64 i.o,.int .i64 i.a,.int .i64 i.b],pp b] w (BhO X E (s++[s.getLast?.getD 0]) w):=by
 obtain ⟨W1,hW1,hW,i0,i1,i2,hlW,hlI,HWB,HIB,HB,HY,HP,HX,HXN,HWO,HWI,HW1,HTP,HTK,HSL⟩:=bpre Y i P hX hs
 have HPOS:=hide (show 0<s.length by omega)
 have HLEN:=hide hlen
 clear hlen
 clear Y P hX hs hW
 rw [ho] at i0 hW1 HIB ⊢
 clear ho
 go_enter Tryz.func19,Tryz.ntmps19
 go_wp2_with fail
 refine (HTP.out W1 (Below.refl _ _) HPOS.out).mono ?_
 rintro e w3 ⟨rfl,hb3⟩
 have HB3:=hide (show Below W1.heap.size W1 w3 from bel_tr (Below.refl _ _) hb3)
 clear hb3
 go_wp2_with fail
 refine (HW1.out w3 b s (s.getLast?.getD 0) HB3.out (HP.out _ HB3.out) (Nat.le_refl _)).mono ?_
 rintro e w9 ⟨b9,rfl,hp9,hb9⟩
 have HB9:=hide (show Below W1.heap.size W1 w9 from bel_tr HB3.out hb9)
 have HP9:=hide hp9
 clear hb9 hp9
 go_wp2
 go_ret
 exact ⟨b9,rfl,HP9.out,bel_tr HB.out HB9.out⟩
theorem bh_7 (i:In3) (ho:i.o=7) (hlen:2≤s.length):Calls Tryz.prog 19 #[.agg #[.slice a1 p.ty.length d1,.slice a2 p.fu.length d2,.slice a3 p.ta.length d3,.slice a4 p.st.length d4,.int .i64 f.pa,.slice b1 f.lo.length e1,.slice b2 f.re.length e2,.slice b3 f.ar.length e3,.slice b4 f.co.length e4],.agg #[.int .i64 i.o,.int .i64 i.a,.int .i64 i.b],pp b] w (BhO X E (s.take (s.length - 2)++[0]) w):=by
 obtain ⟨W1,hW1,hW,i0,i1,i2,hlW,hlI,HWB,HIB,HB,HY,HP,HX,HXN,HWO,HWI,HW1,HTP,HTK,HSL⟩:=bpre Y i P hX hs
 have HPOS:=hide (show 0<s.length by omega)
 have HLEN:=hide hlen
 clear hlen
 clear Y P hX hs hW
 rw [ho] at i0 hW1 HIB ⊢
 clear ho
 go_enter Tryz.func19,Tryz.ntmps19
 go_wp2_with fail
 refine (HWO.out W1 2 (Below.refl _ _) HLEN.out).mono ?_
 rintro e w3 ⟨b3,rfl,hp3,hb3⟩
 have HB3:=hide (show Below W1.heap.size W1 w3 from bel_tr (Below.refl _ _) hb3)
 have HP3:=hide hp3
 clear hb3 hp3
 go_wp2_with fail
 refine (HW1.out w3 b3 (s.take (s.length - 2)) 0 HB3.out HP3.out (HTK.out _)).mono ?_
 rintro e w9 ⟨b9,rfl,hp9,hb9⟩
 have HB9:=hide (show Below W1.heap.size W1 w9 from bel_tr HB3.out hb9)
 have HP9:=hide hp9
 clear hb9 hp9
 go_wp2
 go_ret
 exact ⟨b9,rfl,HP9.out,bel_tr HB.out HB9.out⟩
theorem bh_11 (i:In3) (ho:i.o=11) {t:Nat} (hia:i.a=(t:Int)) (ht:t≤1024):Calls Tryz.prog 19 #[.agg #[.slice a1 p.ty.length d1,.slice a2 p.fu.length d2,.slice a3 p.ta.length d3,.slice a4 p.st.length d4,.int .i64 f.pa,.slice b1 f.lo.length e1,.slice b2 f.re.length e2,.slice b3 f.ar.length e3,.slice b4 f.co.length e4],.agg #[.int .i64 i.o,.int .i64 i.a,.int .i64 i.b],pp b] w (BhO X E (s++[2+2*(t:Int)]) w):=by
 obtain ⟨W1,hW1,hW,i0,i1,i2,hlW,hlI,HWB,HIB,HB,HY,HP,HX,HXN,HWO,HWI,HW1,HTP,HTK,HSL⟩:=bpre Y i P hX hs
 have b8:(t:Int)≤1024:=by omega
 have b9:(0:Int)≤(t:Int):=by omega
 rw [hia] at i1 hW1 HIB ⊢
 clear hia ht
 clear Y P hX hs hW
 rw [ho] at i0 hW1 HIB ⊢
 clear ho
 go_enter Tryz.func19,Tryz.ntmps19
 go_wp2_with fail
 refine (HW1.out W1 b s (2+2*(t:Int)) (Below.refl _ _) (HP.out _ (Below.refl _ _)) (Nat.le_refl _)).mono ?_
 rintro e w9 ⟨b9,rfl,hp9,hb9⟩
 have HB9:=hide (show Below W1.heap.size W1 w9 from bel_tr (Below.refl _ _) hb9)
 have HP9:=hide hp9
 clear hb9 hp9
 go_wp2
 go_ret
 exact ⟨b9,rfl,HP9.out,bel_tr HB.out HB9.out⟩
theorem bh_29 (i:In3) (ho:i.o=29) {t:Nat} (hib:i.b=(t:Int)) (ht:t≤1024):Calls Tryz.prog 19 #[.agg #[.slice a1 p.ty.length d1,.slice a2 p.fu.length d2,.slice a3 p.ta.length d3,.slice a4 p.st.length d4,.int .i64 f.pa,.slice b1 f.lo.length e1,.slice b2 f.re.length e2,.slice b3 f.ar.length e3,.slice b4 f.co.length e4],.agg #[.int .i64 i.o,.int .i64 i.a,.int .i64 i.b],pp b] w (BhO X E (s++[3+2*(t:Int)]) w):=by
 obtain ⟨W1,hW1,hW,i0,i1,i2,hlW,hlI,HWB,HIB,HB,HY,HP,HX,HXN,HWO,HWI,HW1,HTP,HTK,HSL⟩:=bpre Y i P hX hs
 have b8:(t:Int)≤1024:=by omega
 have b9:(0:Int)≤(t:Int):=by omega
 rw [hib] at i2 hW1 HIB ⊢
 clear hib ht
 clear Y P hX hs hW
 rw [ho] at i0 hW1 HIB ⊢
 clear ho
 go_enter Tryz.func19,Tryz.ntmps19
 go_wp2_with fail
 refine (HW1.out W1 b s (3+2*(t:Int)) (Below.refl _ _) (HP.out _ (Below.refl _ _)) (Nat.le_refl _)).mono ?_
 rintro e w9 ⟨b9,rfl,hp9,hb9⟩
 have HB9:=hide (show Below W1.heap.size W1 w9 from bel_tr (Below.refl _ _) hb9)
 have HP9:=hide hp9
 clear hb9 hp9
 go_wp2
 go_ret
 exact ⟨b9,rfl,HP9.out,bel_tr HB.out HB9.out⟩
end
end Go.Proofs.YtkdojpnihinpbaaGreatDoor
