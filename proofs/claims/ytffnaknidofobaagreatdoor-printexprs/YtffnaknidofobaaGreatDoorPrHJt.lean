/- The printer: signatures, types, blocks. -/
import Derived.Test.YtffnaknidofobaaGreatDoorPrEJt
namespace Go.Proofs.YtffnaknidofobaaGreatDoor
open Go.RowKit
set_option maxRecDepth 20000 in
set_option maxHeartbeats 400000 in
theorem signature_w {t : Tr} {prP prT : Tr → List Wd} {k : Nat} (hnum : t.num = k) (hkl : k ≤ t.kids.length) (hn : t.kids.length ≤ 20000) (hP : ∀ a ∈ t.kids.take k,Wr 66 a (prP a)) (hQ : ∀ a ∈ t.kids.drop k,Wr 47 a (prT a)) {tk : List Wd} (hT : tk = listedT [40] [41] prP (t.kids.take k) ++ (if 1 < (t.kids.drop k).length then listedT [40] [41] prT (t.kids.drop k) else (t.kids.drop k).flatMap prT)) : Wr 48 t tk:=fun B b s w sl hG h hB hk => by
 obtain ⟨ao,c,rfl⟩ : ∃ ao c,sl = .slice ao t.kids.length c:=(Lst.kids hk).slice
 have HT:=Lib.hid hT
 clear hT
 have H_hnum:=Lib.hid hnum
 clear hnum
 have H_hP:=Lib.hid hP
 clear hP
 have H_hQ:=Lib.hid hQ
 clear hQ
 have S0:=Lib.hid (Sw.start hG h hB hk)
 have HL:=Lib.hid (Lst.kids hk)
 obtain ⟨W0,hW⟩ : ∃ W,w.alloc (nbx t (.slice ao t.kids.length c)) = W:=⟨_,rfl⟩
 rw [hW] at S0
 have hW' : w.alloc (.cells #[.int .i64 t.kind,.string ⟨t.text.toArray⟩,.int .i64 t.num,.slice ao t.kids.length c] 24) = W0:=hW
 clear hW h hG hk
 generalize hm : w.heap.size = m at *
 have y0:=S0.out.c0
 have y1:=S0.out.c1
 have y2:=S0.out.c2
 have y3:=S0.out.c3
 have hle:=S0.out.le
 have hbl:=S0.out.bl
 have hml:=S0.out.ml
 go_enter Tryz.func48,Tryz.ntmps48
 have cc:=function_w enP_parameter H_hnum.out hkl hn H_hP.out H_hQ.out rfl B b _ _ _ S0.out.gw S0.out.pn S0.out.le S0.out.kt
 go_wp2_with fail
 refine cc.mono ?_
 rintro e w1 ⟨rfl,hp,hf⟩
 have S1:=Lib.hid (S0.out.step hp hf)
 clear cc hp hf y0 y1 y2 y3 hle hbl hml
 have y0:=S1.out.c0
 have y1:=S1.out.c1
 have y2:=S1.out.c2
 have y3:=S1.out.c3
 have hle:=S1.out.le
 have hbl:=S1.out.bl
 have hml:=S1.out.ml
 go_wp2
 go_end0
 exact ⟨rfl,by rw [HT.out]; exact S1.out.pn,S1.out.fp⟩
set_option maxRecDepth 20000 in
set_option maxHeartbeats 400000 in
theorem typ_w10 {t : Tr} (hkd : t.kind = 10) (htx : t.text.length ≤ 1000000) {tk : List Wd} (hT : tk = [t.text]) : Wr 47 t tk:=fun B b s w sl hG h hB hk => by
 obtain ⟨ao,c,rfl⟩ : ∃ ao c,sl = .slice ao t.kids.length c:=(Lst.kids hk).slice
 have HT:=Lib.hid hT
 clear hT
 have H_hkd:=Lib.hid hkd
 clear hkd
 have S0:=Lib.hid (Sw.start hG h hB hk)
 have HL:=Lib.hid (Lst.kids hk)
 obtain ⟨W0,hW⟩ : ∃ W,w.alloc (nbx t (.slice ao t.kids.length c)) = W:=⟨_,rfl⟩
 rw [hW] at S0
 have hW' : w.alloc (.cells #[.int .i64 t.kind,.string ⟨t.text.toArray⟩,.int .i64 t.num,.slice ao t.kids.length c] 24) = W0:=hW
 clear hW h hG hk
 generalize hm : w.heap.size = m at *
 have y0:=S0.out.c0
 have y1:=S0.out.c1
 have y2:=S0.out.c2
 have y3:=S0.out.c3
 rw [H_hkd.out] at y0
 have hle:=S0.out.le
 have hbl:=S0.out.bl
 have hml:=S0.out.ml
 go_enter Tryz.func47,Tryz.ntmps47
 have cc:=putAt S0.out.pn S0.out.le [t.text] (by simp) (len1 htx) #[.string ⟨t.text.toArray⟩] rfl
 go_wp2_with fail
 refine cc.mono ?_
 rintro e w1 ⟨rfl,hp,hf⟩
 have S1:=Lib.hid (S0.out.step hp hf)
 clear cc hp hf y0 y1 y2 y3 hle hbl hml
 have y0:=S1.out.c0
 have y1:=S1.out.c1
 have y2:=S1.out.c2
 have y3:=S1.out.c3
 rw [H_hkd.out] at y0
 have hle:=S1.out.le
 have hbl:=S1.out.bl
 have hml:=S1.out.ml
 go_wp2
 go_end0
 exact ⟨rfl,by rw [HT.out]; exact S1.out.pn,S1.out.fp⟩
set_option maxRecDepth 20000 in
set_option maxHeartbeats 400000 in
theorem typ_w11 {t : Tr} {a : Tr} {tk0 : List Wd} (hkd : t.kind = 11) (ha : t.kids[0]? = some a) (hI : Wr 47 a tk0) {tk : List Wd} (hT : tk = [[42]] ++ tk0) : Wr 47 t tk:=fun B b s w sl hG h hB hk => by
 obtain ⟨ao,c,rfl⟩ : ∃ ao c,sl = .slice ao t.kids.length c:=(Lst.kids hk).slice
 have HT:=Lib.hid hT
 clear hT
 have H_hkd:=Lib.hid hkd
 clear hkd
 have H_hI:=Lib.hid hI
 clear hI
 have S0:=Lib.hid (Sw.start hG h hB hk)
 obtain ⟨g,o,rfl,hn0,hcc⟩:=S0.out.addr 0 ha
 clear hn0
 have HL:=Lib.hid (Lst.kids hk)
 obtain ⟨W0,hW⟩ : ∃ W,w.alloc (nbx t (.slice (some ⟨g,o,none⟩) t.kids.length c)) = W:=⟨_,rfl⟩
 rw [hW] at S0
 have hW' : w.alloc (.cells #[.int .i64 t.kind,.string ⟨t.text.toArray⟩,.int .i64 t.num,.slice (some ⟨g,o,none⟩) t.kids.length c] 24) = W0:=hW
 clear hW h hG hk
 generalize hm : w.heap.size = m at *
 have y0:=S0.out.c0
 have y1:=S0.out.c1
 have y2:=S0.out.c2
 have y3:=S0.out.c3
 rw [H_hkd.out] at y0
 have hle:=S0.out.le
 have hbl:=S0.out.bl
 have hml:=S0.out.ml
 go_enter Tryz.func47,Tryz.ntmps47
 have cc:=putAt S0.out.pn S0.out.le [[42]] (by simp) (len1 (by decide)) #[.string ⟨#[42]⟩] rfl
 go_wp2_with fail
 refine cc.mono ?_
 rintro e w1 ⟨rfl,hp,hf⟩
 have S1:=Lib.hid (S0.out.step hp hf)
 clear cc hp hf y0 y1 y2 y3 hle hbl hml
 have y0:=S1.out.c0
 have y1:=S1.out.c1
 have y2:=S1.out.c2
 have y3:=S1.out.c3
 rw [H_hkd.out] at y0
 have hle:=S1.out.le
 have hbl:=S1.out.bl
 have hml:=S1.out.ml
 obtain ⟨a0,n0,q0,z0,z1,z2,z3,hgl,hka⟩:=S1.out.kid 0 ha
 have hil : 0 < t.kids.length:=(List.getElem?_eq_some_iff.1 ha).1
 replace z0 : w1.cell? ⟨g,o,none⟩ = _:=z0
 replace z1 : w1.cell? ⟨g,o + 1,none⟩ = _:=z1
 replace z2 : w1.cell? ⟨g,o + 2,none⟩ = _:=z2
 replace z3 : w1.cell? ⟨g,o + 3,none⟩ = _:=z3
 have cc:=H_hI.out B b _ _ _ S1.out.gw S1.out.pn S1.out.le hka
 go_wp2_with fail
 refine cc.mono ?_
 rintro e w2 ⟨rfl,hp,hf⟩
 have S2:=Lib.hid (S1.out.step hp hf)
 clear cc hp hf y0 y1 y2 y3 hle hbl hml z0 z1 z2 z3 hgl hka hil
 have y0:=S2.out.c0
 have y1:=S2.out.c1
 have y2:=S2.out.c2
 have y3:=S2.out.c3
 rw [H_hkd.out] at y0
 have hle:=S2.out.le
 have hbl:=S2.out.bl
 have hml:=S2.out.ml
 go_wp2
 go_end0
 exact ⟨rfl,by rw [HT.out,puts_append]; exact S2.out.pn,S2.out.fp⟩
set_option maxRecDepth 20000 in
set_option maxHeartbeats 400000 in
theorem typ_w12 {t : Tr} {a : Tr} {tk0 : List Wd} (hkd : t.kind = 12) (ha : t.kids[0]? = some a) (hI : Wr 47 a tk0) {tk : List Wd} (hT : tk = [[91],[93]] ++ tk0) : Wr 47 t tk:=fun B b s w sl hG h hB hk => by
 obtain ⟨ao,c,rfl⟩ : ∃ ao c,sl = .slice ao t.kids.length c:=(Lst.kids hk).slice
 have HT:=Lib.hid hT
 clear hT
 have H_hkd:=Lib.hid hkd
 clear hkd
 have H_hI:=Lib.hid hI
 clear hI
 have S0:=Lib.hid (Sw.start hG h hB hk)
 obtain ⟨g,o,rfl,hn0,hcc⟩:=S0.out.addr 0 ha
 clear hn0
 have HL:=Lib.hid (Lst.kids hk)
 obtain ⟨W0,hW⟩ : ∃ W,w.alloc (nbx t (.slice (some ⟨g,o,none⟩) t.kids.length c)) = W:=⟨_,rfl⟩
 rw [hW] at S0
 have hW' : w.alloc (.cells #[.int .i64 t.kind,.string ⟨t.text.toArray⟩,.int .i64 t.num,.slice (some ⟨g,o,none⟩) t.kids.length c] 24) = W0:=hW
 clear hW h hG hk
 generalize hm : w.heap.size = m at *
 have y0:=S0.out.c0
 have y1:=S0.out.c1
 have y2:=S0.out.c2
 have y3:=S0.out.c3
 rw [H_hkd.out] at y0
 have hle:=S0.out.le
 have hbl:=S0.out.bl
 have hml:=S0.out.ml
 go_enter Tryz.func47,Tryz.ntmps47
 have cc:=putAt S0.out.pn S0.out.le [[91],[93]] (by simp) (len2 (by decide) (by decide)) #[.string ⟨#[91]⟩,.string ⟨#[93]⟩] rfl
 go_wp2_with fail
 refine cc.mono ?_
 rintro e w1 ⟨rfl,hp,hf⟩
 have S1:=Lib.hid (S0.out.step hp hf)
 clear cc hp hf y0 y1 y2 y3 hle hbl hml
 have y0:=S1.out.c0
 have y1:=S1.out.c1
 have y2:=S1.out.c2
 have y3:=S1.out.c3
 rw [H_hkd.out] at y0
 have hle:=S1.out.le
 have hbl:=S1.out.bl
 have hml:=S1.out.ml
 obtain ⟨a0,n0,q0,z0,z1,z2,z3,hgl,hka⟩:=S1.out.kid 0 ha
 have hil : 0 < t.kids.length:=(List.getElem?_eq_some_iff.1 ha).1
 replace z0 : w1.cell? ⟨g,o,none⟩ = _:=z0
 replace z1 : w1.cell? ⟨g,o + 1,none⟩ = _:=z1
 replace z2 : w1.cell? ⟨g,o + 2,none⟩ = _:=z2
 replace z3 : w1.cell? ⟨g,o + 3,none⟩ = _:=z3
 have cc:=H_hI.out B b _ _ _ S1.out.gw S1.out.pn S1.out.le hka
 go_wp2_with fail
 refine cc.mono ?_
 rintro e w2 ⟨rfl,hp,hf⟩
 have S2:=Lib.hid (S1.out.step hp hf)
 clear cc hp hf y0 y1 y2 y3 hle hbl hml z0 z1 z2 z3 hgl hka hil
 have y0:=S2.out.c0
 have y1:=S2.out.c1
 have y2:=S2.out.c2
 have y3:=S2.out.c3
 rw [H_hkd.out] at y0
 have hle:=S2.out.le
 have hbl:=S2.out.bl
 have hml:=S2.out.ml
 go_wp2
 go_end0
 exact ⟨rfl,by rw [HT.out,puts_append]; exact S2.out.pn,S2.out.fp⟩
set_option maxRecDepth 20000 in
set_option maxHeartbeats 400000 in
theorem typ_w13 {t : Tr} (hkd : t.kind = 13) {prP prT : Tr → List Wd} {k : Nat} (hnum : t.num = k) (hkl : k ≤ t.kids.length) (hn : t.kids.length ≤ 20000) (hP : ∀ a ∈ t.kids.take k,Wr 47 a (prP a)) (hQ : ∀ a ∈ t.kids.drop k,Wr 47 a (prT a)) {tk : List Wd} (hT : tk = [[102,117,110,99]] ++ (listedT [40] [41] prP (t.kids.take k) ++ (if 1 < (t.kids.drop k).length then listedT [40] [41] prT (t.kids.drop k) else (t.kids.drop k).flatMap prT))) : Wr 47 t tk:=fun B b s w sl hG h hB hk => by
 obtain ⟨ao,c,rfl⟩ : ∃ ao c,sl = .slice ao t.kids.length c:=(Lst.kids hk).slice
 have HT:=Lib.hid hT
 clear hT
 have H_hkd:=Lib.hid hkd
 clear hkd
 have H_hnum:=Lib.hid hnum
 clear hnum
 have H_hP:=Lib.hid hP
 clear hP
 have H_hQ:=Lib.hid hQ
 clear hQ
 have S0:=Lib.hid (Sw.start hG h hB hk)
 have HL:=Lib.hid (Lst.kids hk)
 obtain ⟨W0,hW⟩ : ∃ W,w.alloc (nbx t (.slice ao t.kids.length c)) = W:=⟨_,rfl⟩
 rw [hW] at S0
 have hW' : w.alloc (.cells #[.int .i64 t.kind,.string ⟨t.text.toArray⟩,.int .i64 t.num,.slice ao t.kids.length c] 24) = W0:=hW
 clear hW h hG hk
 generalize hm : w.heap.size = m at *
 have y0:=S0.out.c0
 have y1:=S0.out.c1
 have y2:=S0.out.c2
 have y3:=S0.out.c3
 rw [H_hkd.out] at y0
 have hle:=S0.out.le
 have hbl:=S0.out.bl
 have hml:=S0.out.ml
 go_enter Tryz.func47,Tryz.ntmps47
 have cc:=putAt S0.out.pn S0.out.le [[102,117,110,99]] (by simp) (len1 (by decide)) #[.string ⟨#[102,117,110,99]⟩] rfl
 go_wp2_with fail
 refine cc.mono ?_
 rintro e w1 ⟨rfl,hp,hf⟩
 have S1:=Lib.hid (S0.out.step hp hf)
 clear cc hp hf y0 y1 y2 y3 hle hbl hml
 have y0:=S1.out.c0
 have y1:=S1.out.c1
 have y2:=S1.out.c2
 have y3:=S1.out.c3
 rw [H_hkd.out] at y0
 have hle:=S1.out.le
 have hbl:=S1.out.bl
 have hml:=S1.out.ml
 have cc0:=function_w enP_typ H_hnum.out hkl hn H_hP.out H_hQ.out rfl B b _ _ _ S1.out.gw S1.out.pn S1.out.le S1.out.kt
 rw [tv,H_hkd.out] at cc0
 have cc:=cc0
 go_wp2_with fail
 refine cc.mono ?_
 rintro e w2 ⟨rfl,hp,hf⟩
 have S2:=Lib.hid (S1.out.step hp hf)
 clear cc hp hf y0 y1 y2 y3 hle hbl hml cc0
 have y0:=S2.out.c0
 have y1:=S2.out.c1
 have y2:=S2.out.c2
 have y3:=S2.out.c3
 rw [H_hkd.out] at y0
 have hle:=S2.out.le
 have hbl:=S2.out.bl
 have hml:=S2.out.ml
 go_wp2
 go_end0
 exact ⟨rfl,by rw [HT.out,puts_append]; exact S2.out.pn,S2.out.fp⟩
set_option maxRecDepth 20000 in
set_option maxHeartbeats 400000 in
theorem block_w {t : Tr} {pr : Tr → List Wd} (hn : t.kids.length ≤ 20000) (hI : ∀ a ∈ t.kids,Wr 79 a (pr a)) {tk : List Wd} (hT : tk = membersT pr t.kids) : Wr 49 t tk:=fun B b s w sl hG h hB hk => by
 obtain ⟨ao,c,rfl⟩ : ∃ ao c,sl = .slice ao t.kids.length c:=(Lst.kids hk).slice
 have HT:=Lib.hid hT
 clear hT
 have S0:=Lib.hid (Sw.start hG h hB hk)
 have HL:=Lib.hid (Lst.kids hk)
 obtain ⟨W0,hW⟩ : ∃ W,w.alloc (nbx t (.slice ao t.kids.length c)) = W:=⟨_,rfl⟩
 rw [hW] at S0
 have hW' : w.alloc (.cells #[.int .i64 t.kind,.string ⟨t.text.toArray⟩,.int .i64 t.num,.slice ao t.kids.length c] 24) = W0:=hW
 clear hW h hG hk
 generalize hm : w.heap.size = m at *
 have y0:=S0.out.c0
 have y1:=S0.out.c1
 have y2:=S0.out.c2
 have y3:=S0.out.c3
 have hle:=S0.out.le
 have hbl:=S0.out.bl
 have hml:=S0.out.ml
 go_enter Tryz.func49,Tryz.ntmps49
 have cc:=membersW enP_statement pr B b _ _ (t.kids) (.slice ao t.kids.length c) S0.out.gw S0.out.pn S0.out.le (lst_below HL.out S0.out.fp.below) hn hI
 go_wp2_with fail
 refine cc.mono ?_
 rintro e w1 ⟨rfl,hp,hf⟩
 have S1:=Lib.hid (S0.out.step hp hf)
 clear cc hp hf y0 y1 y2 y3 hle hbl hml
 have y0:=S1.out.c0
 have y1:=S1.out.c1
 have y2:=S1.out.c2
 have y3:=S1.out.c3
 have hle:=S1.out.le
 have hbl:=S1.out.bl
 have hml:=S1.out.ml
 go_wp2
 go_end0
 exact ⟨rfl,by rw [HT.out]; exact S1.out.pn,S1.out.fp⟩
set_option maxRecDepth 20000 in
set_option maxHeartbeats 400000 in
theorem if_w2 {t : Tr} {a d : Tr} {tk0 tk1 : List Wd} (hlen : t.kids.length = 2) (ha : t.kids[0]? = some a) (hb1 : t.kids[1]? = some d) (hI : Wr 22 a tk0) (hJ : Wr 49 d tk1) {tk : List Wd} (hT : tk = [[105,102]] ++ (tk0 ++ tk1)) : Wr 117 t tk:=fun B b s w sl hG h hB hk => by
 obtain ⟨ao,c,rfl⟩ : ∃ ao c,sl = .slice ao 2 c:=by obtain ⟨ao,c,e⟩:=(Lst.kids hk).slice; exact ⟨ao,c,by rw [e,hlen]⟩
 have HT:=Lib.hid hT
 clear hT
 have S0:=Lib.hid (Sw.start hG h hB hk)
 obtain ⟨g,o,rfl,hn0,hcc⟩:=S0.out.addr 0 ha
 clear hn0
 have HL:=Lib.hid (Lst.kids hk)
 obtain ⟨W0,hW⟩ : ∃ W,w.alloc (nbx t (.slice (some ⟨g,o,none⟩) 2 c)) = W:=⟨_,rfl⟩
 rw [hW] at S0
 have hW' : w.alloc (.cells #[.int .i64 t.kind,.string ⟨t.text.toArray⟩,.int .i64 t.num,.slice (some ⟨g,o,none⟩) 2 c] 24) = W0:=hW
 clear hW h hG hk
 generalize hm : w.heap.size = m at *
 have y0:=S0.out.c0
 have y1:=S0.out.c1
 have y2:=S0.out.c2
 have y3:=S0.out.c3
 have hle:=S0.out.le
 have hbl:=S0.out.bl
 have hml:=S0.out.ml
 go_enter Tryz.func117,Tryz.ntmps117
 have cc:=putAt S0.out.pn S0.out.le [[105,102]] (by simp) (len1 (by decide)) #[.string ⟨#[105,102]⟩] rfl
 go_wp2_with fail
 refine cc.mono ?_
 rintro e w1 ⟨rfl,hp,hf⟩
 have S1:=Lib.hid (S0.out.step hp hf)
 clear cc hp hf y0 y1 y2 y3 hle hbl hml
 have y0:=S1.out.c0
 have y1:=S1.out.c1
 have y2:=S1.out.c2
 have y3:=S1.out.c3
 have hle:=S1.out.le
 have hbl:=S1.out.bl
 have hml:=S1.out.ml
 obtain ⟨a0,n0,q0,z0,z1,z2,z3,hgl,hka⟩:=S1.out.kid 0 ha
 have hil : 0 < t.kids.length:=(List.getElem?_eq_some_iff.1 ha).1
 replace z0 : w1.cell? ⟨g,o,none⟩ = _:=z0
 replace z1 : w1.cell? ⟨g,o + 1,none⟩ = _:=z1
 replace z2 : w1.cell? ⟨g,o + 2,none⟩ = _:=z2
 replace z3 : w1.cell? ⟨g,o + 3,none⟩ = _:=z3
 have cc:=hI B b _ _ _ S1.out.gw S1.out.pn S1.out.le hka
 go_wp2_with fail
 refine cc.mono ?_
 rintro e w2 ⟨rfl,hp,hf⟩
 have S2:=Lib.hid (S1.out.step hp hf)
 clear cc hp hf y0 y1 y2 y3 hle hbl hml z0 z1 z2 z3 hgl hka hil
 have y0:=S2.out.c0
 have y1:=S2.out.c1
 have y2:=S2.out.c2
 have y3:=S2.out.c3
 have hle:=S2.out.le
 have hbl:=S2.out.bl
 have hml:=S2.out.ml
 obtain ⟨a0,n0,q0,z0,z1,z2,z3,hgl,hka⟩:=S2.out.kid 1 hb1
 have hil : 1 < t.kids.length:=(List.getElem?_eq_some_iff.1 hb1).1
 replace z0 : w2.cell? ⟨g,o + 4,none⟩ = _:=z0
 replace z1 : w2.cell? ⟨g,o + 5,none⟩ = _:=z1
 replace z2 : w2.cell? ⟨g,o + 6,none⟩ = _:=z2
 replace z3 : w2.cell? ⟨g,o + 7,none⟩ = _:=z3
 have cc:=hJ B b _ _ _ S2.out.gw S2.out.pn S2.out.le hka
 go_wp2_with fail
 refine cc.mono ?_
 rintro e w3 ⟨rfl,hp,hf⟩
 have S3:=Lib.hid (S2.out.step hp hf)
 clear cc hp hf y0 y1 y2 y3 hle hbl hml z0 z1 z2 z3 hgl hka hil
 have y0:=S3.out.c0
 have y1:=S3.out.c1
 have y2:=S3.out.c2
 have y3:=S3.out.c3
 have hle:=S3.out.le
 have hbl:=S3.out.bl
 have hml:=S3.out.ml
 go_wp2
 go_end0
 exact ⟨rfl,by rw [HT.out,puts_append,puts_append]; exact S3.out.pn,S3.out.fp⟩
set_option maxRecDepth 20000 in
set_option maxHeartbeats 400000 in
theorem if_w3 {t : Tr} {a d x : Tr} {tk0 tk1 tk2 : List Wd} (hlen : t.kids.length = 3) (ha : t.kids[0]? = some a) (hb1 : t.kids[1]? = some d) (hc1 : t.kids[2]? = some x) (hI : Wr 22 a tk0) (hJ : Wr 49 d tk1) (hK : Wr 79 x tk2) {tk : List Wd} (hT : tk = [[105,102]] ++ (tk0 ++ (tk1 ++ ([[101,108,115,101]] ++ tk2)))) : Wr 117 t tk:=fun B b s w sl hG h hB hk => by
 obtain ⟨ao,c,rfl⟩ : ∃ ao c,sl = .slice ao 3 c:=by obtain ⟨ao,c,e⟩:=(Lst.kids hk).slice; exact ⟨ao,c,by rw [e,hlen]⟩
 have HT:=Lib.hid hT
 clear hT
 have S0:=Lib.hid (Sw.start hG h hB hk)
 obtain ⟨g,o,rfl,hn0,hcc⟩:=S0.out.addr 0 ha
 clear hn0
 have HL:=Lib.hid (Lst.kids hk)
 obtain ⟨W0,hW⟩ : ∃ W,w.alloc (nbx t (.slice (some ⟨g,o,none⟩) 3 c)) = W:=⟨_,rfl⟩
 rw [hW] at S0
 have hW' : w.alloc (.cells #[.int .i64 t.kind,.string ⟨t.text.toArray⟩,.int .i64 t.num,.slice (some ⟨g,o,none⟩) 3 c] 24) = W0:=hW
 clear hW h hG hk
 generalize hm : w.heap.size = m at *
 have y0:=S0.out.c0
 have y1:=S0.out.c1
 have y2:=S0.out.c2
 have y3:=S0.out.c3
 have hle:=S0.out.le
 have hbl:=S0.out.bl
 have hml:=S0.out.ml
 go_enter Tryz.func117,Tryz.ntmps117
 have cc:=putAt S0.out.pn S0.out.le [[105,102]] (by simp) (len1 (by decide)) #[.string ⟨#[105,102]⟩] rfl
 go_wp2_with fail
 refine cc.mono ?_
 rintro e w1 ⟨rfl,hp,hf⟩
 have S1:=Lib.hid (S0.out.step hp hf)
 clear cc hp hf y0 y1 y2 y3 hle hbl hml
 have y0:=S1.out.c0
 have y1:=S1.out.c1
 have y2:=S1.out.c2
 have y3:=S1.out.c3
 have hle:=S1.out.le
 have hbl:=S1.out.bl
 have hml:=S1.out.ml
 obtain ⟨a0,n0,q0,z0,z1,z2,z3,hgl,hka⟩:=S1.out.kid 0 ha
 have hil : 0 < t.kids.length:=(List.getElem?_eq_some_iff.1 ha).1
 replace z0 : w1.cell? ⟨g,o,none⟩ = _:=z0
 replace z1 : w1.cell? ⟨g,o + 1,none⟩ = _:=z1
 replace z2 : w1.cell? ⟨g,o + 2,none⟩ = _:=z2
 replace z3 : w1.cell? ⟨g,o + 3,none⟩ = _:=z3
 have cc:=hI B b _ _ _ S1.out.gw S1.out.pn S1.out.le hka
 go_wp2_with fail
 refine cc.mono ?_
 rintro e w2 ⟨rfl,hp,hf⟩
 have S2:=Lib.hid (S1.out.step hp hf)
 clear cc hp hf y0 y1 y2 y3 hle hbl hml z0 z1 z2 z3 hgl hka hil
 have y0:=S2.out.c0
 have y1:=S2.out.c1
 have y2:=S2.out.c2
 have y3:=S2.out.c3
 have hle:=S2.out.le
 have hbl:=S2.out.bl
 have hml:=S2.out.ml
 obtain ⟨a0,n0,q0,z0,z1,z2,z3,hgl,hka⟩:=S2.out.kid 1 hb1
 have hil : 1 < t.kids.length:=(List.getElem?_eq_some_iff.1 hb1).1
 replace z0 : w2.cell? ⟨g,o + 4,none⟩ = _:=z0
 replace z1 : w2.cell? ⟨g,o + 5,none⟩ = _:=z1
 replace z2 : w2.cell? ⟨g,o + 6,none⟩ = _:=z2
 replace z3 : w2.cell? ⟨g,o + 7,none⟩ = _:=z3
 have cc:=hJ B b _ _ _ S2.out.gw S2.out.pn S2.out.le hka
 go_wp2_with fail
 refine cc.mono ?_
 rintro e w3 ⟨rfl,hp,hf⟩
 have S3:=Lib.hid (S2.out.step hp hf)
 clear cc hp hf y0 y1 y2 y3 hle hbl hml z0 z1 z2 z3 hgl hka hil
 have y0:=S3.out.c0
 have y1:=S3.out.c1
 have y2:=S3.out.c2
 have y3:=S3.out.c3
 have hle:=S3.out.le
 have hbl:=S3.out.bl
 have hml:=S3.out.ml
 have cc:=putAt S3.out.pn S3.out.le [[101,108,115,101]] (by simp) (len1 (by decide)) #[.string ⟨#[101,108,115,101]⟩] rfl
 go_wp2_with fail
 refine cc.mono ?_
 rintro e w4 ⟨rfl,hp,hf⟩
 have S4:=Lib.hid (S3.out.step hp hf)
 clear cc hp hf y0 y1 y2 y3 hle hbl hml
 have y0:=S4.out.c0
 have y1:=S4.out.c1
 have y2:=S4.out.c2
 have y3:=S4.out.c3
 have hle:=S4.out.le
 have hbl:=S4.out.bl
 have hml:=S4.out.ml
 obtain ⟨a0,n0,q0,z0,z1,z2,z3,hgl,hka⟩:=S4.out.kid 2 hc1
 have hil : 2 < t.kids.length:=(List.getElem?_eq_some_iff.1 hc1).1
 replace z0 : w4.cell? ⟨g,o + 8,none⟩ = _:=z0
 replace z1 : w4.cell? ⟨g,o + 9,none⟩ = _:=z1
 replace z2 : w4.cell? ⟨g,o + 10,none⟩ = _:=z2
 replace z3 : w4.cell? ⟨g,o + 11,none⟩ = _:=z3
 have cc:=hK B b _ _ _ S4.out.gw S4.out.pn S4.out.le hka
 go_wp2_with fail
 refine cc.mono ?_
 rintro e w5 ⟨rfl,hp,hf⟩
 have S5:=Lib.hid (S4.out.step hp hf)
 clear cc hp hf y0 y1 y2 y3 hle hbl hml z0 z1 z2 z3 hgl hka hil
 have y0:=S5.out.c0
 have y1:=S5.out.c1
 have y2:=S5.out.c2
 have y3:=S5.out.c3
 have hle:=S5.out.le
 have hbl:=S5.out.bl
 have hml:=S5.out.ml
 go_wp2
 go_end0
 exact ⟨rfl,by rw [HT.out,puts_append,puts_append,puts_append,puts_append]; exact S5.out.pn,S5.out.fp⟩
set_option maxRecDepth 20000 in
set_option maxHeartbeats 400000 in
theorem variable_w1 {t : Tr} {a : Tr} {tk0 : List Wd} (htx : t.text.length ≤ 1000000) (hlen : t.kids.length = 1) (ha : t.kids[0]? = some a) (hI : Wr 47 a tk0) {tk : List Wd} (hT : tk = [[118,97,114],t.text] ++ tk0) : Wr 150 t tk:=fun B b s w sl hG h hB hk => by
 obtain ⟨ao,c,rfl⟩ : ∃ ao c,sl = .slice ao 1 c:=by obtain ⟨ao,c,e⟩:=(Lst.kids hk).slice; exact ⟨ao,c,by rw [e,hlen]⟩
 have HT:=Lib.hid hT
 clear hT
 have S0:=Lib.hid (Sw.start hG h hB hk)
 obtain ⟨g,o,rfl,hn0,hcc⟩:=S0.out.addr 0 ha
 clear hn0
 have HL:=Lib.hid (Lst.kids hk)
 obtain ⟨W0,hW⟩ : ∃ W,w.alloc (nbx t (.slice (some ⟨g,o,none⟩) 1 c)) = W:=⟨_,rfl⟩
 rw [hW] at S0
 have hW' : w.alloc (.cells #[.int .i64 t.kind,.string ⟨t.text.toArray⟩,.int .i64 t.num,.slice (some ⟨g,o,none⟩) 1 c] 24) = W0:=hW
 clear hW h hG hk
 generalize hm : w.heap.size = m at *
 have y0:=S0.out.c0
 have y1:=S0.out.c1
 have y2:=S0.out.c2
 have y3:=S0.out.c3
 have hle:=S0.out.le
 have hbl:=S0.out.bl
 have hml:=S0.out.ml
 go_enter Tryz.func150,Tryz.ntmps150
 have cc:=putAt S0.out.pn S0.out.le [[118,97,114],t.text] (by simp) (len2 (by decide) htx) #[.string ⟨#[118,97,114]⟩,.string ⟨t.text.toArray⟩] rfl
 go_wp2_with fail
 refine cc.mono ?_
 rintro e w1 ⟨rfl,hp,hf⟩
 have S1:=Lib.hid (S0.out.step hp hf)
 clear cc hp hf y0 y1 y2 y3 hle hbl hml
 have y0:=S1.out.c0
 have y1:=S1.out.c1
 have y2:=S1.out.c2
 have y3:=S1.out.c3
 have hle:=S1.out.le
 have hbl:=S1.out.bl
 have hml:=S1.out.ml
 obtain ⟨a0,n0,q0,z0,z1,z2,z3,hgl,hka⟩:=S1.out.kid 0 ha
 have hil : 0 < t.kids.length:=(List.getElem?_eq_some_iff.1 ha).1
 replace z0 : w1.cell? ⟨g,o,none⟩ = _:=z0
 replace z1 : w1.cell? ⟨g,o + 1,none⟩ = _:=z1
 replace z2 : w1.cell? ⟨g,o + 2,none⟩ = _:=z2
 replace z3 : w1.cell? ⟨g,o + 3,none⟩ = _:=z3
 have cc:=hI B b _ _ _ S1.out.gw S1.out.pn S1.out.le hka
 go_wp2_with fail
 refine cc.mono ?_
 rintro e w2 ⟨rfl,hp,hf⟩
 have S2:=Lib.hid (S1.out.step hp hf)
 clear cc hp hf y0 y1 y2 y3 hle hbl hml z0 z1 z2 z3 hgl hka hil
 have y0:=S2.out.c0
 have y1:=S2.out.c1
 have y2:=S2.out.c2
 have y3:=S2.out.c3
 have hle:=S2.out.le
 have hbl:=S2.out.bl
 have hml:=S2.out.ml
 go_wp2
 go_end0
 exact ⟨rfl,by rw [HT.out,puts_append]; exact S2.out.pn,S2.out.fp⟩
set_option maxRecDepth 20000 in
set_option maxHeartbeats 400000 in
theorem variable_w2 {t : Tr} {a d : Tr} {tk0 tk1 : List Wd} (htx : t.text.length ≤ 1000000) (hlen : t.kids.length = 2) (ha : t.kids[0]? = some a) (hb1 : t.kids[1]? = some d) (hI : Wr 47 a tk0) (hJ : Wr 22 d tk1) {tk : List Wd} (hT : tk = [[118,97,114],t.text] ++ (tk0 ++ ([[61]] ++ tk1))) : Wr 150 t tk:=fun B b s w sl hG h hB hk => by
 obtain ⟨ao,c,rfl⟩ : ∃ ao c,sl = .slice ao 2 c:=by obtain ⟨ao,c,e⟩:=(Lst.kids hk).slice; exact ⟨ao,c,by rw [e,hlen]⟩
 have HT:=Lib.hid hT
 clear hT
 have S0:=Lib.hid (Sw.start hG h hB hk)
 obtain ⟨g,o,rfl,hn0,hcc⟩:=S0.out.addr 0 ha
 clear hn0
 have HL:=Lib.hid (Lst.kids hk)
 obtain ⟨W0,hW⟩ : ∃ W,w.alloc (nbx t (.slice (some ⟨g,o,none⟩) 2 c)) = W:=⟨_,rfl⟩
 rw [hW] at S0
 have hW' : w.alloc (.cells #[.int .i64 t.kind,.string ⟨t.text.toArray⟩,.int .i64 t.num,.slice (some ⟨g,o,none⟩) 2 c] 24) = W0:=hW
 clear hW h hG hk
 generalize hm : w.heap.size = m at *
 have y0:=S0.out.c0
 have y1:=S0.out.c1
 have y2:=S0.out.c2
 have y3:=S0.out.c3
 have hle:=S0.out.le
 have hbl:=S0.out.bl
 have hml:=S0.out.ml
 go_enter Tryz.func150,Tryz.ntmps150
 have cc:=putAt S0.out.pn S0.out.le [[118,97,114],t.text] (by simp) (len2 (by decide) htx) #[.string ⟨#[118,97,114]⟩,.string ⟨t.text.toArray⟩] rfl
 go_wp2_with fail
 refine cc.mono ?_
 rintro e w1 ⟨rfl,hp,hf⟩
 have S1:=Lib.hid (S0.out.step hp hf)
 clear cc hp hf y0 y1 y2 y3 hle hbl hml
 have y0:=S1.out.c0
 have y1:=S1.out.c1
 have y2:=S1.out.c2
 have y3:=S1.out.c3
 have hle:=S1.out.le
 have hbl:=S1.out.bl
 have hml:=S1.out.ml
 obtain ⟨a0,n0,q0,z0,z1,z2,z3,hgl,hka⟩:=S1.out.kid 0 ha
 have hil : 0 < t.kids.length:=(List.getElem?_eq_some_iff.1 ha).1
 replace z0 : w1.cell? ⟨g,o,none⟩ = _:=z0
 replace z1 : w1.cell? ⟨g,o + 1,none⟩ = _:=z1
 replace z2 : w1.cell? ⟨g,o + 2,none⟩ = _:=z2
 replace z3 : w1.cell? ⟨g,o + 3,none⟩ = _:=z3
 have cc:=hI B b _ _ _ S1.out.gw S1.out.pn S1.out.le hka
 go_wp2_with fail
 refine cc.mono ?_
 rintro e w2 ⟨rfl,hp,hf⟩
 have S2:=Lib.hid (S1.out.step hp hf)
 clear cc hp hf y0 y1 y2 y3 hle hbl hml z0 z1 z2 z3 hgl hka hil
 have y0:=S2.out.c0
 have y1:=S2.out.c1
 have y2:=S2.out.c2
 have y3:=S2.out.c3
 have hle:=S2.out.le
 have hbl:=S2.out.bl
 have hml:=S2.out.ml
 have cc:=putAt S2.out.pn S2.out.le [[61]] (by simp) (len1 (by decide)) #[.string ⟨#[61]⟩] rfl
 go_wp2_with fail
 refine cc.mono ?_
 rintro e w3 ⟨rfl,hp,hf⟩
 have S3:=Lib.hid (S2.out.step hp hf)
 clear cc hp hf y0 y1 y2 y3 hle hbl hml
 have y0:=S3.out.c0
 have y1:=S3.out.c1
 have y2:=S3.out.c2
 have y3:=S3.out.c3
 have hle:=S3.out.le
 have hbl:=S3.out.bl
 have hml:=S3.out.ml
 obtain ⟨a0,n0,q0,z0,z1,z2,z3,hgl,hka⟩:=S3.out.kid 1 hb1
 have hil : 1 < t.kids.length:=(List.getElem?_eq_some_iff.1 hb1).1
 replace z0 : w3.cell? ⟨g,o + 4,none⟩ = _:=z0
 replace z1 : w3.cell? ⟨g,o + 5,none⟩ = _:=z1
 replace z2 : w3.cell? ⟨g,o + 6,none⟩ = _:=z2
 replace z3 : w3.cell? ⟨g,o + 7,none⟩ = _:=z3
 have cc:=hJ B b _ _ _ S3.out.gw S3.out.pn S3.out.le hka
 go_wp2_with fail
 refine cc.mono ?_
 rintro e w4 ⟨rfl,hp,hf⟩
 have S4:=Lib.hid (S3.out.step hp hf)
 clear cc hp hf y0 y1 y2 y3 hle hbl hml z0 z1 z2 z3 hgl hka hil
 have y0:=S4.out.c0
 have y1:=S4.out.c1
 have y2:=S4.out.c2
 have y3:=S4.out.c3
 have hle:=S4.out.le
 have hbl:=S4.out.bl
 have hml:=S4.out.ml
 go_wp2
 go_end0
 exact ⟨rfl,by rw [HT.out,puts_append,puts_append,puts_append]; exact S4.out.pn,S4.out.fp⟩
set_option maxRecDepth 20000 in
set_option maxHeartbeats 400000 in
theorem for_w1 {t : Tr} {a : Tr} {tk1 : List Wd} {pr : Tr → List Wd} (hlen : t.kids.length = 1) (ha : t.kids[0]? = some a) (hJ : Wr 49 a tk1) {tk : List Wd} (hT : tk = [[102,111,114]] ++ (([] : List Tr).flatMap pr ++ tk1)) : Wr 118 t tk:=fun B b s w sl hG h hB hk => by
 obtain ⟨ao,c,rfl⟩ : ∃ ao c,sl = .slice ao 1 c:=by obtain ⟨ao,c,e⟩:=(Lst.kids hk).slice; exact ⟨ao,c,by rw [e,hlen]⟩
 have HT:=Lib.hid hT
 clear hT
 have S0:=Lib.hid (Sw.start hG h hB hk)
 obtain ⟨g,o,rfl,hn0,hcc⟩:=S0.out.addr 0 ha
 clear hn0
 have HL:=Lib.hid (Lst.kids hk)
 have HL1 : Hid (Lst w (· < B) [] (.slice (some ⟨g,o,none⟩) 0 c)):=Lst.nil _ _
 obtain ⟨W0,hW⟩ : ∃ W,w.alloc (nbx t (.slice (some ⟨g,o,none⟩) 1 c)) = W:=⟨_,rfl⟩
 rw [hW] at S0
 have hW' : w.alloc (.cells #[.int .i64 t.kind,.string ⟨t.text.toArray⟩,.int .i64 t.num,.slice (some ⟨g,o,none⟩) 1 c] 24) = W0:=hW
 clear hW h hG hk
 generalize hm : w.heap.size = m at *
 have y0:=S0.out.c0
 have y1:=S0.out.c1
 have y2:=S0.out.c2
 have y3:=S0.out.c3
 have hle:=S0.out.le
 have hbl:=S0.out.bl
 have hml:=S0.out.ml
 go_enter Tryz.func118,Tryz.ntmps118
 have cc:=putAt S0.out.pn S0.out.le [[102,111,114]] (by simp) (len1 (by decide)) #[.string ⟨#[102,111,114]⟩] rfl
 go_wp2_with fail
 refine cc.mono ?_
 rintro e w1 ⟨rfl,hp,hf⟩
 have S1:=Lib.hid (S0.out.step hp hf)
 clear cc hp hf y0 y1 y2 y3 hle hbl hml
 have y0:=S1.out.c0
 have y1:=S1.out.c1
 have y2:=S1.out.c2
 have y3:=S1.out.c3
 have hle:=S1.out.le
 have hbl:=S1.out.bl
 have hml:=S1.out.ml
 have cc:=eachW enP_expression pr B b _ _ (([] : List Tr)) (.slice (some ⟨g,o,none⟩) 0 c) S1.out.gw S1.out.pn S1.out.le (lst_below HL1.out S1.out.fp.below) (by simp) (by simp)
 go_wp2_with fail
 refine cc.mono ?_
 rintro e w2 ⟨rfl,hp,hf⟩
 have S2:=Lib.hid (S1.out.step hp hf)
 clear cc hp hf y0 y1 y2 y3 hle hbl hml
 have y0:=S2.out.c0
 have y1:=S2.out.c1
 have y2:=S2.out.c2
 have y3:=S2.out.c3
 have hle:=S2.out.le
 have hbl:=S2.out.bl
 have hml:=S2.out.ml
 obtain ⟨a0,n0,q0,z0,z1,z2,z3,hgl,hka⟩:=S2.out.kid 0 ha
 have hil : 0 < t.kids.length:=(List.getElem?_eq_some_iff.1 ha).1
 replace z0 : w2.cell? ⟨g,o,none⟩ = _:=z0
 replace z1 : w2.cell? ⟨g,o + 1,none⟩ = _:=z1
 replace z2 : w2.cell? ⟨g,o + 2,none⟩ = _:=z2
 replace z3 : w2.cell? ⟨g,o + 3,none⟩ = _:=z3
 have cc:=hJ B b _ _ _ S2.out.gw S2.out.pn S2.out.le hka
 go_wp2_with fail
 refine cc.mono ?_
 rintro e w3 ⟨rfl,hp,hf⟩
 have S3:=Lib.hid (S2.out.step hp hf)
 clear cc hp hf y0 y1 y2 y3 hle hbl hml z0 z1 z2 z3 hgl hka hil
 have y0:=S3.out.c0
 have y1:=S3.out.c1
 have y2:=S3.out.c2
 have y3:=S3.out.c3
 have hle:=S3.out.le
 have hbl:=S3.out.bl
 have hml:=S3.out.ml
 go_wp2
 go_end0
 exact ⟨rfl,by rw [HT.out,puts_append,puts_append]; exact S3.out.pn,S3.out.fp⟩
set_option maxRecDepth 20000 in
set_option maxHeartbeats 400000 in
theorem for_w2 {t : Tr} {a d : Tr} {tk1 : List Wd} {pr : Tr → List Wd} (hlen : t.kids.length = 2) (ha : t.kids[0]? = some a) (hb1 : t.kids[1]? = some d) (hI : Wr 22 a (pr a)) (hJ : Wr 49 d tk1) {tk : List Wd} (hT : tk = [[102,111,114]] ++ (([a] : List Tr).flatMap pr ++ tk1)) : Wr 118 t tk:=fun B b s w sl hG h hB hk => by
 obtain ⟨ao,c,rfl⟩ : ∃ ao c,sl = .slice ao 2 c:=by obtain ⟨ao,c,e⟩:=(Lst.kids hk).slice; exact ⟨ao,c,by rw [e,hlen]⟩
 have HT:=Lib.hid hT
 clear hT
 have S0:=Lib.hid (Sw.start hG h hB hk)
 obtain ⟨g,o,rfl,hn0,hcc⟩:=S0.out.addr 0 ha
 clear hn0
 have HL:=Lib.hid (Lst.kids hk)
 have HL1 : Hid (Lst w (· < B) [a] (.slice (some ⟨g,o,none⟩) 1 c)):=by
  have hL:=HL.out
  rw [← hlen] at hL
  have e1 : t.kids.take 1 = [a]:=by rw [List.take_add_one,ha]; rfl
  rcases hL.cut (k:=1) (by omega) with ⟨h0,_⟩ | ⟨g2,o2,e,_,_,L1,_⟩ | ⟨g2,o2,e,h1,_,_⟩
  · rw [h0] at hlen; cases hlen
  · cases e; rw [← e1]; exact L1
  · omega
 obtain ⟨W0,hW⟩ : ∃ W,w.alloc (nbx t (.slice (some ⟨g,o,none⟩) 2 c)) = W:=⟨_,rfl⟩
 rw [hW] at S0
 have hW' : w.alloc (.cells #[.int .i64 t.kind,.string ⟨t.text.toArray⟩,.int .i64 t.num,.slice (some ⟨g,o,none⟩) 2 c] 24) = W0:=hW
 clear hW h hG hk
 generalize hm : w.heap.size = m at *
 have y0:=S0.out.c0
 have y1:=S0.out.c1
 have y2:=S0.out.c2
 have y3:=S0.out.c3
 have hle:=S0.out.le
 have hbl:=S0.out.bl
 have hml:=S0.out.ml
 go_enter Tryz.func118,Tryz.ntmps118
 have cc:=putAt S0.out.pn S0.out.le [[102,111,114]] (by simp) (len1 (by decide)) #[.string ⟨#[102,111,114]⟩] rfl
 go_wp2_with fail
 refine cc.mono ?_
 rintro e w1 ⟨rfl,hp,hf⟩
 have S1:=Lib.hid (S0.out.step hp hf)
 clear cc hp hf y0 y1 y2 y3 hle hbl hml
 have y0:=S1.out.c0
 have y1:=S1.out.c1
 have y2:=S1.out.c2
 have y3:=S1.out.c3
 have hle:=S1.out.le
 have hbl:=S1.out.bl
 have hml:=S1.out.ml
 have cc:=eachW enP_expression pr B b _ _ ([a]) (.slice (some ⟨g,o,none⟩) 1 c) S1.out.gw S1.out.pn S1.out.le (lst_below HL1.out S1.out.fp.below) (by simp) (by simpa using hI)
 go_wp2_with fail
 refine cc.mono ?_
 rintro e w2 ⟨rfl,hp,hf⟩
 have S2:=Lib.hid (S1.out.step hp hf)
 clear cc hp hf y0 y1 y2 y3 hle hbl hml
 have y0:=S2.out.c0
 have y1:=S2.out.c1
 have y2:=S2.out.c2
 have y3:=S2.out.c3
 have hle:=S2.out.le
 have hbl:=S2.out.bl
 have hml:=S2.out.ml
 obtain ⟨a0,n0,q0,z0,z1,z2,z3,hgl,hka⟩:=S2.out.kid 1 hb1
 have hil : 1 < t.kids.length:=(List.getElem?_eq_some_iff.1 hb1).1
 replace z0 : w2.cell? ⟨g,o + 4,none⟩ = _:=z0
 replace z1 : w2.cell? ⟨g,o + 5,none⟩ = _:=z1
 replace z2 : w2.cell? ⟨g,o + 6,none⟩ = _:=z2
 replace z3 : w2.cell? ⟨g,o + 7,none⟩ = _:=z3
 have cc:=hJ B b _ _ _ S2.out.gw S2.out.pn S2.out.le hka
 go_wp2_with fail
 refine cc.mono ?_
 rintro e w3 ⟨rfl,hp,hf⟩
 have S3:=Lib.hid (S2.out.step hp hf)
 clear cc hp hf y0 y1 y2 y3 hle hbl hml z0 z1 z2 z3 hgl hka hil
 have y0:=S3.out.c0
 have y1:=S3.out.c1
 have y2:=S3.out.c2
 have y3:=S3.out.c3
 have hle:=S3.out.le
 have hbl:=S3.out.bl
 have hml:=S3.out.ml
 go_wp2
 go_end0
 exact ⟨rfl,by rw [HT.out,puts_append,puts_append]; exact S3.out.pn,S3.out.fp⟩
end Go.Proofs.YtffnaknidofobaaGreatDoor
