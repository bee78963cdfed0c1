/- The printer: expressions but leaves, declarations, programs. -/
import Derived.Test.YtffnaknidofobaaGreatDoorPrJJt
namespace Go.Proofs.YtffnaknidofobaaGreatDoor
open Go.RowKit
set_option maxRecDepth 20000 in
set_option maxHeartbeats 400000 in
theorem expression_w45 {t : Tr} (hkd : t.kind = 45) (htx : t.text.length ≤ 1000000) {tk0 : List Wd} (hI : WrE t.kids tk0) {tk : List Wd} (hT : tk = [[40],t.text] ++ (tk0 ++ [[41]])) : Wr 22 t tk:=fun B b s w sl hG h hB hk => by
 obtain ⟨ao,c,rfl⟩ : ∃ ao c,sl = .slice ao t.kids.length c:=(Lst.kids hk).slice
 have HT:=Lib.hid hT
 clear hT
 have H_hkd:=Lib.hid hkd
 clear hkd
 have H_hI:=Lib.hid hI
 clear hI
 have S0:=Lib.hid (Sw.start hG h hB hk)
 have HL:=Lib.hid (Lst.kids hk)
 obtain ⟨W0,hW⟩ : ∃ W,w.alloc (nbx t (.slice ao t.kids.length c)) = W:=⟨_,rfl⟩
 rw [hW] at S0
 have hW' : w.alloc (.cells #[.int .i64 t.kind,.string ⟨t.text.toArray⟩,.int .i64 t.num,.slice ao t.kids.length c] 24) = W0:=hW
 clear hW h hG hk
 generalize hm : w.heap.size = m at *
 have y0:=S0.out.c0
 have y1:=S0.out.c1
 have y2:=S0.out.c2
 have y3:=S0.out.c3
 rw [H_hkd.out] at y0
 have hle:=S0.out.le
 have hbl:=S0.out.bl
 have hml:=S0.out.ml
 go_enter Tryz.func22,Tryz.ntmps22
 have cc:=putAt S0.out.pn S0.out.le [[40],t.text] (by simp) (len2 (by decide) htx) #[.string ⟨#[40]⟩,.string ⟨t.text.toArray⟩] rfl
 go_wp2_with fail
 refine cc.mono ?_
 rintro e w1 ⟨rfl,hp,hf⟩
 have S1:=Lib.hid (S0.out.step hp hf)
 clear cc hp hf y0 y1 y2 y3 hle hbl hml
 have y0:=S1.out.c0
 have y1:=S1.out.c1
 have y2:=S1.out.c2
 have y3:=S1.out.c3
 rw [H_hkd.out] at y0
 have hle:=S1.out.le
 have hbl:=S1.out.bl
 have hml:=S1.out.ml
 have cc:=H_hI.out B b _ _ (.slice ao t.kids.length c) S1.out.gw S1.out.pn S1.out.le (lst_below HL.out S1.out.fp.below)
 go_wp2_with fail
 refine cc.mono ?_
 rintro e w2 ⟨rfl,hp,hf⟩
 have S2:=Lib.hid (S1.out.step hp hf)
 clear cc hp hf y0 y1 y2 y3 hle hbl hml
 have y0:=S2.out.c0
 have y1:=S2.out.c1
 have y2:=S2.out.c2
 have y3:=S2.out.c3
 rw [H_hkd.out] at y0
 have hle:=S2.out.le
 have hbl:=S2.out.bl
 have hml:=S2.out.ml
 have cc:=putAt S2.out.pn S2.out.le [[41]] (by simp) (len1 (by decide)) #[.string ⟨#[41]⟩] rfl
 go_wp2_with fail
 refine cc.mono ?_
 rintro e w3 ⟨rfl,hp,hf⟩
 have S3:=Lib.hid (S2.out.step hp hf)
 clear cc hp hf y0 y1 y2 y3 hle hbl hml
 have y0:=S3.out.c0
 have y1:=S3.out.c1
 have y2:=S3.out.c2
 have y3:=S3.out.c3
 rw [H_hkd.out] at y0
 have hle:=S3.out.le
 have hbl:=S3.out.bl
 have hml:=S3.out.ml
 go_wp2
 go_end0
 exact ⟨rfl,by rw [HT.out,puts_append,puts_append]; exact S3.out.pn,S3.out.fp⟩
set_option maxRecDepth 20000 in
set_option maxHeartbeats 400000 in
theorem expression_w46 {t : Tr} {a : Tr} (ha : t.kids[0]? = some a) (hkd : t.kind = 46) {tk0 tk1 : List Wd} (hJ : Wr 47 a tk0) (hI : WrE (t.kids.drop 1) tk1) {tk : List Wd} (hT : tk = [[91],[93]] ++ (tk0 ++ tk1)) : Wr 22 t tk:=fun B b s w sl hG h hB hk => by
 obtain ⟨ao,c,rfl⟩ : ∃ ao c,sl = .slice ao t.kids.length c:=(Lst.kids hk).slice
 have HT:=Lib.hid hT
 clear hT
 have H_hkd:=Lib.hid hkd
 clear hkd
 have H_hI:=Lib.hid hI
 clear hI
 have H_hJ:=Lib.hid hJ
 clear hJ
 have S0:=Lib.hid (Sw.start hG h hB hk)
 obtain ⟨g,o,rfl,hn0,hcc⟩:=S0.out.addr 0 ha
 clear hn0
 have HL:=Lib.hid (Lst.kids hk)
 have hlk:=(List.getElem?_eq_some_iff.1 ha).1
 rcases HL.out.rest rfl hlk with ⟨h1c,HR⟩ | ⟨h1c,hn1,HR⟩
 · replace HR:=Lib.hid HR
   have hck0 : (c - 1 == 0) = false:=by simp; omega
   obtain ⟨W0,hW⟩ : ∃ W,w.alloc (nbx t (.slice (some ⟨g,o,none⟩) t.kids.length c)) = W:=⟨_,rfl⟩
   rw [hW] at S0
   have hW' : w.alloc (.cells #[.int .i64 t.kind,.string ⟨t.text.toArray⟩,.int .i64 t.num,.slice (some ⟨g,o,none⟩) t.kids.length c] 24) = W0:=hW
   clear hW h hG hk
   generalize hm : w.heap.size = m at *
   have y0:=S0.out.c0
   have y1:=S0.out.c1
   have y2:=S0.out.c2
   have y3:=S0.out.c3
   rw [H_hkd.out] at y0
   have hle:=S0.out.le
   have hbl:=S0.out.bl
   have hml:=S0.out.ml
   go_enter Tryz.func22,Tryz.ntmps22
   have cc:=putAt S0.out.pn S0.out.le [[91],[93]] (by simp) (len2 (by decide) (by decide)) #[.string ⟨#[91]⟩,.string ⟨#[93]⟩] rfl
   go_wp2_with fail
   refine cc.mono ?_
   rintro e w1 ⟨rfl,hp,hf⟩
   have S1:=Lib.hid (S0.out.step hp hf)
   clear cc hp hf y0 y1 y2 y3 hle hbl hml
   have y0:=S1.out.c0
   have y1:=S1.out.c1
   have y2:=S1.out.c2
   have y3:=S1.out.c3
   rw [H_hkd.out] at y0
   have hle:=S1.out.le
   have hbl:=S1.out.bl
   have hml:=S1.out.ml
   obtain ⟨a0,n0,q0,z0,z1,z2,z3,hgl,hka⟩:=S1.out.kid 0 ha
   have hil : 0 < t.kids.length:=(List.getElem?_eq_some_iff.1 ha).1
   replace z0 : w1.cell? ⟨g,o,none⟩ = _:=z0
   replace z1 : w1.cell? ⟨g,o + 1,none⟩ = _:=z1
   replace z2 : w1.cell? ⟨g,o + 2,none⟩ = _:=z2
   replace z3 : w1.cell? ⟨g,o + 3,none⟩ = _:=z3
   have cc:=H_hJ.out B b _ _ _ S1.out.gw S1.out.pn S1.out.le hka
   go_wp2_with fail
   refine cc.mono ?_
   rintro e w2 ⟨rfl,hp,hf⟩
   have S2:=Lib.hid (S1.out.step hp hf)
   clear cc hp hf y0 y1 y2 y3 hle hbl hml z0 z1 z2 z3 hgl hka hil
   have y0:=S2.out.c0
   have y1:=S2.out.c1
   have y2:=S2.out.c2
   have y3:=S2.out.c3
   rw [H_hkd.out] at y0
   have hle:=S2.out.le
   have hbl:=S2.out.bl
   have hml:=S2.out.ml
   have cc:=H_hI.out B b _ _ (.slice (some ⟨g,o + 4,none⟩) (t.kids.length - 1) (c - 1)) S2.out.gw S2.out.pn S2.out.le (lst_below HR.out S2.out.fp.below)
   go_wp2_with fail
   refine cc.mono ?_
   rintro e w3 ⟨rfl,hp,hf⟩
   have S3:=Lib.hid (S2.out.step hp hf)
   clear cc hp hf y0 y1 y2 y3 hle hbl hml
   have y0:=S3.out.c0
   have y1:=S3.out.c1
   have y2:=S3.out.c2
   have y3:=S3.out.c3
   rw [H_hkd.out] at y0
   have hle:=S3.out.le
   have hbl:=S3.out.bl
   have hml:=S3.out.ml
   go_wp2
   go_end0
   exact ⟨rfl,by rw [HT.out,puts_append,puts_append]; exact S3.out.pn,S3.out.fp⟩
 · replace HR:=Lib.hid HR
   subst h1c
   have hlen1 : t.kids.length = 1:=hn1
   rw [hlen1] at S0
   obtain ⟨W0,hW⟩ : ∃ W,w.alloc (nbx t (.slice (some ⟨g,o,none⟩) 1 1)) = W:=⟨_,rfl⟩
   rw [hW] at S0
   have hW' : w.alloc (.cells #[.int .i64 t.kind,.string ⟨t.text.toArray⟩,.int .i64 t.num,.slice (some ⟨g,o,none⟩) 1 1] 24) = W0:=hW
   clear hW h hG hk hn1
   rw [hlen1]
   generalize hm : w.heap.size = m at *
   have y0:=S0.out.c0
   have y1:=S0.out.c1
   have y2:=S0.out.c2
   have y3:=S0.out.c3
   rw [H_hkd.out] at y0
   have hle:=S0.out.le
   have hbl:=S0.out.bl
   have hml:=S0.out.ml
   go_enter Tryz.func22,Tryz.ntmps22
   have cc:=putAt S0.out.pn S0.out.le [[91],[93]] (by simp) (len2 (by decide) (by decide)) #[.string ⟨#[91]⟩,.string ⟨#[93]⟩] rfl
   go_wp2_with fail
   refine cc.mono ?_
   rintro e w1 ⟨rfl,hp,hf⟩
   have S1:=Lib.hid (S0.out.step hp hf)
   clear cc hp hf y0 y1 y2 y3 hle hbl hml
   have y0:=S1.out.c0
   have y1:=S1.out.c1
   have y2:=S1.out.c2
   have y3:=S1.out.c3
   rw [H_hkd.out] at y0
   have hle:=S1.out.le
   have hbl:=S1.out.bl
   have hml:=S1.out.ml
   obtain ⟨a0,n0,q0,z0,z1,z2,z3,hgl,hka⟩:=S1.out.kid 0 ha
   have hil : 0 < t.kids.length:=(List.getElem?_eq_some_iff.1 ha).1
   replace z0 : w1.cell? ⟨g,o,none⟩ = _:=z0
   replace z1 : w1.cell? ⟨g,o + 1,none⟩ = _:=z1
   replace z2 : w1.cell? ⟨g,o + 2,none⟩ = _:=z2
   replace z3 : w1.cell? ⟨g,o + 3,none⟩ = _:=z3
   have cc:=H_hJ.out B b _ _ _ S1.out.gw S1.out.pn S1.out.le hka
   go_wp2_with fail
   refine cc.mono ?_
   rintro e w2 ⟨rfl,hp,hf⟩
   have S2:=Lib.hid (S1.out.step hp hf)
   clear cc hp hf y0 y1 y2 y3 hle hbl hml z0 z1 z2 z3 hgl hka hil
   have y0:=S2.out.c0
   have y1:=S2.out.c1
   have y2:=S2.out.c2
   have y3:=S2.out.c3
   rw [H_hkd.out] at y0
   have hle:=S2.out.le
   have hbl:=S2.out.bl
   have hml:=S2.out.ml
   have cc:=H_hI.out B b _ _ (.slice (some ⟨g,o,none⟩) 0 0) S2.out.gw S2.out.pn S2.out.le (lst_below HR.out S2.out.fp.below)
   go_wp2_with fail
   refine cc.mono ?_
   rintro e w3 ⟨rfl,hp,hf⟩
   have S3:=Lib.hid (S2.out.step hp hf)
   clear cc hp hf y0 y1 y2 y3 hle hbl hml
   have y0:=S3.out.c0
   have y1:=S3.out.c1
   have y2:=S3.out.c2
   have y3:=S3.out.c3
   rw [H_hkd.out] at y0
   have hle:=S3.out.le
   have hbl:=S3.out.bl
   have hml:=S3.out.ml
   go_wp2
   go_end0
   exact ⟨rfl,by rw [HT.out,puts_append,puts_append]; exact S3.out.pn,S3.out.fp⟩
set_option maxRecDepth 20000 in
set_option maxHeartbeats 400000 in
theorem expression_w47 {t : Tr} {a : Tr} (ha : t.kids[0]? = some a) {d : Tr} (hb1 : t.kids[1]? = some d) (hkd : t.kind = 47) (hlen : t.kids.length = 2) {tk0 tk1 : List Wd} (hI : Wr 48 a tk0) (hJ : Wr 49 d tk1) {tk : List Wd} (hT : tk = [[102,117,110,99]] ++ (tk0 ++ tk1)) : Wr 22 t tk:=fun B b s w sl hG h hB hk => by
 obtain ⟨ao,c,rfl⟩ : ∃ ao c,sl = .slice ao 2 c:=by obtain ⟨ao,c,e⟩:=(Lst.kids hk).slice; exact ⟨ao,c,by rw [e,hlen]⟩
 have HT:=Lib.hid hT
 clear hT
 have H_hkd:=Lib.hid hkd
 clear hkd
 have H_hI:=Lib.hid hI
 clear hI
 have H_hJ:=Lib.hid hJ
 clear hJ
 have S0:=Lib.hid (Sw.start hG h hB hk)
 obtain ⟨g,o,rfl,hn0,hcc⟩:=S0.out.addr 0 ha
 clear hn0
 have HL:=Lib.hid (Lst.kids hk)
 obtain ⟨W0,hW⟩ : ∃ W,w.alloc (nbx t (.slice (some ⟨g,o,none⟩) 2 c)) = W:=⟨_,rfl⟩
 rw [hW] at S0
 have hW' : w.alloc (.cells #[.int .i64 t.kind,.string ⟨t.text.toArray⟩,.int .i64 t.num,.slice (some ⟨g,o,none⟩) 2 c] 24) = W0:=hW
 clear hW h hG hk
 generalize hm : w.heap.size = m at *
 have y0:=S0.out.c0
 have y1:=S0.out.c1
 have y2:=S0.out.c2
 have y3:=S0.out.c3
 rw [H_hkd.out] at y0
 have hle:=S0.out.le
 have hbl:=S0.out.bl
 have hml:=S0.out.ml
 go_enter Tryz.func22,Tryz.ntmps22
 have cc:=putAt S0.out.pn S0.out.le [[102,117,110,99]] (by simp) (len1 (by decide)) #[.string ⟨#[102,117,110,99]⟩] rfl
 go_wp2_with fail
 refine cc.mono ?_
 rintro e w1 ⟨rfl,hp,hf⟩
 have S1:=Lib.hid (S0.out.step hp hf)
 clear cc hp hf y0 y1 y2 y3 hle hbl hml
 have y0:=S1.out.c0
 have y1:=S1.out.c1
 have y2:=S1.out.c2
 have y3:=S1.out.c3
 rw [H_hkd.out] at y0
 have hle:=S1.out.le
 have hbl:=S1.out.bl
 have hml:=S1.out.ml
 obtain ⟨a0,n0,q0,z0,z1,z2,z3,hgl,hka⟩:=S1.out.kid 0 ha
 have hil : 0 < t.kids.length:=(List.getElem?_eq_some_iff.1 ha).1
 replace z0 : w1.cell? ⟨g,o,none⟩ = _:=z0
 replace z1 : w1.cell? ⟨g,o + 1,none⟩ = _:=z1
 replace z2 : w1.cell? ⟨g,o + 2,none⟩ = _:=z2
 replace z3 : w1.cell? ⟨g,o + 3,none⟩ = _:=z3
 have cc:=H_hI.out B b _ _ _ S1.out.gw S1.out.pn S1.out.le hka
 go_wp2_with fail
 refine cc.mono ?_
 rintro e w2 ⟨rfl,hp,hf⟩
 have S2:=Lib.hid (S1.out.step hp hf)
 clear cc hp hf y0 y1 y2 y3 hle hbl hml z0 z1 z2 z3 hgl hka hil
 have y0:=S2.out.c0
 have y1:=S2.out.c1
 have y2:=S2.out.c2
 have y3:=S2.out.c3
 rw [H_hkd.out] at y0
 have hle:=S2.out.le
 have hbl:=S2.out.bl
 have hml:=S2.out.ml
 obtain ⟨a0,n0,q0,z0,z1,z2,z3,hgl,hka⟩:=S2.out.kid 1 hb1
 have hil : 1 < t.kids.length:=(List.getElem?_eq_some_iff.1 hb1).1
 replace z0 : w2.cell? ⟨g,o + 4,none⟩ = _:=z0
 replace z1 : w2.cell? ⟨g,o + 5,none⟩ = _:=z1
 replace z2 : w2.cell? ⟨g,o + 6,none⟩ = _:=z2
 replace z3 : w2.cell? ⟨g,o + 7,none⟩ = _:=z3
 have cc:=H_hJ.out B b _ _ _ S2.out.gw S2.out.pn S2.out.le hka
 go_wp2_with fail
 refine cc.mono ?_
 rintro e w3 ⟨rfl,hp,hf⟩
 have S3:=Lib.hid (S2.out.step hp hf)
 clear cc hp hf y0 y1 y2 y3 hle hbl hml z0 z1 z2 z3 hgl hka hil
 have y0:=S3.out.c0
 have y1:=S3.out.c1
 have y2:=S3.out.c2
 have y3:=S3.out.c3
 rw [H_hkd.out] at y0
 have hle:=S3.out.le
 have hbl:=S3.out.bl
 have hml:=S3.out.ml
 go_wp2
 go_end0
 exact ⟨rfl,by rw [HT.out,puts_append,puts_append]; exact S3.out.pn,S3.out.fp⟩
set_option maxRecDepth 20000 in
set_option maxHeartbeats 400000 in
theorem expression_w52 {t : Tr} {a : Tr} (ha : t.kids[0]? = some a) (hkd : t.kind = 52) (htx : t.text.length ≤ 1000000) {tk0 : List Wd} (hI : Wr 22 a tk0) {tk : List Wd} (hT : tk = [[40],t.text] ++ (tk0 ++ [[41]])) : Wr 22 t tk:=fun B b s w sl hG h hB hk => by
 obtain ⟨ao,c,rfl⟩ : ∃ ao c,sl = .slice ao t.kids.length c:=(Lst.kids hk).slice
 have HT:=Lib.hid hT
 clear hT
 have H_hkd:=Lib.hid hkd
 clear hkd
 have H_hI:=Lib.hid hI
 clear hI
 have S0:=Lib.hid (Sw.start hG h hB hk)
 obtain ⟨g,o,rfl,hn0,hcc⟩:=S0.out.addr 0 ha
 clear hn0
 have HL:=Lib.hid (Lst.kids hk)
 obtain ⟨W0,hW⟩ : ∃ W,w.alloc (nbx t (.slice (some ⟨g,o,none⟩) t.kids.length c)) = W:=⟨_,rfl⟩
 rw [hW] at S0
 have hW' : w.alloc (.cells #[.int .i64 t.kind,.string ⟨t.text.toArray⟩,.int .i64 t.num,.slice (some ⟨g,o,none⟩) t.kids.length c] 24) = W0:=hW
 clear hW h hG hk
 generalize hm : w.heap.size = m at *
 have y0:=S0.out.c0
 have y1:=S0.out.c1
 have y2:=S0.out.c2
 have y3:=S0.out.c3
 rw [H_hkd.out] at y0
 have hle:=S0.out.le
 have hbl:=S0.out.bl
 have hml:=S0.out.ml
 go_enter Tryz.func22,Tryz.ntmps22
 have cc:=putAt S0.out.pn S0.out.le [[40],t.text] (by simp) (len2 (by decide) htx) #[.string ⟨#[40]⟩,.string ⟨t.text.toArray⟩] rfl
 go_wp2_with fail
 refine cc.mono ?_
 rintro e w1 ⟨rfl,hp,hf⟩
 have S1:=Lib.hid (S0.out.step hp hf)
 clear cc hp hf y0 y1 y2 y3 hle hbl hml
 have y0:=S1.out.c0
 have y1:=S1.out.c1
 have y2:=S1.out.c2
 have y3:=S1.out.c3
 rw [H_hkd.out] at y0
 have hle:=S1.out.le
 have hbl:=S1.out.bl
 have hml:=S1.out.ml
 obtain ⟨a0,n0,q0,z0,z1,z2,z3,hgl,hka⟩:=S1.out.kid 0 ha
 have hil : 0 < t.kids.length:=(List.getElem?_eq_some_iff.1 ha).1
 replace z0 : w1.cell? ⟨g,o,none⟩ = _:=z0
 replace z1 : w1.cell? ⟨g,o + 1,none⟩ = _:=z1
 replace z2 : w1.cell? ⟨g,o + 2,none⟩ = _:=z2
 replace z3 : w1.cell? ⟨g,o + 3,none⟩ = _:=z3
 have cc:=H_hI.out B b _ _ _ S1.out.gw S1.out.pn S1.out.le hka
 go_wp2_with fail
 refine cc.mono ?_
 rintro e w2 ⟨rfl,hp,hf⟩
 have S2:=Lib.hid (S1.out.step hp hf)
 clear cc hp hf y0 y1 y2 y3 hle hbl hml z0 z1 z2 z3 hgl hka hil
 have y0:=S2.out.c0
 have y1:=S2.out.c1
 have y2:=S2.out.c2
 have y3:=S2.out.c3
 rw [H_hkd.out] at y0
 have hle:=S2.out.le
 have hbl:=S2.out.bl
 have hml:=S2.out.ml
 have cc:=putAt S2.out.pn S2.out.le [[41]] (by simp) (len1 (by decide)) #[.string ⟨#[41]⟩] rfl
 go_wp2_with fail
 refine cc.mono ?_
 rintro e w3 ⟨rfl,hp,hf⟩
 have S3:=Lib.hid (S2.out.step hp hf)
 clear cc hp hf y0 y1 y2 y3 hle hbl hml
 have y0:=S3.out.c0
 have y1:=S3.out.c1
 have y2:=S3.out.c2
 have y3:=S3.out.c3
 rw [H_hkd.out] at y0
 have hle:=S3.out.le
 have hbl:=S3.out.bl
 have hml:=S3.out.ml
 go_wp2
 go_end0
 exact ⟨rfl,by rw [HT.out,puts_append,puts_append]; exact S3.out.pn,S3.out.fp⟩
set_option maxRecDepth 20000 in
set_option maxHeartbeats 400000 in
theorem expression_w53 {t : Tr} {a : Tr} (ha : t.kids[0]? = some a) {d : Tr} (hb1 : t.kids[1]? = some d) (hkd : t.kind = 53) (hlen : t.kids.length = 2) (htx : t.text.length ≤ 1000000) {tk0 tk1 : List Wd} (hI : Wr 22 a tk0) (hJ : Wr 22 d tk1) {tk : List Wd} (hT : tk = [[40]] ++ (tk0 ++ ([t.text] ++ (tk1 ++ [[41]])))) : Wr 22 t tk:=fun B b s w sl hG h hB hk => by
 obtain ⟨ao,c,rfl⟩ : ∃ ao c,sl = .slice ao 2 c:=by obtain ⟨ao,c,e⟩:=(Lst.kids hk).slice; exact ⟨ao,c,by rw [e,hlen]⟩
 have HT:=Lib.hid hT
 clear hT
 have H_hkd:=Lib.hid hkd
 clear hkd
 have H_hI:=Lib.hid hI
 clear hI
 have H_hJ:=Lib.hid hJ
 clear hJ
 have S0:=Lib.hid (Sw.start hG h hB hk)
 obtain ⟨g,o,rfl,hn0,hcc⟩:=S0.out.addr 0 ha
 clear hn0
 have HL:=Lib.hid (Lst.kids hk)
 obtain ⟨W0,hW⟩ : ∃ W,w.alloc (nbx t (.slice (some ⟨g,o,none⟩) 2 c)) = W:=⟨_,rfl⟩
 rw [hW] at S0
 have hW' : w.alloc (.cells #[.int .i64 t.kind,.string ⟨t.text.toArray⟩,.int .i64 t.num,.slice (some ⟨g,o,none⟩) 2 c] 24) = W0:=hW
 clear hW h hG hk
 generalize hm : w.heap.size = m at *
 have y0:=S0.out.c0
 have y1:=S0.out.c1
 have y2:=S0.out.c2
 have y3:=S0.out.c3
 rw [H_hkd.out] at y0
 have hle:=S0.out.le
 have hbl:=S0.out.bl
 have hml:=S0.out.ml
 go_enter Tryz.func22,Tryz.ntmps22
 have cc:=putAt S0.out.pn S0.out.le [[40]] (by simp) (len1 (by decide)) #[.string ⟨#[40]⟩] rfl
 go_wp2_with fail
 refine cc.mono ?_
 rintro e w1 ⟨rfl,hp,hf⟩
 have S1:=Lib.hid (S0.out.step hp hf)
 clear cc hp hf y0 y1 y2 y3 hle hbl hml
 have y0:=S1.out.c0
 have y1:=S1.out.c1
 have y2:=S1.out.c2
 have y3:=S1.out.c3
 rw [H_hkd.out] at y0
 have hle:=S1.out.le
 have hbl:=S1.out.bl
 have hml:=S1.out.ml
 obtain ⟨a0,n0,q0,z0,z1,z2,z3,hgl,hka⟩:=S1.out.kid 0 ha
 have hil : 0 < t.kids.length:=(List.getElem?_eq_some_iff.1 ha).1
 replace z0 : w1.cell? ⟨g,o,none⟩ = _:=z0
 replace z1 : w1.cell? ⟨g,o + 1,none⟩ = _:=z1
 replace z2 : w1.cell? ⟨g,o + 2,none⟩ = _:=z2
 replace z3 : w1.cell? ⟨g,o + 3,none⟩ = _:=z3
 have cc:=H_hI.out B b _ _ _ S1.out.gw S1.out.pn S1.out.le hka
 go_wp2_with fail
 refine cc.mono ?_
 rintro e w2 ⟨rfl,hp,hf⟩
 have S2:=Lib.hid (S1.out.step hp hf)
 clear cc hp hf y0 y1 y2 y3 hle hbl hml z0 z1 z2 z3 hgl hka hil
 have y0:=S2.out.c0
 have y1:=S2.out.c1
 have y2:=S2.out.c2
 have y3:=S2.out.c3
 rw [H_hkd.out] at y0
 have hle:=S2.out.le
 have hbl:=S2.out.bl
 have hml:=S2.out.ml
 have cc:=putAt S2.out.pn S2.out.le [t.text] (by simp) (len1 htx) #[.string ⟨t.text.toArray⟩] rfl
 go_wp2_with fail
 refine cc.mono ?_
 rintro e w3 ⟨rfl,hp,hf⟩
 have S3:=Lib.hid (S2.out.step hp hf)
 clear cc hp hf y0 y1 y2 y3 hle hbl hml
 have y0:=S3.out.c0
 have y1:=S3.out.c1
 have y2:=S3.out.c2
 have y3:=S3.out.c3
 rw [H_hkd.out] at y0
 have hle:=S3.out.le
 have hbl:=S3.out.bl
 have hml:=S3.out.ml
 obtain ⟨a0,n0,q0,z0,z1,z2,z3,hgl,hka⟩:=S3.out.kid 1 hb1
 have hil : 1 < t.kids.length:=(List.getElem?_eq_some_iff.1 hb1).1
 replace z0 : w3.cell? ⟨g,o + 4,none⟩ = _:=z0
 replace z1 : w3.cell? ⟨g,o + 5,none⟩ = _:=z1
 replace z2 : w3.cell? ⟨g,o + 6,none⟩ = _:=z2
 replace z3 : w3.cell? ⟨g,o + 7,none⟩ = _:=z3
 have cc:=H_hJ.out B b _ _ _ S3.out.gw S3.out.pn S3.out.le hka
 go_wp2_with fail
 refine cc.mono ?_
 rintro e w4 ⟨rfl,hp,hf⟩
 have S4:=Lib.hid (S3.out.step hp hf)
 clear cc hp hf y0 y1 y2 y3 hle hbl hml z0 z1 z2 z3 hgl hka hil
 have y0:=S4.out.c0
 have y1:=S4.out.c1
 have y2:=S4.out.c2
 have y3:=S4.out.c3
 rw [H_hkd.out] at y0
 have hle:=S4.out.le
 have hbl:=S4.out.bl
 have hml:=S4.out.ml
 have cc:=putAt S4.out.pn S4.out.le [[41]] (by simp) (len1 (by decide)) #[.string ⟨#[41]⟩] rfl
 go_wp2_with fail
 refine cc.mono ?_
 rintro e w5 ⟨rfl,hp,hf⟩
 have S5:=Lib.hid (S4.out.step hp hf)
 clear cc hp hf y0 y1 y2 y3 hle hbl hml
 have y0:=S5.out.c0
 have y1:=S5.out.c1
 have y2:=S5.out.c2
 have y3:=S5.out.c3
 rw [H_hkd.out] at y0
 have hle:=S5.out.le
 have hbl:=S5.out.bl
 have hml:=S5.out.ml
 go_wp2
 go_end0
 exact ⟨rfl,by rw [HT.out,puts_append,puts_append,puts_append,puts_append]; exact S5.out.pn,S5.out.fp⟩
set_option maxRecDepth 20000 in
set_option maxHeartbeats 400000 in
theorem expression_w48 {t : Tr} {a : Tr} (ha : t.kids[0]? = some a) (hkd : t.kind = 48) {tk0 tk1 : List Wd} (hI : Wr 22 a tk0) (hJ : Wr 50 t tk1) {tk : List Wd} (hT : tk = tk0 ++ tk1) : Wr 22 t tk:=fun B b s w sl hG h hB hk => by
 obtain ⟨ao,c,rfl⟩ : ∃ ao c,sl = .slice ao t.kids.length c:=(Lst.kids hk).slice
 have HT:=Lib.hid hT
 clear hT
 have H_hkd:=Lib.hid hkd
 clear hkd
 have H_hI:=Lib.hid hI
 clear hI
 have H_hJ:=Lib.hid hJ
 clear hJ
 have S0:=Lib.hid (Sw.start hG h hB hk)
 obtain ⟨g,o,rfl,hn0,hcc⟩:=S0.out.addr 0 ha
 clear hn0
 have HL:=Lib.hid (Lst.kids hk)
 obtain ⟨W0,hW⟩ : ∃ W,w.alloc (nbx t (.slice (some ⟨g,o,none⟩) t.kids.length c)) = W:=⟨_,rfl⟩
 rw [hW] at S0
 have hW' : w.alloc (.cells #[.int .i64 t.kind,.string ⟨t.text.toArray⟩,.int .i64 t.num,.slice (some ⟨g,o,none⟩) t.kids.length c] 24) = W0:=hW
 clear hW h hG hk
 generalize hm : w.heap.size = m at *
 have y0:=S0.out.c0
 have y1:=S0.out.c1
 have y2:=S0.out.c2
 have y3:=S0.out.c3
 rw [H_hkd.out] at y0
 have hle:=S0.out.le
 have hbl:=S0.out.bl
 have hml:=S0.out.ml
 go_enter Tryz.func22,Tryz.ntmps22
 obtain ⟨a0,n0,q0,z0,z1,z2,z3,hgl,hka⟩:=S0.out.kid 0 ha
 have hil : 0 < t.kids.length:=(List.getElem?_eq_some_iff.1 ha).1
 replace z0 : W0.cell? ⟨g,o,none⟩ = _:=z0
 replace z1 : W0.cell? ⟨g,o + 1,none⟩ = _:=z1
 replace z2 : W0.cell? ⟨g,o + 2,none⟩ = _:=z2
 replace z3 : W0.cell? ⟨g,o + 3,none⟩ = _:=z3
 have cc:=H_hI.out B b _ _ _ S0.out.gw S0.out.pn S0.out.le hka
 go_wp2_with fail
 refine cc.mono ?_
 rintro e w1 ⟨rfl,hp,hf⟩
 have S1:=Lib.hid (S0.out.step hp hf)
 clear cc hp hf y0 y1 y2 y3 hle hbl hml z0 z1 z2 z3 hgl hka hil
 have y0:=S1.out.c0
 have y1:=S1.out.c1
 have y2:=S1.out.c2
 have y3:=S1.out.c3
 rw [H_hkd.out] at y0
 have hle:=S1.out.le
 have hbl:=S1.out.bl
 have hml:=S1.out.ml
 have cc0:=H_hJ.out B b _ _ _ S1.out.gw S1.out.pn S1.out.le S1.out.kt
 rw [tv,H_hkd.out] at cc0
 have cc:=cc0
 go_wp2_with fail
 refine cc.mono ?_
 rintro e w2 ⟨rfl,hp,hf⟩
 have S2:=Lib.hid (S1.out.step hp hf)
 clear cc hp hf y0 y1 y2 y3 hle hbl hml cc0
 have y0:=S2.out.c0
 have y1:=S2.out.c1
 have y2:=S2.out.c2
 have y3:=S2.out.c3
 rw [H_hkd.out] at y0
 have hle:=S2.out.le
 have hbl:=S2.out.bl
 have hml:=S2.out.ml
 go_wp2
 go_end0
 exact ⟨rfl,by rw [HT.out,puts_append]; exact S2.out.pn,S2.out.fp⟩
set_option maxRecDepth 20000 in
set_option maxHeartbeats 400000 in
theorem expression_w49 {t : Tr} {a : Tr} (ha : t.kids[0]? = some a) (hkd : t.kind = 49) {tk0 tk1 : List Wd} (hI : Wr 22 a tk0) (hJ : Wr 50 t tk1) {tk : List Wd} (hT : tk = tk0 ++ tk1) : Wr 22 t tk:=fun B b s w sl hG h hB hk => by
 obtain ⟨ao,c,rfl⟩ : ∃ ao c,sl = .slice ao t.kids.length c:=(Lst.kids hk).slice
 have HT:=Lib.hid hT
 clear hT
 have H_hkd:=Lib.hid hkd
 clear hkd
 have H_hI:=Lib.hid hI
 clear hI
 have H_hJ:=Lib.hid hJ
 clear hJ
 have S0:=Lib.hid (Sw.start hG h hB hk)
 obtain ⟨g,o,rfl,hn0,hcc⟩:=S0.out.addr 0 ha
 clear hn0
 have HL:=Lib.hid (Lst.kids hk)
 obtain ⟨W0,hW⟩ : ∃ W,w.alloc (nbx t (.slice (some ⟨g,o,none⟩) t.kids.length c)) = W:=⟨_,rfl⟩
 rw [hW] at S0
 have hW' : w.alloc (.cells #[.int .i64 t.kind,.string ⟨t.text.toArray⟩,.int .i64 t.num,.slice (some ⟨g,o,none⟩) t.kids.length c] 24) = W0:=hW
 clear hW h hG hk
 generalize hm : w.heap.size = m at *
 have y0:=S0.out.c0
 have y1:=S0.out.c1
 have y2:=S0.out.c2
 have y3:=S0.out.c3
 rw [H_hkd.out] at y0
 have hle:=S0.out.le
 have hbl:=S0.out.bl
 have hml:=S0.out.ml
 go_enter Tryz.func22,Tryz.ntmps22
 obtain ⟨a0,n0,q0,z0,z1,z2,z3,hgl,hka⟩:=S0.out.kid 0 ha
 have hil : 0 < t.kids.length:=(List.getElem?_eq_some_iff.1 ha).1
 replace z0 : W0.cell? ⟨g,o,none⟩ = _:=z0
 replace z1 : W0.cell? ⟨g,o + 1,none⟩ = _:=z1
 replace z2 : W0.cell? ⟨g,o + 2,none⟩ = _:=z2
 replace z3 : W0.cell? ⟨g,o + 3,none⟩ = _:=z3
 have cc:=H_hI.out B b _ _ _ S0.out.gw S0.out.pn S0.out.le hka
 go_wp2_with fail
 refine cc.mono ?_
 rintro e w1 ⟨rfl,hp,hf⟩
 have S1:=Lib.hid (S0.out.step hp hf)
 clear cc hp hf y0 y1 y2 y3 hle hbl hml z0 z1 z2 z3 hgl hka hil
 have y0:=S1.out.c0
 have y1:=S1.out.c1
 have y2:=S1.out.c2
 have y3:=S1.out.c3
 rw [H_hkd.out] at y0
 have hle:=S1.out.le
 have hbl:=S1.out.bl
 have hml:=S1.out.ml
 have cc0:=H_hJ.out B b _ _ _ S1.out.gw S1.out.pn S1.out.le S1.out.kt
 rw [tv,H_hkd.out] at cc0
 have cc:=cc0
 go_wp2_with fail
 refine cc.mono ?_
 rintro e w2 ⟨rfl,hp,hf⟩
 have S2:=Lib.hid (S1.out.step hp hf)
 clear cc hp hf y0 y1 y2 y3 hle hbl hml cc0
 have y0:=S2.out.c0
 have y1:=S2.out.c1
 have y2:=S2.out.c2
 have y3:=S2.out.c3
 rw [H_hkd.out] at y0
 have hle:=S2.out.le
 have hbl:=S2.out.bl
 have hml:=S2.out.ml
 go_wp2
 go_end0
 exact ⟨rfl,by rw [HT.out,puts_append]; exact S2.out.pn,S2.out.fp⟩
set_option maxRecDepth 20000 in
set_option maxHeartbeats 400000 in
theorem expression_w50 {t : Tr} {a : Tr} (ha : t.kids[0]? = some a) (hkd : t.kind = 50) {tk0 tk1 : List Wd} (hI : Wr 22 a tk0) (hJ : Wr 50 t tk1) {tk : List Wd} (hT : tk = tk0 ++ tk1) : Wr 22 t tk:=fun B b s w sl hG h hB hk => by
 obtain ⟨ao,c,rfl⟩ : ∃ ao c,sl = .slice ao t.kids.length c:=(Lst.kids hk).slice
 have HT:=Lib.hid hT
 clear hT
 have H_hkd:=Lib.hid hkd
 clear hkd
 have H_hI:=Lib.hid hI
 clear hI
 have H_hJ:=Lib.hid hJ
 clear hJ
 have S0:=Lib.hid (Sw.start hG h hB hk)
 obtain ⟨g,o,rfl,hn0,hcc⟩:=S0.out.addr 0 ha
 clear hn0
 have HL:=Lib.hid (Lst.kids hk)
 obtain ⟨W0,hW⟩ : ∃ W,w.alloc (nbx t (.slice (some ⟨g,o,none⟩) t.kids.length c)) = W:=⟨_,rfl⟩
 rw [hW] at S0
 have hW' : w.alloc (.cells #[.int .i64 t.kind,.string ⟨t.text.toArray⟩,.int .i64 t.num,.slice (some ⟨g,o,none⟩) t.kids.length c] 24) = W0:=hW
 clear hW h hG hk
 generalize hm : w.heap.size = m at *
 have y0:=S0.out.c0
 have y1:=S0.out.c1
 have y2:=S0.out.c2
 have y3:=S0.out.c3
 rw [H_hkd.out] at y0
 have hle:=S0.out.le
 have hbl:=S0.out.bl
 have hml:=S0.out.ml
 go_enter Tryz.func22,Tryz.ntmps22
 obtain ⟨a0,n0,q0,z0,z1,z2,z3,hgl,hka⟩:=S0.out.kid 0 ha
 have hil : 0 < t.kids.length:=(List.getElem?_eq_some_iff.1 ha).1
 replace z0 : W0.cell? ⟨g,o,none⟩ = _:=z0
 replace z1 : W0.cell? ⟨g,o + 1,none⟩ = _:=z1
 replace z2 : W0.cell? ⟨g,o + 2,none⟩ = _:=z2
 replace z3 : W0.cell? ⟨g,o + 3,none⟩ = _:=z3
 have cc:=H_hI.out B b _ _ _ S0.out.gw S0.out.pn S0.out.le hka
 go_wp2_with fail
 refine cc.mono ?_
 rintro e w1 ⟨rfl,hp,hf⟩
 have S1:=Lib.hid (S0.out.step hp hf)
 clear cc hp hf y0 y1 y2 y3 hle hbl hml z0 z1 z2 z3 hgl hka hil
 have y0:=S1.out.c0
 have y1:=S1.out.c1
 have y2:=S1.out.c2
 have y3:=S1.out.c3
 rw [H_hkd.out] at y0
 have hle:=S1.out.le
 have hbl:=S1.out.bl
 have hml:=S1.out.ml
 have cc0:=H_hJ.out B b _ _ _ S1.out.gw S1.out.pn S1.out.le S1.out.kt
 rw [tv,H_hkd.out] at cc0
 have cc:=cc0
 go_wp2_with fail
 refine cc.mono ?_
 rintro e w2 ⟨rfl,hp,hf⟩
 have S2:=Lib.hid (S1.out.step hp hf)
 clear cc hp hf y0 y1 y2 y3 hle hbl hml cc0
 have y0:=S2.out.c0
 have y1:=S2.out.c1
 have y2:=S2.out.c2
 have y3:=S2.out.c3
 rw [H_hkd.out] at y0
 have hle:=S2.out.le
 have hbl:=S2.out.bl
 have hml:=S2.out.ml
 go_wp2
 go_end0
 exact ⟨rfl,by rw [HT.out,puts_append]; exact S2.out.pn,S2.out.fp⟩
set_option maxRecDepth 20000 in
set_option maxHeartbeats 400000 in
theorem expression_w51 {t : Tr} {a : Tr} (ha : t.kids[0]? = some a) (hkd : t.kind = 51) {tk0 tk1 : List Wd} (hI : Wr 22 a tk0) (hJ : Wr 50 t tk1) {tk : List Wd} (hT : tk = tk0 ++ tk1) : Wr 22 t tk:=fun B b s w sl hG h hB hk => by
 obtain ⟨ao,c,rfl⟩ : ∃ ao c,sl = .slice ao t.kids.length c:=(Lst.kids hk).slice
 have HT:=Lib.hid hT
 clear hT
 have H_hkd:=Lib.hid hkd
 clear hkd
 have H_hI:=Lib.hid hI
 clear hI
 have H_hJ:=Lib.hid hJ
 clear hJ
 have S0:=Lib.hid (Sw.start hG h hB hk)
 obtain ⟨g,o,rfl,hn0,hcc⟩:=S0.out.addr 0 ha
 clear hn0
 have HL:=Lib.hid (Lst.kids hk)
 obtain ⟨W0,hW⟩ : ∃ W,w.alloc (nbx t (.slice (some ⟨g,o,none⟩) t.kids.length c)) = W:=⟨_,rfl⟩
 rw [hW] at S0
 have hW' : w.alloc (.cells #[.int .i64 t.kind,.string ⟨t.text.toArray⟩,.int .i64 t.num,.slice (some ⟨g,o,none⟩) t.kids.length c] 24) = W0:=hW
 clear hW h hG hk
 generalize hm : w.heap.size = m at *
 have y0:=S0.out.c0
 have y1:=S0.out.c1
 have y2:=S0.out.c2
 have y3:=S0.out.c3
 rw [H_hkd.out] at y0
 have hle:=S0.out.le
 have hbl:=S0.out.bl
 have hml:=S0.out.ml
 go_enter Tryz.func22,Tryz.ntmps22
 obtain ⟨a0,n0,q0,z0,z1,z2,z3,hgl,hka⟩:=S0.out.kid 0 ha
 have hil : 0 < t.kids.length:=(List.getElem?_eq_some_iff.1 ha).1
 replace z0 : W0.cell? ⟨g,o,none⟩ = _:=z0
 replace z1 : W0.cell? ⟨g,o + 1,none⟩ = _:=z1
 replace z2 : W0.cell? ⟨g,o + 2,none⟩ = _:=z2
 replace z3 : W0.cell? ⟨g,o + 3,none⟩ = _:=z3
 have cc:=H_hI.out B b _ _ _ S0.out.gw S0.out.pn S0.out.le hka
 go_wp2_with fail
 refine cc.mono ?_
 rintro e w1 ⟨rfl,hp,hf⟩
 have S1:=Lib.hid (S0.out.step hp hf)
 clear cc hp hf y0 y1 y2 y3 hle hbl hml z0 z1 z2 z3 hgl hka hil
 have y0:=S1.out.c0
 have y1:=S1.out.c1
 have y2:=S1.out.c2
 have y3:=S1.out.c3
 rw [H_hkd.out] at y0
 have hle:=S1.out.le
 have hbl:=S1.out.bl
 have hml:=S1.out.ml
 have cc0:=H_hJ.out B b _ _ _ S1.out.gw S1.out.pn S1.out.le S1.out.kt
 rw [tv,H_hkd.out] at cc0
 have cc:=cc0
 go_wp2_with fail
 refine cc.mono ?_
 rintro e w2 ⟨rfl,hp,hf⟩
 have S2:=Lib.hid (S1.out.step hp hf)
 clear cc hp hf y0 y1 y2 y3 hle hbl hml cc0
 have y0:=S2.out.c0
 have y1:=S2.out.c1
 have y2:=S2.out.c2
 have y3:=S2.out.c3
 rw [H_hkd.out] at y0
 have hle:=S2.out.le
 have hbl:=S2.out.bl
 have hml:=S2.out.ml
 go_wp2
 go_end0
 exact ⟨rfl,by rw [HT.out,puts_append]; exact S2.out.pn,S2.out.fp⟩
set_option maxRecDepth 20000 in
set_option maxHeartbeats 400000 in
theorem expression_w40 {t : Tr} (hkd : t.kind = 40) {x : Wd} (hx : x.length ≤ 1000000) (hI : WrL t x) {tk : List Wd} (hT : tk = [x]) : Wr 22 t tk:=fun B b s w sl hG h hB hk => by
 obtain ⟨ao,c,rfl⟩ : ∃ ao c,sl = .slice ao t.kids.length c:=(Lst.kids hk).slice
 have HT:=Lib.hid hT
 clear hT
 have H_hkd:=Lib.hid hkd
 clear hkd
 have H_hI:=Lib.hid hI
 clear hI
 have S0:=Lib.hid (Sw.start hG h hB hk)
 have HL:=Lib.hid (Lst.kids hk)
 obtain ⟨W0,hW⟩ : ∃ W,w.alloc (nbx t (.slice ao t.kids.length c)) = W:=⟨_,rfl⟩
 rw [hW] at S0
 have hW' : w.alloc (.cells #[.int .i64 t.kind,.string ⟨t.text.toArray⟩,.int .i64 t.num,.slice ao t.kids.length c] 24) = W0:=hW
 clear hW h hG hk
 generalize hm : w.heap.size = m at *
 have y0:=S0.out.c0
 have y1:=S0.out.c1
 have y2:=S0.out.c2
 have y3:=S0.out.c3
 rw [H_hkd.out] at y0
 have hle:=S0.out.le
 have hbl:=S0.out.bl
 have hml:=S0.out.ml
 go_enter Tryz.func22,Tryz.ntmps22
 have cc0:=H_hI.out B _ _ S0.out.gw S0.out.le S0.out.kt
 rw [tv,H_hkd.out] at cc0
 go_wp2_with fail
 refine cc0.mono ?_
 rintro e w1 ⟨rfl,hb⟩
 have S1:=Lib.hid (S0.out.quiet hb)
 clear cc0 hb y0 y1 y2 y3 hle hbl hml
 have y0:=S1.out.c0
 have y1:=S1.out.c1
 have y2:=S1.out.c2
 have y3:=S1.out.c3
 rw [H_hkd.out] at y0
 have hle:=S1.out.le
 have hbl:=S1.out.bl
 have hml:=S1.out.ml
 have cc:=putAt S1.out.pn S1.out.le [x] (by simp) (len1 hx) #[.string ⟨x.toArray⟩] rfl
 go_wp2_with fail
 refine cc.mono ?_
 rintro e w2 ⟨rfl,hp,hf⟩
 have S2:=Lib.hid (S1.out.step hp hf)
 clear cc hp hf y0 y1 y2 y3 hle hbl hml
 have y0:=S2.out.c0
 have y1:=S2.out.c1
 have y2:=S2.out.c2
 have y3:=S2.out.c3
 rw [H_hkd.out] at y0
 have hle:=S2.out.le
 have hbl:=S2.out.bl
 have hml:=S2.out.ml
 go_wp2
 go_end0
 exact ⟨rfl,by rw [HT.out]; exact S2.out.pn,S2.out.fp⟩
set_option maxRecDepth 20000 in
set_option maxHeartbeats 400000 in
theorem expression_w41 {t : Tr} (hkd : t.kind = 41) {x : Wd} (hx : x.length ≤ 1000000) (hI : WrL t x) {tk : List Wd} (hT : tk = [x]) : Wr 22 t tk:=fun B b s w sl hG h hB hk => by
 obtain ⟨ao,c,rfl⟩ : ∃ ao c,sl = .slice ao t.kids.length c:=(Lst.kids hk).slice
 have HT:=Lib.hid hT
 clear hT
 have H_hkd:=Lib.hid hkd
 clear hkd
 have H_hI:=Lib.hid hI
 clear hI
 have S0:=Lib.hid (Sw.start hG h hB hk)
 have HL:=Lib.hid (Lst.kids hk)
 obtain ⟨W0,hW⟩ : ∃ W,w.alloc (nbx t (.slice ao t.kids.length c)) = W:=⟨_,rfl⟩
 rw [hW] at S0
 have hW' : w.alloc (.cells #[.int .i64 t.kind,.string ⟨t.text.toArray⟩,.int .i64 t.num,.slice ao t.kids.length c] 24) = W0:=hW
 clear hW h hG hk
 generalize hm : w.heap.size = m at *
 have y0:=S0.out.c0
 have y1:=S0.out.c1
 have y2:=S0.out.c2
 have y3:=S0.out.c3
 rw [H_hkd.out] at y0
 have hle:=S0.out.le
 have hbl:=S0.out.bl
 have hml:=S0.out.ml
 go_enter Tryz.func22,Tryz.ntmps22
 have cc0:=H_hI.out B _ _ S0.out.gw S0.out.le S0.out.kt
 rw [tv,H_hkd.out] at cc0
 go_wp2_with fail
 refine cc0.mono ?_
 rintro e w1 ⟨rfl,hb⟩
 have S1:=Lib.hid (S0.out.quiet hb)
 clear cc0 hb y0 y1 y2 y3 hle hbl hml
 have y0:=S1.out.c0
 have y1:=S1.out.c1
 have y2:=S1.out.c2
 have y3:=S1.out.c3
 rw [H_hkd.out] at y0
 have hle:=S1.out.le
 have hbl:=S1.out.bl
 have hml:=S1.out.ml
 have cc:=putAt S1.out.pn S1.out.le [x] (by simp) (len1 hx) #[.string ⟨x.toArray⟩] rfl
 go_wp2_with fail
 refine cc.mono ?_
 rintro e w2 ⟨rfl,hp,hf⟩
 have S2:=Lib.hid (S1.out.step hp hf)
 clear cc hp hf y0 y1 y2 y3 hle hbl hml
 have y0:=S2.out.c0
 have y1:=S2.out.c1
 have y2:=S2.out.c2
 have y3:=S2.out.c3
 rw [H_hkd.out] at y0
 have hle:=S2.out.le
 have hbl:=S2.out.bl
 have hml:=S2.out.ml
 go_wp2
 go_end0
 exact ⟨rfl,by rw [HT.out]; exact S2.out.pn,S2.out.fp⟩
set_option maxRecDepth 20000 in
set_option maxHeartbeats 400000 in
theorem expression_w42 {t : Tr} (hkd : t.kind = 42) {x : Wd} (hx : x.length ≤ 1000000) (hI : WrL t x) {tk : List Wd} (hT : tk = [x]) : Wr 22 t tk:=fun B b s w sl hG h hB hk => by
 obtain ⟨ao,c,rfl⟩ : ∃ ao c,sl = .slice ao t.kids.length c:=(Lst.kids hk).slice
 have HT:=Lib.hid hT
 clear hT
 have H_hkd:=Lib.hid hkd
 clear hkd
 have H_hI:=Lib.hid hI
 clear hI
 have S0:=Lib.hid (Sw.start hG h hB hk)
 have HL:=Lib.hid (Lst.kids hk)
 obtain ⟨W0,hW⟩ : ∃ W,w.alloc (nbx t (.slice ao t.kids.length c)) = W:=⟨_,rfl⟩
 rw [hW] at S0
 have hW' : w.alloc (.cells #[.int .i64 t.kind,.string ⟨t.text.toArray⟩,.int .i64 t.num,.slice ao t.kids.length c] 24) = W0:=hW
 clear hW h hG hk
 generalize hm : w.heap.size = m at *
 have y0:=S0.out.c0
 have y1:=S0.out.c1
 have y2:=S0.out.c2
 have y3:=S0.out.c3
 rw [H_hkd.out] at y0
 have hle:=S0.out.le
 have hbl:=S0.out.bl
 have hml:=S0.out.ml
 go_enter Tryz.func22,Tryz.ntmps22
 have cc0:=H_hI.out B _ _ S0.out.gw S0.out.le S0.out.kt
 rw [tv,H_hkd.out] at cc0
 go_wp2_with fail
 refine cc0.mono ?_
 rintro e w1 ⟨rfl,hb⟩
 have S1:=Lib.hid (S0.out.quiet hb)
 clear cc0 hb y0 y1 y2 y3 hle hbl hml
 have y0:=S1.out.c0
 have y1:=S1.out.c1
 have y2:=S1.out.c2
 have y3:=S1.out.c3
 rw [H_hkd.out] at y0
 have hle:=S1.out.le
 have hbl:=S1.out.bl
 have hml:=S1.out.ml
 have cc:=putAt S1.out.pn S1.out.le [x] (by simp) (len1 hx) #[.string ⟨x.toArray⟩] rfl
 go_wp2_with fail
 refine cc.mono ?_
 rintro e w2 ⟨rfl,hp,hf⟩
 have S2:=Lib.hid (S1.out.step hp hf)
 clear cc hp hf y0 y1 y2 y3 hle hbl hml
 have y0:=S2.out.c0
 have y1:=S2.out.c1
 have y2:=S2.out.c2
 have y3:=S2.out.c3
 rw [H_hkd.out] at y0
 have hle:=S2.out.le
 have hbl:=S2.out.bl
 have hml:=S2.out.ml
 go_wp2
 go_end0
 exact ⟨rfl,by rw [HT.out]; exact S2.out.pn,S2.out.fp⟩
set_option maxRecDepth 20000 in
set_option maxHeartbeats 400000 in
theorem expression_w43 {t : Tr} (hkd : t.kind = 43) {x : Wd} (hx : x.length ≤ 1000000) (hI : WrL t x) {tk : List Wd} (hT : tk = [x]) : Wr 22 t tk:=fun B b s w sl hG h hB hk => by
 obtain ⟨ao,c,rfl⟩ : ∃ ao c,sl = .slice ao t.kids.length c:=(Lst.kids hk).slice
 have HT:=Lib.hid hT
 clear hT
 have H_hkd:=Lib.hid hkd
 clear hkd
 have H_hI:=Lib.hid hI
 clear hI
 have S0:=Lib.hid (Sw.start hG h hB hk)
 have HL:=Lib.hid (Lst.kids hk)
 obtain ⟨W0,hW⟩ : ∃ W,w.alloc (nbx t (.slice ao t.kids.length c)) = W:=⟨_,rfl⟩
 rw [hW] at S0
 have hW' : w.alloc (.cells #[.int .i64 t.kind,.string ⟨t.text.toArray⟩,.int .i64 t.num,.slice ao t.kids.length c] 24) = W0:=hW
 clear hW h hG hk
 generalize hm : w.heap.size = m at *
 have y0:=S0.out.c0
 have y1:=S0.out.c1
 have y2:=S0.out.c2
 have y3:=S0.out.c3
 rw [H_hkd.out] at y0
 have hle:=S0.out.le
 have hbl:=S0.out.bl
 have hml:=S0.out.ml
 go_enter Tryz.func22,Tryz.ntmps22
 have cc0:=H_hI.out B _ _ S0.out.gw S0.out.le S0.out.kt
 rw [tv,H_hkd.out] at cc0
 go_wp2_with fail
 refine cc0.mono ?_
 rintro e w1 ⟨rfl,hb⟩
 have S1:=Lib.hid (S0.out.quiet hb)
 clear cc0 hb y0 y1 y2 y3 hle hbl hml
 have y0:=S1.out.c0
 have y1:=S1.out.c1
 have y2:=S1.out.c2
 have y3:=S1.out.c3
 rw [H_hkd.out] at y0
 have hle:=S1.out.le
 have hbl:=S1.out.bl
 have hml:=S1.out.ml
 have cc:=putAt S1.out.pn S1.out.le [x] (by simp) (len1 hx) #[.string ⟨x.toArray⟩] rfl
 go_wp2_with fail
 refine cc.mono ?_
 rintro e w2 ⟨rfl,hp,hf⟩
 have S2:=Lib.hid (S1.out.step hp hf)
 clear cc hp hf y0 y1 y2 y3 hle hbl hml
 have y0:=S2.out.c0
 have y1:=S2.out.c1
 have y2:=S2.out.c2
 have y3:=S2.out.c3
 rw [H_hkd.out] at y0
 have hle:=S2.out.le
 have hbl:=S2.out.bl
 have hml:=S2.out.ml
 go_wp2
 go_end0
 exact ⟨rfl,by rw [HT.out]; exact S2.out.pn,S2.out.fp⟩
set_option maxRecDepth 20000 in
set_option maxHeartbeats 400000 in
theorem expression_w44 {t : Tr} (hkd : t.kind = 44) {x : Wd} (hx : x.length ≤ 1000000) (hI : WrL t x) {tk : List Wd} (hT : tk = [x]) : Wr 22 t tk:=fun B b s w sl hG h hB hk => by
 obtain ⟨ao,c,rfl⟩ : ∃ ao c,sl = .slice ao t.kids.length c:=(Lst.kids hk).slice
 have HT:=Lib.hid hT
 clear hT
 have H_hkd:=Lib.hid hkd
 clear hkd
 have H_hI:=Lib.hid hI
 clear hI
 have S0:=Lib.hid (Sw.start hG h hB hk)
 have HL:=Lib.hid (Lst.kids hk)
 obtain ⟨W0,hW⟩ : ∃ W,w.alloc (nbx t (.slice ao t.kids.length c)) = W:=⟨_,rfl⟩
 rw [hW] at S0
 have hW' : w.alloc (.cells #[.int .i64 t.kind,.string ⟨t.text.toArray⟩,.int .i64 t.num,.slice ao t.kids.length c] 24) = W0:=hW
 clear hW h hG hk
 generalize hm : w.heap.size = m at *
 have y0:=S0.out.c0
 have y1:=S0.out.c1
 have y2:=S0.out.c2
 have y3:=S0.out.c3
 rw [H_hkd.out] at y0
 have hle:=S0.out.le
 have hbl:=S0.out.bl
 have hml:=S0.out.ml
 go_enter Tryz.func22,Tryz.ntmps22
 have cc0:=H_hI.out B _ _ S0.out.gw S0.out.le S0.out.kt
 rw [tv,H_hkd.out] at cc0
 go_wp2_with fail
 refine cc0.mono ?_
 rintro e w1 ⟨rfl,hb⟩
 have S1:=Lib.hid (S0.out.quiet hb)
 clear cc0 hb y0 y1 y2 y3 hle hbl hml
 have y0:=S1.out.c0
 have y1:=S1.out.c1
 have y2:=S1.out.c2
 have y3:=S1.out.c3
 rw [H_hkd.out] at y0
 have hle:=S1.out.le
 have hbl:=S1.out.bl
 have hml:=S1.out.ml
 have cc:=putAt S1.out.pn S1.out.le [x] (by simp) (len1 hx) #[.string ⟨x.toArray⟩] rfl
 go_wp2_with fail
 refine cc.mono ?_
 rintro e w2 ⟨rfl,hp,hf⟩
 have S2:=Lib.hid (S1.out.step hp hf)
 clear cc hp hf y0 y1 y2 y3 hle hbl hml
 have y0:=S2.out.c0
 have y1:=S2.out.c1
 have y2:=S2.out.c2
 have y3:=S2.out.c3
 rw [H_hkd.out] at y0
 have hle:=S2.out.le
 have hbl:=S2.out.bl
 have hml:=S2.out.ml
 go_wp2
 go_end0
 exact ⟨rfl,by rw [HT.out]; exact S2.out.pn,S2.out.fp⟩
set_option maxRecDepth 20000 in
set_option maxHeartbeats 400000 in
theorem declaration_w2 {t : Tr} (hkd : t.kind = 2) (htx : t.text.length ≤ 1000000) (hn : t.kids.length ≤ 20000) {pr : Tr → List Wd} (hI : ∀ a ∈ t.kids,Wr 63 a (pr a)) {tk : List Wd} (hT : tk = [[116,121,112,101],t.text,[115,116,114,117,99,116]] ++ membersT pr t.kids) : Wr 31 t tk:=fun B b s w sl hG h hB hk => by
 obtain ⟨ao,c,rfl⟩ : ∃ ao c,sl = .slice ao t.kids.length c:=(Lst.kids hk).slice
 have HT:=Lib.hid hT
 clear hT
 have H_hkd:=Lib.hid hkd
 clear hkd
 have H_hI:=Lib.hid hI
 clear hI
 have S0:=Lib.hid (Sw.start hG h hB hk)
 have HL:=Lib.hid (Lst.kids hk)
 obtain ⟨W0,hW⟩ : ∃ W,w.alloc (nbx t (.slice ao t.kids.length c)) = W:=⟨_,rfl⟩
 rw [hW] at S0
 have hW' : w.alloc (.cells #[.int .i64 t.kind,.string ⟨t.text.toArray⟩,.int .i64 t.num,.slice ao t.kids.length c] 24) = W0:=hW
 clear hW h hG hk
 generalize hm : w.heap.size = m at *
 have y0:=S0.out.c0
 have y1:=S0.out.c1
 have y2:=S0.out.c2
 have y3:=S0.out.c3
 rw [H_hkd.out] at y0
 have hle:=S0.out.le
 have hbl:=S0.out.bl
 have hml:=S0.out.ml
 go_enter Tryz.func31,Tryz.ntmps31
 have cc:=putAt S0.out.pn S0.out.le [[116,121,112,101],t.text,[115,116,114,117,99,116]] (by simp) (len3 (by decide) htx (by decide)) #[.string ⟨#[116,121,112,101]⟩,.string ⟨t.text.toArray⟩,.string ⟨#[115,116,114,117,99,116]⟩] rfl
 go_wp2_with fail
 refine cc.mono ?_
 rintro e w1 ⟨rfl,hp,hf⟩
 have S1:=Lib.hid (S0.out.step hp hf)
 clear cc hp hf y0 y1 y2 y3 hle hbl hml
 have y0:=S1.out.c0
 have y1:=S1.out.c1
 have y2:=S1.out.c2
 have y3:=S1.out.c3
 rw [H_hkd.out] at y0
 have hle:=S1.out.le
 have hbl:=S1.out.bl
 have hml:=S1.out.ml
 have cc:=membersW enP_field pr B b _ _ (t.kids) (.slice ao t.kids.length c) S1.out.gw S1.out.pn S1.out.le (lst_below HL.out S1.out.fp.below) hn H_hI.out
 go_wp2_with fail
 refine cc.mono ?_
 rintro e w2 ⟨rfl,hp,hf⟩
 have S2:=Lib.hid (S1.out.step hp hf)
 clear cc hp hf y0 y1 y2 y3 hle hbl hml
 have y0:=S2.out.c0
 have y1:=S2.out.c1
 have y2:=S2.out.c2
 have y3:=S2.out.c3
 rw [H_hkd.out] at y0
 have hle:=S2.out.le
 have hbl:=S2.out.bl
 have hml:=S2.out.ml
 go_wp2
 go_end0
 exact ⟨rfl,by rw [HT.out,puts_append]; exact S2.out.pn,S2.out.fp⟩
set_option maxRecDepth 20000 in
set_option maxHeartbeats 400000 in
theorem declaration_w3 {t : Tr} (hkd : t.kind = 3) (htx : t.text.length ≤ 1000000) (hn : t.kids.length ≤ 20000) {pr : Tr → List Wd} (hI : ∀ a ∈ t.kids,Wr 64 a (pr a)) {tk : List Wd} (hT : tk = [[116,121,112,101],t.text,[105,110,116,101,114,102,97,99,101]] ++ membersT pr t.kids) : Wr 31 t tk:=fun B b s w sl hG h hB hk => by
 obtain ⟨ao,c,rfl⟩ : ∃ ao c,sl = .slice ao t.kids.length c:=(Lst.kids hk).slice
 have HT:=Lib.hid hT
 clear hT
 have H_hkd:=Lib.hid hkd
 clear hkd
 have H_hI:=Lib.hid hI
 clear hI
 have S0:=Lib.hid (Sw.start hG h hB hk)
 have HL:=Lib.hid (Lst.kids hk)
 obtain ⟨W0,hW⟩ : ∃ W,w.alloc (nbx t (.slice ao t.kids.length c)) = W:=⟨_,rfl⟩
 rw [hW] at S0
 have hW' : w.alloc (.cells #[.int .i64 t.kind,.string ⟨t.text.toArray⟩,.int .i64 t.num,.slice ao t.kids.length c] 24) = W0:=hW
 clear hW h hG hk
 generalize hm : w.heap.size = m at *
 have y0:=S0.out.c0
 have y1:=S0.out.c1
 have y2:=S0.out.c2
 have y3:=S0.out.c3
 rw [H_hkd.out] at y0
 have hle:=S0.out.le
 have hbl:=S0.out.bl
 have hml:=S0.out.ml
 go_enter Tryz.func31,Tryz.ntmps31
 have cc:=putAt S0.out.pn S0.out.le [[116,121,112,101],t.text,[105,110,116,101,114,102,97,99,101]] (by simp) (len3 (by decide) htx (by decide)) #[.string ⟨#[116,121,112,101]⟩,.string ⟨t.text.toArray⟩,.string ⟨#[105,110,116,101,114,102,97,99,101]⟩] rfl
 go_wp2_with fail
 refine cc.mono ?_
 rintro e w1 ⟨rfl,hp,hf⟩
 have S1:=Lib.hid (S0.out.step hp hf)
 clear cc hp hf y0 y1 y2 y3 hle hbl hml
 have y0:=S1.out.c0
 have y1:=S1.out.c1
 have y2:=S1.out.c2
 have y3:=S1.out.c3
 rw [H_hkd.out] at y0
 have hle:=S1.out.le
 have hbl:=S1.out.bl
 have hml:=S1.out.ml
 have cc:=membersW enP_method pr B b _ _ (t.kids) (.slice ao t.kids.length c) S1.out.gw S1.out.pn S1.out.le (lst_below HL.out S1.out.fp.below) hn H_hI.out
 go_wp2_with fail
 refine cc.mono ?_
 rintro e w2 ⟨rfl,hp,hf⟩
 have S2:=Lib.hid (S1.out.step hp hf)
 clear cc hp hf y0 y1 y2 y3 hle hbl hml
 have y0:=S2.out.c0
 have y1:=S2.out.c1
 have y2:=S2.out.c2
 have y3:=S2.out.c3
 rw [H_hkd.out] at y0
 have hle:=S2.out.le
 have hbl:=S2.out.bl
 have hml:=S2.out.ml
 go_wp2
 go_end0
 exact ⟨rfl,by rw [HT.out,puts_append]; exact S2.out.pn,S2.out.fp⟩
set_option maxRecDepth 20000 in
set_option maxHeartbeats 400000 in
theorem declaration_w4 {t : Tr} {a : Tr} (ha : t.kids[0]? = some a) {d : Tr} (hb1 : t.kids[1]? = some d) (hkd : t.kind = 4) (hlen : t.kids.length = 2) (htx : t.text.length ≤ 1000000) {tk0 tk1 : List Wd} (hI : Wr 48 a tk0) (hJ : Wr 49 d tk1) {tk : List Wd} (hT : tk = [[102,117,110,99],t.text] ++ (tk0 ++ tk1)) : Wr 31 t tk:=fun B b s w sl hG h hB hk => by
 obtain ⟨ao,c,rfl⟩ : ∃ ao c,sl = .slice ao 2 c:=by obtain ⟨ao,c,e⟩:=(Lst.kids hk).slice; exact ⟨ao,c,by rw [e,hlen]⟩
 have HT:=Lib.hid hT
 clear hT
 have H_hkd:=Lib.hid hkd
 clear hkd
 have H_hI:=Lib.hid hI
 clear hI
 have H_hJ:=Lib.hid hJ
 clear hJ
 have S0:=Lib.hid (Sw.start hG h hB hk)
 obtain ⟨g,o,rfl,hn0,hcc⟩:=S0.out.addr 0 ha
 clear hn0
 have HL:=Lib.hid (Lst.kids hk)
 obtain ⟨W0,hW⟩ : ∃ W,w.alloc (nbx t (.slice (some ⟨g,o,none⟩) 2 c)) = W:=⟨_,rfl⟩
 rw [hW] at S0
 have hW' : w.alloc (.cells #[.int .i64 t.kind,.string ⟨t.text.toArray⟩,.int .i64 t.num,.slice (some ⟨g,o,none⟩) 2 c] 24) = W0:=hW
 clear hW h hG hk
 generalize hm : w.heap.size = m at *
 have y0:=S0.out.c0
 have y1:=S0.out.c1
 have y2:=S0.out.c2
 have y3:=S0.out.c3
 rw [H_hkd.out] at y0
 have hle:=S0.out.le
 have hbl:=S0.out.bl
 have hml:=S0.out.ml
 go_enter Tryz.func31,Tryz.ntmps31
 have cc:=putAt S0.out.pn S0.out.le [[102,117,110,99],t.text] (by simp) (len2 (by decide) htx) #[.string ⟨#[102,117,110,99]⟩,.string ⟨t.text.toArray⟩] rfl
 go_wp2_with fail
 refine cc.mono ?_
 rintro e w1 ⟨rfl,hp,hf⟩
 have S1:=Lib.hid (S0.out.step hp hf)
 clear cc hp hf y0 y1 y2 y3 hle hbl hml
 have y0:=S1.out.c0
 have y1:=S1.out.c1
 have y2:=S1.out.c2
 have y3:=S1.out.c3
 rw [H_hkd.out] at y0
 have hle:=S1.out.le
 have hbl:=S1.out.bl
 have hml:=S1.out.ml
 obtain ⟨a0,n0,q0,z0,z1,z2,z3,hgl,hka⟩:=S1.out.kid 0 ha
 have hil : 0 < t.kids.length:=(List.getElem?_eq_some_iff.1 ha).1
 replace z0 : w1.cell? ⟨g,o,none⟩ = _:=z0
 replace z1 : w1.cell? ⟨g,o + 1,none⟩ = _:=z1
 replace z2 : w1.cell? ⟨g,o + 2,none⟩ = _:=z2
 replace z3 : w1.cell? ⟨g,o + 3,none⟩ = _:=z3
 have cc:=H_hI.out B b _ _ _ S1.out.gw S1.out.pn S1.out.le hka
 go_wp2_with fail
 refine cc.mono ?_
 rintro e w2 ⟨rfl,hp,hf⟩
 have S2:=Lib.hid (S1.out.step hp hf)
 clear cc hp hf y0 y1 y2 y3 hle hbl hml z0 z1 z2 z3 hgl hka hil
 have y0:=S2.out.c0
 have y1:=S2.out.c1
 have y2:=S2.out.c2
 have y3:=S2.out.c3
 rw [H_hkd.out] at y0
 have hle:=S2.out.le
 have hbl:=S2.out.bl
 have hml:=S2.out.ml
 obtain ⟨a0,n0,q0,z0,z1,z2,z3,hgl,hka⟩:=S2.out.kid 1 hb1
 have hil : 1 < t.kids.length:=(List.getElem?_eq_some_iff.1 hb1).1
 replace z0 : w2.cell? ⟨g,o + 4,none⟩ = _:=z0
 replace z1 : w2.cell? ⟨g,o + 5,none⟩ = _:=z1
 replace z2 : w2.cell? ⟨g,o + 6,none⟩ = _:=z2
 replace z3 : w2.cell? ⟨g,o + 7,none⟩ = _:=z3
 have cc:=H_hJ.out B b _ _ _ S2.out.gw S2.out.pn S2.out.le hka
 go_wp2_with fail
 refine cc.mono ?_
 rintro e w3 ⟨rfl,hp,hf⟩
 have S3:=Lib.hid (S2.out.step hp hf)
 clear cc hp hf y0 y1 y2 y3 hle hbl hml z0 z1 z2 z3 hgl hka hil
 have y0:=S3.out.c0
 have y1:=S3.out.c1
 have y2:=S3.out.c2
 have y3:=S3.out.c3
 rw [H_hkd.out] at y0
 have hle:=S3.out.le
 have hbl:=S3.out.bl
 have hml:=S3.out.ml
 go_wp2
 go_end0
 exact ⟨rfl,by rw [HT.out,puts_append,puts_append]; exact S3.out.pn,S3.out.fp⟩
set_option maxRecDepth 20000 in
set_option maxHeartbeats 400000 in
theorem declaration_w5 {t : Tr} {a : Tr} (ha : t.kids[0]? = some a) {d x : Tr} (hb1 : t.kids[1]? = some d) (hc1 : t.kids[2]? = some x) (hkd : t.kind = 5) (hlen : t.kids.length = 3) (htx : t.text.length ≤ 1000000) {pr : Tr → List Wd} {tk0 tk1 : List Wd} (hR : Wr 66 a (pr a)) (hI : Wr 48 d tk0) (hJ : Wr 49 x tk1) {tk : List Wd} (hT : tk = [[102,117,110,99]] ++ (listedT [40] [41] pr [a] ++ ([t.text] ++ (tk0 ++ tk1)))) : Wr 31 t tk:=fun B b s w sl hG h hB hk => by
 obtain ⟨ao,c,rfl⟩ : ∃ ao c,sl = .slice ao 3 c:=by obtain ⟨ao,c,e⟩:=(Lst.kids hk).slice; exact ⟨ao,c,by rw [e,hlen]⟩
 have HT:=Lib.hid hT
 clear hT
 have H_hkd:=Lib.hid hkd
 clear hkd
 have H_hI:=Lib.hid hI
 clear hI
 have H_hJ:=Lib.hid hJ
 clear hJ
 have H_hR:=Lib.hid hR
 clear hR
 have S0:=Lib.hid (Sw.start hG h hB hk)
 obtain ⟨g,o,rfl,hn0,hcc⟩:=S0.out.addr 0 ha
 clear hn0
 have HL:=Lib.hid (Lst.kids hk)
 have HL1 : Hid (Lst w (· < B) [a] (.slice (some ⟨g,o,none⟩) 1 c)):=by
  have hL:=HL.out
  rw [← hlen] at hL
  have e1 : t.kids.take 1 = [a]:=by rw [List.take_add_one,ha]; rfl
  rcases hL.cut (k:=1) (by omega) with ⟨h0,_⟩ | ⟨g2,o2,e,_,_,L1,_⟩ | ⟨g2,o2,e,h1,_,_⟩
  · rw [h0] at hlen; cases hlen
  · cases e; rw [← e1]; exact L1
  · omega
 obtain ⟨W0,hW⟩ : ∃ W,w.alloc (nbx t (.slice (some ⟨g,o,none⟩) 3 c)) = W:=⟨_,rfl⟩
 rw [hW] at S0
 have hW' : w.alloc (.cells #[.int .i64 t.kind,.string ⟨t.text.toArray⟩,.int .i64 t.num,.slice (some ⟨g,o,none⟩) 3 c] 24) = W0:=hW
 clear hW h hG hk
 generalize hm : w.heap.size = m at *
 have y0:=S0.out.c0
 have y1:=S0.out.c1
 have y2:=S0.out.c2
 have y3:=S0.out.c3
 rw [H_hkd.out] at y0
 have hle:=S0.out.le
 have hbl:=S0.out.bl
 have hml:=S0.out.ml
 go_enter Tryz.func31,Tryz.ntmps31
 have cc:=putAt S0.out.pn S0.out.le [[102,117,110,99]] (by simp) (len1 (by decide)) #[.string ⟨#[102,117,110,99]⟩] rfl
 go_wp2_with fail
 refine cc.mono ?_
 rintro e w1 ⟨rfl,hp,hf⟩
 have S1:=Lib.hid (S0.out.step hp hf)
 clear cc hp hf y0 y1 y2 y3 hle hbl hml
 have y0:=S1.out.c0
 have y1:=S1.out.c1
 have y2:=S1.out.c2
 have y3:=S1.out.c3
 rw [H_hkd.out] at y0
 have hle:=S1.out.le
 have hbl:=S1.out.bl
 have hml:=S1.out.ml
 have cc:=listedW enP_parameter pr [40] [41] (by decide) (by decide) B b _ _ ([a]) (.slice (some ⟨g,o,none⟩) 1 c) S1.out.gw S1.out.pn S1.out.le (lst_below HL1.out S1.out.fp.below) (by simp) (by simpa using H_hR.out)
 go_wp2_with fail
 refine cc.mono ?_
 rintro e w2 ⟨rfl,hp,hf⟩
 have S2:=Lib.hid (S1.out.step hp hf)
 clear cc hp hf y0 y1 y2 y3 hle hbl hml
 have y0:=S2.out.c0
 have y1:=S2.out.c1
 have y2:=S2.out.c2
 have y3:=S2.out.c3
 rw [H_hkd.out] at y0
 have hle:=S2.out.le
 have hbl:=S2.out.bl
 have hml:=S2.out.ml
 have cc:=putAt S2.out.pn S2.out.le [t.text] (by simp) (len1 htx) #[.string ⟨t.text.toArray⟩] rfl
 go_wp2_with fail
 refine cc.mono ?_
 rintro e w3 ⟨rfl,hp,hf⟩
 have S3:=Lib.hid (S2.out.step hp hf)
 clear cc hp hf y0 y1 y2 y3 hle hbl hml
 have y0:=S3.out.c0
 have y1:=S3.out.c1
 have y2:=S3.out.c2
 have y3:=S3.out.c3
 rw [H_hkd.out] at y0
 have hle:=S3.out.le
 have hbl:=S3.out.bl
 have hml:=S3.out.ml
 obtain ⟨a0,n0,q0,z0,z1,z2,z3,hgl,hka⟩:=S3.out.kid 1 hb1
 have hil : 1 < t.kids.length:=(List.getElem?_eq_some_iff.1 hb1).1
 replace z0 : w3.cell? ⟨g,o + 4,none⟩ = _:=z0
 replace z1 : w3.cell? ⟨g,o + 5,none⟩ = _:=z1
 replace z2 : w3.cell? ⟨g,o + 6,none⟩ = _:=z2
 replace z3 : w3.cell? ⟨g,o + 7,none⟩ = _:=z3
 have cc:=H_hI.out B b _ _ _ S3.out.gw S3.out.pn S3.out.le hka
 go_wp2_with fail
 refine cc.mono ?_
 rintro e w4 ⟨rfl,hp,hf⟩
 have S4:=Lib.hid (S3.out.step hp hf)
 clear cc hp hf y0 y1 y2 y3 hle hbl hml z0 z1 z2 z3 hgl hka hil
 have y0:=S4.out.c0
 have y1:=S4.out.c1
 have y2:=S4.out.c2
 have y3:=S4.out.c3
 rw [H_hkd.out] at y0
 have hle:=S4.out.le
 have hbl:=S4.out.bl
 have hml:=S4.out.ml
 obtain ⟨a0,n0,q0,z0,z1,z2,z3,hgl,hka⟩:=S4.out.kid 2 hc1
 have hil : 2 < t.kids.length:=(List.getElem?_eq_some_iff.1 hc1).1
 replace z0 : w4.cell? ⟨g,o + 8,none⟩ = _:=z0
 replace z1 : w4.cell? ⟨g,o + 9,none⟩ = _:=z1
 replace z2 : w4.cell? ⟨g,o + 10,none⟩ = _:=z2
 replace z3 : w4.cell? ⟨g,o + 11,none⟩ = _:=z3
 have cc:=H_hJ.out B b _ _ _ S4.out.gw S4.out.pn S4.out.le hka
 go_wp2_with fail
 refine cc.mono ?_
 rintro e w5 ⟨rfl,hp,hf⟩
 have S5:=Lib.hid (S4.out.step hp hf)
 clear cc hp hf y0 y1 y2 y3 hle hbl hml z0 z1 z2 z3 hgl hka hil
 have y0:=S5.out.c0
 have y1:=S5.out.c1
 have y2:=S5.out.c2
 have y3:=S5.out.c3
 rw [H_hkd.out] at y0
 have hle:=S5.out.le
 have hbl:=S5.out.bl
 have hml:=S5.out.ml
 go_wp2
 go_end0
 exact ⟨rfl,by rw [HT.out,puts_append,puts_append,puts_append,puts_append]; exact S5.out.pn,S5.out.fp⟩
set_option maxRecDepth 20000 in
set_option maxHeartbeats 400000 in
theorem program_w {t : Tr} (hn : t.kids.length ≤ 20000) {pr : Tr → List Wd} (hI : ∀ a ∈ t.kids,Wr 31 a (pr a)) {tk : List Wd} (hT : tk = t.kids.flatMap pr) : Wr 16 t tk:=fun B b s w sl hG h hB hk => by
 obtain ⟨ao,c,rfl⟩ : ∃ ao c,sl = .slice ao t.kids.length c:=(Lst.kids hk).slice
 have HT:=Lib.hid hT
 clear hT
 have H_hI:=Lib.hid hI
 clear hI
 have S0:=Lib.hid (Sw.start hG h hB hk)
 have HL:=Lib.hid (Lst.kids hk)
 obtain ⟨W0,hW⟩ : ∃ W,w.alloc (nbx t (.slice ao t.kids.length c)) = W:=⟨_,rfl⟩
 rw [hW] at S0
 have hW' : w.alloc (.cells #[.int .i64 t.kind,.string ⟨t.text.toArray⟩,.int .i64 t.num,.slice ao t.kids.length c] 24) = W0:=hW
 clear hW h hG hk
 generalize hm : w.heap.size = m at *
 have y0:=S0.out.c0
 have y1:=S0.out.c1
 have y2:=S0.out.c2
 have y3:=S0.out.c3
 have hle:=S0.out.le
 have hbl:=S0.out.bl
 have hml:=S0.out.ml
 go_enter Tryz.func16,Tryz.ntmps16
 have cc:=eachW enP_declaration pr B b _ _ (t.kids) (.slice ao t.kids.length c) S0.out.gw S0.out.pn S0.out.le (lst_below HL.out S0.out.fp.below) hn H_hI.out
 go_wp2_with fail
 refine cc.mono ?_
 rintro e w1 ⟨rfl,hp,hf⟩
 have S1:=Lib.hid (S0.out.step hp hf)
 clear cc hp hf y0 y1 y2 y3 hle hbl hml
 have y0:=S1.out.c0
 have y1:=S1.out.c1
 have y2:=S1.out.c2
 have y3:=S1.out.c3
 have hle:=S1.out.le
 have hbl:=S1.out.bl
 have hml:=S1.out.ml
 go_wp2
 go_end0
 exact ⟨rfl,by rw [HT.out]; exact S1.out.pn,S1.out.fp⟩
end Go.Proofs.YtffnaknidofobaaGreatDoor
