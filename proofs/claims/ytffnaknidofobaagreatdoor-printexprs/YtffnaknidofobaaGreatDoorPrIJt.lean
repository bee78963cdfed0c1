/- The printer: assignments, statements. -/
import Derived.Test.YtffnaknidofobaaGreatDoorPrHJt
namespace Go.Proofs.YtffnaknidofobaaGreatDoor
open Go.RowKit
/-- assigned writes these tokens of that tree, with that mark. -/
def WrM (t : Tr) (mark : Wd) (tk : List Wd) : Prop:=∀ (B b : Nat) (s : PS) (w : World) (sl : Value),Gw B w → Pn B b s w → B ≤ w.heap.size → KT w (· < B) t sl →
  Calls Tryz.prog 151 #[.pointer (some ⟨b,0,none⟩),tv t sl,.string ⟨mark.toArray⟩] w (OutW B b s tk w)
set_option maxRecDepth 20000 in
set_option maxHeartbeats 400000 in
theorem assigned_w {t a : Tr} {k : Nat} {mark : Wd} {pr : Tr → List Wd} (hmk : mark.length ≤ 1000000) (ha : t.kids[0]? = some a) (hnum : t.num = k) (hkl : k < t.kids.length) (hn : t.kids.length ≤ 20000) (hI : ∀ a ∈ t.kids,Wr 22 a (pr a)) {tk : List Wd} (hT : tk = commasT pr (t.kids.take k) ++ ([mark] ++ commasT pr (t.kids.drop k))) : WrM t mark tk:=fun B b s w sl hG h hB hk => by
 obtain ⟨ao,c,rfl⟩ : ∃ ao c,sl = .slice ao t.kids.length c:=(Lst.kids hk).slice
 have HT:=Lib.hid hT
 clear hT
 have H_hnum:=Lib.hid hnum
 clear hnum
 have H_hI:=Lib.hid hI
 clear hI
 have S0:=Lib.hid (Sw.start hG h hB hk)
 obtain ⟨g,o,rfl,hn0,hcc⟩:=S0.out.addr 0 ha
 clear hn0
 have HL:=Lib.hid (Lst.kids hk)
 obtain ⟨hck,HL1,HL2⟩ : k < c ∧ Hid (Lst w (· < B) (t.kids.take k) (.slice (some ⟨g,o,none⟩) k c)) ∧ Hid (Lst w (· < B) (t.kids.drop k) (.slice (some ⟨g,o + k * 4,none⟩) (t.kids.length - k) (c - k))):=by
  rcases HL.out.cut (k:=k) (by omega) with ⟨h0,_⟩ | ⟨g2,o2,e,h1,_,L1,L2⟩ | ⟨g2,o2,e,h1,_,_⟩
  · rw [h0] at hkl; cases hkl
  · cases e; exact ⟨h1,L1,L2⟩
  · omega
 have hck0 : (c - k == 0) = false:=by simp; omega
 have hn1 : (t.kids.take k).length ≤ 20000:=by simp; omega
 have hn2 : (t.kids.drop k).length ≤ 20000:=by simp; omega
 obtain ⟨W0,hW⟩ : ∃ W,w.alloc (nbx t (.slice (some ⟨g,o,none⟩) t.kids.length c)) = W:=⟨_,rfl⟩
 rw [hW] at S0
 have hW' : w.alloc (.cells #[.int .i64 t.kind,.string ⟨t.text.toArray⟩,.int .i64 t.num,.slice (some ⟨g,o,none⟩) t.kids.length c] 24) = W0:=hW
 clear hW h hG hk
 generalize hm : w.heap.size = m at *
 have y0:=S0.out.c0
 have y1:=S0.out.c1
 have y2:=S0.out.c2
 have y3:=S0.out.c3
 rw [H_hnum.out] at y2
 have hle:=S0.out.le
 have hbl:=S0.out.bl
 have hml:=S0.out.ml
 go_enter Tryz.func151,Tryz.ntmps151
 have cc:=commasW enP_expression pr B b _ _ (t.kids.take k) (.slice (some ⟨g,o,none⟩) k c) S0.out.gw S0.out.pn S0.out.le (lst_below HL1.out S0.out.fp.below) hn1 (fun a h => H_hI.out a (List.mem_of_mem_take h))
 go_wp2_with fail
 refine cc.mono ?_
 rintro e w1 ⟨rfl,hp,hf⟩
 have S1:=Lib.hid (S0.out.step hp hf)
 clear cc hp hf y0 y1 y2 y3 hle hbl hml
 have y0:=S1.out.c0
 have y1:=S1.out.c1
 have y2:=S1.out.c2
 have y3:=S1.out.c3
 rw [H_hnum.out] at y2
 have hle:=S1.out.le
 have hbl:=S1.out.bl
 have hml:=S1.out.ml
 have cc:=putAt S1.out.pn S1.out.le [mark] (by simp) (len1 hmk) #[.string ⟨mark.toArray⟩] rfl
 go_wp2_with fail
 refine cc.mono ?_
 rintro e w2 ⟨rfl,hp,hf⟩
 have S2:=Lib.hid (S1.out.step hp hf)
 clear cc hp hf y0 y1 y2 y3 hle hbl hml
 have y0:=S2.out.c0
 have y1:=S2.out.c1
 have y2:=S2.out.c2
 have y3:=S2.out.c3
 rw [H_hnum.out] at y2
 have hle:=S2.out.le
 have hbl:=S2.out.bl
 have hml:=S2.out.ml
 have cc:=commasW enP_expression pr B b _ _ (t.kids.drop k) (.slice (some ⟨g,o + k * 4,none⟩) (t.kids.length - k) (c - k)) S2.out.gw S2.out.pn S2.out.le (lst_below HL2.out S2.out.fp.below) hn2 (fun a h => H_hI.out a (List.mem_of_mem_drop h))
 go_wp2_with fail
 refine cc.mono ?_
 rintro e w3 ⟨rfl,hp,hf⟩
 have S3:=Lib.hid (S2.out.step hp hf)
 clear cc hp hf y0 y1 y2 y3 hle hbl hml
 have y0:=S3.out.c0
 have y1:=S3.out.c1
 have y2:=S3.out.c2
 have y3:=S3.out.c3
 rw [H_hnum.out] at y2
 have hle:=S3.out.le
 have hbl:=S3.out.bl
 have hml:=S3.out.ml
 go_wp2
 go_end0
 exact ⟨rfl,by rw [HT.out,puts_append,puts_append]; exact S3.out.pn,S3.out.fp⟩
set_option maxRecDepth 20000 in
set_option maxHeartbeats 400000 in
theorem simple_w21 {t : Tr} (hkd : t.kind = 21) {tk0 : List Wd} (hI : Wr 150 t tk0) {tk : List Wd} (hT : tk = tk0) : Wr 119 t tk:=fun B b s w sl hG h hB hk => by
 obtain ⟨ao,c,rfl⟩ : ∃ ao c,sl = .slice ao t.kids.length c:=(Lst.kids hk).slice
 have HT:=Lib.hid hT
 clear hT
 have H_hkd:=Lib.hid hkd
 clear hkd
 have H_hI:=Lib.hid hI
 clear hI
 have S0:=Lib.hid (Sw.start hG h hB hk)
 have HL:=Lib.hid (Lst.kids hk)
 obtain ⟨W0,hW⟩ : ∃ W,w.alloc (nbx t (.slice ao t.kids.length c)) = W:=⟨_,rfl⟩
 rw [hW] at S0
 have hW' : w.alloc (.cells #[.int .i64 t.kind,.string ⟨t.text.toArray⟩,.int .i64 t.num,.slice ao t.kids.length c] 24) = W0:=hW
 clear hW h hG hk
 generalize hm : w.heap.size = m at *
 have y0:=S0.out.c0
 have y1:=S0.out.c1
 have y2:=S0.out.c2
 have y3:=S0.out.c3
 rw [H_hkd.out] at y0
 have hle:=S0.out.le
 have hbl:=S0.out.bl
 have hml:=S0.out.ml
 go_enter Tryz.func119,Tryz.ntmps119
 have cc0:=H_hI.out B b _ _ _ S0.out.gw S0.out.pn S0.out.le S0.out.kt
 rw [tv,H_hkd.out] at cc0
 have cc:=cc0
 go_wp2_with fail
 refine cc.mono ?_
 rintro e w1 ⟨rfl,hp,hf⟩
 have S1:=Lib.hid (S0.out.step hp hf)
 clear cc hp hf y0 y1 y2 y3 hle hbl hml cc0
 have y0:=S1.out.c0
 have y1:=S1.out.c1
 have y2:=S1.out.c2
 have y3:=S1.out.c3
 rw [H_hkd.out] at y0
 have hle:=S1.out.le
 have hbl:=S1.out.bl
 have hml:=S1.out.ml
 go_wp2
 go_end0
 exact ⟨rfl,by rw [HT.out]; exact S1.out.pn,S1.out.fp⟩
set_option maxRecDepth 20000 in
set_option maxHeartbeats 400000 in
theorem simple_w22 {t : Tr} (hkd : t.kind = 22) {tk0 : List Wd} (hI : WrM t [58,61] tk0) {tk : List Wd} (hT : tk = tk0) : Wr 119 t tk:=fun B b s w sl hG h hB hk => by
 obtain ⟨ao,c,rfl⟩ : ∃ ao c,sl = .slice ao t.kids.length c:=(Lst.kids hk).slice
 have HT:=Lib.hid hT
 clear hT
 have H_hkd:=Lib.hid hkd
 clear hkd
 have H_hI:=Lib.hid hI
 clear hI
 have S0:=Lib.hid (Sw.start hG h hB hk)
 have HL:=Lib.hid (Lst.kids hk)
 obtain ⟨W0,hW⟩ : ∃ W,w.alloc (nbx t (.slice ao t.kids.length c)) = W:=⟨_,rfl⟩
 rw [hW] at S0
 have hW' : w.alloc (.cells #[.int .i64 t.kind,.string ⟨t.text.toArray⟩,.int .i64 t.num,.slice ao t.kids.length c] 24) = W0:=hW
 clear hW h hG hk
 generalize hm : w.heap.size = m at *
 have y0:=S0.out.c0
 have y1:=S0.out.c1
 have y2:=S0.out.c2
 have y3:=S0.out.c3
 rw [H_hkd.out] at y0
 have hle:=S0.out.le
 have hbl:=S0.out.bl
 have hml:=S0.out.ml
 go_enter Tryz.func119,Tryz.ntmps119
 have cc0:=H_hI.out B b _ _ _ S0.out.gw S0.out.pn S0.out.le S0.out.kt
 rw [tv,H_hkd.out] at cc0
 have cc:=cc0
 go_wp2_with fail
 refine cc.mono ?_
 rintro e w1 ⟨rfl,hp,hf⟩
 have S1:=Lib.hid (S0.out.step hp hf)
 clear cc hp hf y0 y1 y2 y3 hle hbl hml cc0
 have y0:=S1.out.c0
 have y1:=S1.out.c1
 have y2:=S1.out.c2
 have y3:=S1.out.c3
 rw [H_hkd.out] at y0
 have hle:=S1.out.le
 have hbl:=S1.out.bl
 have hml:=S1.out.ml
 go_wp2
 go_end0
 exact ⟨rfl,by rw [HT.out]; exact S1.out.pn,S1.out.fp⟩
set_option maxRecDepth 20000 in
set_option maxHeartbeats 400000 in
theorem simple_w23 {t : Tr} (hkd : t.kind = 23) {tk0 : List Wd} (hI : WrM t [61] tk0) {tk : List Wd} (hT : tk = tk0) : Wr 119 t tk:=fun B b s w sl hG h hB hk => by
 obtain ⟨ao,c,rfl⟩ : ∃ ao c,sl = .slice ao t.kids.length c:=(Lst.kids hk).slice
 have HT:=Lib.hid hT
 clear hT
 have H_hkd:=Lib.hid hkd
 clear hkd
 have H_hI:=Lib.hid hI
 clear hI
 have S0:=Lib.hid (Sw.start hG h hB hk)
 have HL:=Lib.hid (Lst.kids hk)
 obtain ⟨W0,hW⟩ : ∃ W,w.alloc (nbx t (.slice ao t.kids.length c)) = W:=⟨_,rfl⟩
 rw [hW] at S0
 have hW' : w.alloc (.cells #[.int .i64 t.kind,.string ⟨t.text.toArray⟩,.int .i64 t.num,.slice ao t.kids.length c] 24) = W0:=hW
 clear hW h hG hk
 generalize hm : w.heap.size = m at *
 have y0:=S0.out.c0
 have y1:=S0.out.c1
 have y2:=S0.out.c2
 have y3:=S0.out.c3
 rw [H_hkd.out] at y0
 have hle:=S0.out.le
 have hbl:=S0.out.bl
 have hml:=S0.out.ml
 go_enter Tryz.func119,Tryz.ntmps119
 have cc0:=H_hI.out B b _ _ _ S0.out.gw S0.out.pn S0.out.le S0.out.kt
 rw [tv,H_hkd.out] at cc0
 have cc:=cc0
 go_wp2_with fail
 refine cc.mono ?_
 rintro e w1 ⟨rfl,hp,hf⟩
 have S1:=Lib.hid (S0.out.step hp hf)
 clear cc hp hf y0 y1 y2 y3 hle hbl hml cc0
 have y0:=S1.out.c0
 have y1:=S1.out.c1
 have y2:=S1.out.c2
 have y3:=S1.out.c3
 rw [H_hkd.out] at y0
 have hle:=S1.out.le
 have hbl:=S1.out.bl
 have hml:=S1.out.ml
 go_wp2
 go_end0
 exact ⟨rfl,by rw [HT.out]; exact S1.out.pn,S1.out.fp⟩
set_option maxRecDepth 20000 in
set_option maxHeartbeats 400000 in
theorem simple_w24 {t : Tr} (hkd : t.kind = 24) {a : Tr} (ha : t.kids[0]? = some a) {tk0 : List Wd} (hI : Wr 22 a tk0) {tk : List Wd} (hT : tk = tk0) : Wr 119 t tk:=fun B b s w sl hG h hB hk => by
 obtain ⟨ao,c,rfl⟩ : ∃ ao c,sl = .slice ao t.kids.length c:=(Lst.kids hk).slice
 have HT:=Lib.hid hT
 clear hT
 have H_hkd:=Lib.hid hkd
 clear hkd
 have H_hI:=Lib.hid hI
 clear hI
 have S0:=Lib.hid (Sw.start hG h hB hk)
 obtain ⟨g,o,rfl,hn0,hcc⟩:=S0.out.addr 0 ha
 clear hn0
 have HL:=Lib.hid (Lst.kids hk)
 obtain ⟨W0,hW⟩ : ∃ W,w.alloc (nbx t (.slice (some ⟨g,o,none⟩) t.kids.length c)) = W:=⟨_,rfl⟩
 rw [hW] at S0
 have hW' : w.alloc (.cells #[.int .i64 t.kind,.string ⟨t.text.toArray⟩,.int .i64 t.num,.slice (some ⟨g,o,none⟩) t.kids.length c] 24) = W0:=hW
 clear hW h hG hk
 generalize hm : w.heap.size = m at *
 have y0:=S0.out.c0
 have y1:=S0.out.c1
 have y2:=S0.out.c2
 have y3:=S0.out.c3
 rw [H_hkd.out] at y0
 have hle:=S0.out.le
 have hbl:=S0.out.bl
 have hml:=S0.out.ml
 go_enter Tryz.func119,Tryz.ntmps119
 obtain ⟨a0,n0,q0,z0,z1,z2,z3,hgl,hka⟩:=S0.out.kid 0 ha
 have hil : 0 < t.kids.length:=(List.getElem?_eq_some_iff.1 ha).1
 replace z0 : W0.cell? ⟨g,o,none⟩ = _:=z0
 replace z1 : W0.cell? ⟨g,o + 1,none⟩ = _:=z1
 replace z2 : W0.cell? ⟨g,o + 2,none⟩ = _:=z2
 replace z3 : W0.cell? ⟨g,o + 3,none⟩ = _:=z3
 have cc:=H_hI.out B b _ _ _ S0.out.gw S0.out.pn S0.out.le hka
 go_wp2_with fail
 refine cc.mono ?_
 rintro e w1 ⟨rfl,hp,hf⟩
 have S1:=Lib.hid (S0.out.step hp hf)
 clear cc hp hf y0 y1 y2 y3 hle hbl hml z0 z1 z2 z3 hgl hka hil
 have y0:=S1.out.c0
 have y1:=S1.out.c1
 have y2:=S1.out.c2
 have y3:=S1.out.c3
 rw [H_hkd.out] at y0
 have hle:=S1.out.le
 have hbl:=S1.out.bl
 have hml:=S1.out.ml
 go_wp2
 go_end0
 exact ⟨rfl,by rw [HT.out]; exact S1.out.pn,S1.out.fp⟩
set_option maxRecDepth 20000 in
set_option maxHeartbeats 400000 in
theorem simple_w27 {t : Tr} (hkd : t.kind = 27) {pr : Tr → List Wd} (hn : t.kids.length ≤ 20000) (hI : ∀ a ∈ t.kids,Wr 22 a (pr a)) {tk : List Wd} (hT : tk = [[114,101,116,117,114,110]] ++ commasT pr t.kids) : Wr 119 t tk:=fun B b s w sl hG h hB hk => by
 obtain ⟨ao,c,rfl⟩ : ∃ ao c,sl = .slice ao t.kids.length c:=(Lst.kids hk).slice
 have HT:=Lib.hid hT
 clear hT
 have H_hkd:=Lib.hid hkd
 clear hkd
 have H_hI:=Lib.hid hI
 clear hI
 have S0:=Lib.hid (Sw.start hG h hB hk)
 have HL:=Lib.hid (Lst.kids hk)
 obtain ⟨W0,hW⟩ : ∃ W,w.alloc (nbx t (.slice ao t.kids.length c)) = W:=⟨_,rfl⟩
 rw [hW] at S0
 have hW' : w.alloc (.cells #[.int .i64 t.kind,.string ⟨t.text.toArray⟩,.int .i64 t.num,.slice ao t.kids.length c] 24) = W0:=hW
 clear hW h hG hk
 generalize hm : w.heap.size = m at *
 have y0:=S0.out.c0
 have y1:=S0.out.c1
 have y2:=S0.out.c2
 have y3:=S0.out.c3
 rw [H_hkd.out] at y0
 have hle:=S0.out.le
 have hbl:=S0.out.bl
 have hml:=S0.out.ml
 go_enter Tryz.func119,Tryz.ntmps119
 have cc:=putAt S0.out.pn S0.out.le [[114,101,116,117,114,110]] (by simp) (len1 (by decide)) #[.string ⟨#[114,101,116,117,114,110]⟩] rfl
 go_wp2_with fail
 refine cc.mono ?_
 rintro e w1 ⟨rfl,hp,hf⟩
 have S1:=Lib.hid (S0.out.step hp hf)
 clear cc hp hf y0 y1 y2 y3 hle hbl hml
 have y0:=S1.out.c0
 have y1:=S1.out.c1
 have y2:=S1.out.c2
 have y3:=S1.out.c3
 rw [H_hkd.out] at y0
 have hle:=S1.out.le
 have hbl:=S1.out.bl
 have hml:=S1.out.ml
 have cc:=commasW enP_expression pr B b _ _ (t.kids) (.slice ao t.kids.length c) S1.out.gw S1.out.pn S1.out.le (lst_below HL.out S1.out.fp.below) hn H_hI.out
 go_wp2_with fail
 refine cc.mono ?_
 rintro e w2 ⟨rfl,hp,hf⟩
 have S2:=Lib.hid (S1.out.step hp hf)
 clear cc hp hf y0 y1 y2 y3 hle hbl hml
 have y0:=S2.out.c0
 have y1:=S2.out.c1
 have y2:=S2.out.c2
 have y3:=S2.out.c3
 rw [H_hkd.out] at y0
 have hle:=S2.out.le
 have hbl:=S2.out.bl
 have hml:=S2.out.ml
 go_wp2
 go_end0
 exact ⟨rfl,by rw [HT.out,puts_append]; exact S2.out.pn,S2.out.fp⟩
set_option maxRecDepth 20000 in
set_option maxHeartbeats 400000 in
theorem simple_w28 {t : Tr} (hkd : t.kind = 28) {tk : List Wd} (hT : tk = [[98,114,101,97,107]]) : Wr 119 t tk:=fun B b s w sl hG h hB hk => by
 obtain ⟨ao,c,rfl⟩ : ∃ ao c,sl = .slice ao t.kids.length c:=(Lst.kids hk).slice
 have HT:=Lib.hid hT
 clear hT
 have H_hkd:=Lib.hid hkd
 clear hkd
 have S0:=Lib.hid (Sw.start hG h hB hk)
 have HL:=Lib.hid (Lst.kids hk)
 obtain ⟨W0,hW⟩ : ∃ W,w.alloc (nbx t (.slice ao t.kids.length c)) = W:=⟨_,rfl⟩
 rw [hW] at S0
 have hW' : w.alloc (.cells #[.int .i64 t.kind,.string ⟨t.text.toArray⟩,.int .i64 t.num,.slice ao t.kids.length c] 24) = W0:=hW
 clear hW h hG hk
 generalize hm : w.heap.size = m at *
 have y0:=S0.out.c0
 have y1:=S0.out.c1
 have y2:=S0.out.c2
 have y3:=S0.out.c3
 rw [H_hkd.out] at y0
 have hle:=S0.out.le
 have hbl:=S0.out.bl
 have hml:=S0.out.ml
 go_enter Tryz.func119,Tryz.ntmps119
 have cc:=putAt S0.out.pn S0.out.le [[98,114,101,97,107]] (by simp) (len1 (by decide)) #[.string ⟨#[98,114,101,97,107]⟩] rfl
 go_wp2_with fail
 refine cc.mono ?_
 rintro e w1 ⟨rfl,hp,hf⟩
 have S1:=Lib.hid (S0.out.step hp hf)
 clear cc hp hf y0 y1 y2 y3 hle hbl hml
 have y0:=S1.out.c0
 have y1:=S1.out.c1
 have y2:=S1.out.c2
 have y3:=S1.out.c3
 rw [H_hkd.out] at y0
 have hle:=S1.out.le
 have hbl:=S1.out.bl
 have hml:=S1.out.ml
 go_wp2
 go_end0
 exact ⟨rfl,by rw [HT.out]; exact S1.out.pn,S1.out.fp⟩
set_option maxRecDepth 20000 in
set_option maxHeartbeats 400000 in
theorem simple_w29 {t : Tr} (hkd : t.kind = 29) {tk : List Wd} (hT : tk = [[99,111,110,116,105,110,117,101]]) : Wr 119 t tk:=fun B b s w sl hG h hB hk => by
 obtain ⟨ao,c,rfl⟩ : ∃ ao c,sl = .slice ao t.kids.length c:=(Lst.kids hk).slice
 have HT:=Lib.hid hT
 clear hT
 have H_hkd:=Lib.hid hkd
 clear hkd
 have S0:=Lib.hid (Sw.start hG h hB hk)
 have HL:=Lib.hid (Lst.kids hk)
 obtain ⟨W0,hW⟩ : ∃ W,w.alloc (nbx t (.slice ao t.kids.length c)) = W:=⟨_,rfl⟩
 rw [hW] at S0
 have hW' : w.alloc (.cells #[.int .i64 t.kind,.string ⟨t.text.toArray⟩,.int .i64 t.num,.slice ao t.kids.length c] 24) = W0:=hW
 clear hW h hG hk
 generalize hm : w.heap.size = m at *
 have y0:=S0.out.c0
 have y1:=S0.out.c1
 have y2:=S0.out.c2
 have y3:=S0.out.c3
 rw [H_hkd.out] at y0
 have hle:=S0.out.le
 have hbl:=S0.out.bl
 have hml:=S0.out.ml
 go_enter Tryz.func119,Tryz.ntmps119
 have cc:=putAt S0.out.pn S0.out.le [[99,111,110,116,105,110,117,101]] (by simp) (len1 (by decide)) #[.string ⟨#[99,111,110,116,105,110,117,101]⟩] rfl
 go_wp2_with fail
 refine cc.mono ?_
 rintro e w1 ⟨rfl,hp,hf⟩
 have S1:=Lib.hid (S0.out.step hp hf)
 clear cc hp hf y0 y1 y2 y3 hle hbl hml
 have y0:=S1.out.c0
 have y1:=S1.out.c1
 have y2:=S1.out.c2
 have y3:=S1.out.c3
 rw [H_hkd.out] at y0
 have hle:=S1.out.le
 have hbl:=S1.out.bl
 have hml:=S1.out.ml
 go_wp2
 go_end0
 exact ⟨rfl,by rw [HT.out]; exact S1.out.pn,S1.out.fp⟩
set_option maxRecDepth 20000 in
set_option maxHeartbeats 400000 in
theorem statement_w20 {t : Tr} (hkd : t.kind = 20) {tk0 : List Wd} (hI : Wr 49 t tk0) {tk : List Wd} (hT : tk = tk0) : Wr 79 t tk:=fun B b s w sl hG h hB hk => by
 obtain ⟨ao,c,rfl⟩ : ∃ ao c,sl = .slice ao t.kids.length c:=(Lst.kids hk).slice
 have HT:=Lib.hid hT
 clear hT
 have H_hkd:=Lib.hid hkd
 clear hkd
 have H_hI:=Lib.hid hI
 clear hI
 have S0:=Lib.hid (Sw.start hG h hB hk)
 have HL:=Lib.hid (Lst.kids hk)
 obtain ⟨W0,hW⟩ : ∃ W,w.alloc (nbx t (.slice ao t.kids.length c)) = W:=⟨_,rfl⟩
 rw [hW] at S0
 have hW' : w.alloc (.cells #[.int .i64 t.kind,.string ⟨t.text.toArray⟩,.int .i64 t.num,.slice ao t.kids.length c] 24) = W0:=hW
 clear hW h hG hk
 generalize hm : w.heap.size = m at *
 have y0:=S0.out.c0
 have y1:=S0.out.c1
 have y2:=S0.out.c2
 have y3:=S0.out.c3
 rw [H_hkd.out] at y0
 have hle:=S0.out.le
 have hbl:=S0.out.bl
 have hml:=S0.out.ml
 go_enter Tryz.func79,Tryz.ntmps79
 have cc0:=H_hI.out B b _ _ _ S0.out.gw S0.out.pn S0.out.le S0.out.kt
 rw [tv,H_hkd.out] at cc0
 have cc:=cc0
 go_wp2_with fail
 refine cc.mono ?_
 rintro e w1 ⟨rfl,hp,hf⟩
 have S1:=Lib.hid (S0.out.step hp hf)
 clear cc hp hf y0 y1 y2 y3 hle hbl hml cc0
 have y0:=S1.out.c0
 have y1:=S1.out.c1
 have y2:=S1.out.c2
 have y3:=S1.out.c3
 rw [H_hkd.out] at y0
 have hle:=S1.out.le
 have hbl:=S1.out.bl
 have hml:=S1.out.ml
 go_wp2
 go_end0
 exact ⟨rfl,by rw [HT.out]; exact S1.out.pn,S1.out.fp⟩
set_option maxRecDepth 20000 in
set_option maxHeartbeats 400000 in
theorem statement_w25 {t : Tr} (hkd : t.kind = 25) {tk0 : List Wd} (hI : Wr 117 t tk0) {tk : List Wd} (hT : tk = tk0) : Wr 79 t tk:=fun B b s w sl hG h hB hk => by
 obtain ⟨ao,c,rfl⟩ : ∃ ao c,sl = .slice ao t.kids.length c:=(Lst.kids hk).slice
 have HT:=Lib.hid hT
 clear hT
 have H_hkd:=Lib.hid hkd
 clear hkd
 have H_hI:=Lib.hid hI
 clear hI
 have S0:=Lib.hid (Sw.start hG h hB hk)
 have HL:=Lib.hid (Lst.kids hk)
 obtain ⟨W0,hW⟩ : ∃ W,w.alloc (nbx t (.slice ao t.kids.length c)) = W:=⟨_,rfl⟩
 rw [hW] at S0
 have hW' : w.alloc (.cells #[.int .i64 t.kind,.string ⟨t.text.toArray⟩,.int .i64 t.num,.slice ao t.kids.length c] 24) = W0:=hW
 clear hW h hG hk
 generalize hm : w.heap.size = m at *
 have y0:=S0.out.c0
 have y1:=S0.out.c1
 have y2:=S0.out.c2
 have y3:=S0.out.c3
 rw [H_hkd.out] at y0
 have hle:=S0.out.le
 have hbl:=S0.out.bl
 have hml:=S0.out.ml
 go_enter Tryz.func79,Tryz.ntmps79
 have cc0:=H_hI.out B b _ _ _ S0.out.gw S0.out.pn S0.out.le S0.out.kt
 rw [tv,H_hkd.out] at cc0
 have cc:=cc0
 go_wp2_with fail
 refine cc.mono ?_
 rintro e w1 ⟨rfl,hp,hf⟩
 have S1:=Lib.hid (S0.out.step hp hf)
 clear cc hp hf y0 y1 y2 y3 hle hbl hml cc0
 have y0:=S1.out.c0
 have y1:=S1.out.c1
 have y2:=S1.out.c2
 have y3:=S1.out.c3
 rw [H_hkd.out] at y0
 have hle:=S1.out.le
 have hbl:=S1.out.bl
 have hml:=S1.out.ml
 go_wp2
 go_end0
 exact ⟨rfl,by rw [HT.out]; exact S1.out.pn,S1.out.fp⟩
set_option maxRecDepth 20000 in
set_option maxHeartbeats 400000 in
theorem statement_w26 {t : Tr} (hkd : t.kind = 26) {tk0 : List Wd} (hI : Wr 118 t tk0) {tk : List Wd} (hT : tk = tk0) : Wr 79 t tk:=fun B b s w sl hG h hB hk => by
 obtain ⟨ao,c,rfl⟩ : ∃ ao c,sl = .slice ao t.kids.length c:=(Lst.kids hk).slice
 have HT:=Lib.hid hT
 clear hT
 have H_hkd:=Lib.hid hkd
 clear hkd
 have H_hI:=Lib.hid hI
 clear hI
 have S0:=Lib.hid (Sw.start hG h hB hk)
 have HL:=Lib.hid (Lst.kids hk)
 obtain ⟨W0,hW⟩ : ∃ W,w.alloc (nbx t (.slice ao t.kids.length c)) = W:=⟨_,rfl⟩
 rw [hW] at S0
 have hW' : w.alloc (.cells #[.int .i64 t.kind,.string ⟨t.text.toArray⟩,.int .i64 t.num,.slice ao t.kids.length c] 24) = W0:=hW
 clear hW h hG hk
 generalize hm : w.heap.size = m at *
 have y0:=S0.out.c0
 have y1:=S0.out.c1
 have y2:=S0.out.c2
 have y3:=S0.out.c3
 rw [H_hkd.out] at y0
 have hle:=S0.out.le
 have hbl:=S0.out.bl
 have hml:=S0.out.ml
 go_enter Tryz.func79,Tryz.ntmps79
 have cc0:=H_hI.out B b _ _ _ S0.out.gw S0.out.pn S0.out.le S0.out.kt
 rw [tv,H_hkd.out] at cc0
 have cc:=cc0
 go_wp2_with fail
 refine cc.mono ?_
 rintro e w1 ⟨rfl,hp,hf⟩
 have S1:=Lib.hid (S0.out.step hp hf)
 clear cc hp hf y0 y1 y2 y3 hle hbl hml cc0
 have y0:=S1.out.c0
 have y1:=S1.out.c1
 have y2:=S1.out.c2
 have y3:=S1.out.c3
 rw [H_hkd.out] at y0
 have hle:=S1.out.le
 have hbl:=S1.out.bl
 have hml:=S1.out.ml
 go_wp2
 go_end0
 exact ⟨rfl,by rw [HT.out]; exact S1.out.pn,S1.out.fp⟩
set_option maxRecDepth 20000 in
set_option maxHeartbeats 400000 in
theorem statement_w21 {t : Tr} (hkd : t.kind = 21) {tk0 : List Wd} (hI : Wr 119 t tk0) {tk : List Wd} (hT : tk = tk0 ++ [[59]]) : Wr 79 t tk:=fun B b s w sl hG h hB hk => by
 obtain ⟨ao,c,rfl⟩ : ∃ ao c,sl = .slice ao t.kids.length c:=(Lst.kids hk).slice
 have HT:=Lib.hid hT
 clear hT
 have H_hkd:=Lib.hid hkd
 clear hkd
 have H_hI:=Lib.hid hI
 clear hI
 have S0:=Lib.hid (Sw.start hG h hB hk)
 have HL:=Lib.hid (Lst.kids hk)
 obtain ⟨W0,hW⟩ : ∃ W,w.alloc (nbx t (.slice ao t.kids.length c)) = W:=⟨_,rfl⟩
 rw [hW] at S0
 have hW' : w.alloc (.cells #[.int .i64 t.kind,.string ⟨t.text.toArray⟩,.int .i64 t.num,.slice ao t.kids.length c] 24) = W0:=hW
 clear hW h hG hk
 generalize hm : w.heap.size = m at *
 have y0:=S0.out.c0
 have y1:=S0.out.c1
 have y2:=S0.out.c2
 have y3:=S0.out.c3
 rw [H_hkd.out] at y0
 have hle:=S0.out.le
 have hbl:=S0.out.bl
 have hml:=S0.out.ml
 go_enter Tryz.func79,Tryz.ntmps79
 have cc0:=H_hI.out B b _ _ _ S0.out.gw S0.out.pn S0.out.le S0.out.kt
 rw [tv,H_hkd.out] at cc0
 have cc:=cc0
 go_wp2_with fail
 refine cc.mono ?_
 rintro e w1 ⟨rfl,hp,hf⟩
 have S1:=Lib.hid (S0.out.step hp hf)
 clear cc hp hf y0 y1 y2 y3 hle hbl hml cc0
 have y0:=S1.out.c0
 have y1:=S1.out.c1
 have y2:=S1.out.c2
 have y3:=S1.out.c3
 rw [H_hkd.out] at y0
 have hle:=S1.out.le
 have hbl:=S1.out.bl
 have hml:=S1.out.ml
 have cc:=putAt S1.out.pn S1.out.le [[59]] (by simp) (len1 (by decide)) #[.string ⟨#[59]⟩] rfl
 go_wp2_with fail
 refine cc.mono ?_
 rintro e w2 ⟨rfl,hp,hf⟩
 have S2:=Lib.hid (S1.out.step hp hf)
 clear cc hp hf y0 y1 y2 y3 hle hbl hml
 have y0:=S2.out.c0
 have y1:=S2.out.c1
 have y2:=S2.out.c2
 have y3:=S2.out.c3
 rw [H_hkd.out] at y0
 have hle:=S2.out.le
 have hbl:=S2.out.bl
 have hml:=S2.out.ml
 go_wp2
 go_end0
 exact ⟨rfl,by rw [HT.out,puts_append]; exact S2.out.pn,S2.out.fp⟩
set_option maxRecDepth 20000 in
set_option maxHeartbeats 400000 in
theorem statement_w22 {t : Tr} (hkd : t.kind = 22) {tk0 : List Wd} (hI : Wr 119 t tk0) {tk : List Wd} (hT : tk = tk0 ++ [[59]]) : Wr 79 t tk:=fun B b s w sl hG h hB hk => by
 obtain ⟨ao,c,rfl⟩ : ∃ ao c,sl = .slice ao t.kids.length c:=(Lst.kids hk).slice
 have HT:=Lib.hid hT
 clear hT
 have H_hkd:=Lib.hid hkd
 clear hkd
 have H_hI:=Lib.hid hI
 clear hI
 have S0:=Lib.hid (Sw.start hG h hB hk)
 have HL:=Lib.hid (Lst.kids hk)
 obtain ⟨W0,hW⟩ : ∃ W,w.alloc (nbx t (.slice ao t.kids.length c)) = W:=⟨_,rfl⟩
 rw [hW] at S0
 have hW' : w.alloc (.cells #[.int .i64 t.kind,.string ⟨t.text.toArray⟩,.int .i64 t.num,.slice ao t.kids.length c] 24) = W0:=hW
 clear hW h hG hk
 generalize hm : w.heap.size = m at *
 have y0:=S0.out.c0
 have y1:=S0.out.c1
 have y2:=S0.out.c2
 have y3:=S0.out.c3
 rw [H_hkd.out] at y0
 have hle:=S0.out.le
 have hbl:=S0.out.bl
 have hml:=S0.out.ml
 go_enter Tryz.func79,Tryz.ntmps79
 have cc0:=H_hI.out B b _ _ _ S0.out.gw S0.out.pn S0.out.le S0.out.kt
 rw [tv,H_hkd.out] at cc0
 have cc:=cc0
 go_wp2_with fail
 refine cc.mono ?_
 rintro e w1 ⟨rfl,hp,hf⟩
 have S1:=Lib.hid (S0.out.step hp hf)
 clear cc hp hf y0 y1 y2 y3 hle hbl hml cc0
 have y0:=S1.out.c0
 have y1:=S1.out.c1
 have y2:=S1.out.c2
 have y3:=S1.out.c3
 rw [H_hkd.out] at y0
 have hle:=S1.out.le
 have hbl:=S1.out.bl
 have hml:=S1.out.ml
 have cc:=putAt S1.out.pn S1.out.le [[59]] (by simp) (len1 (by decide)) #[.string ⟨#[59]⟩] rfl
 go_wp2_with fail
 refine cc.mono ?_
 rintro e w2 ⟨rfl,hp,hf⟩
 have S2:=Lib.hid (S1.out.step hp hf)
 clear cc hp hf y0 y1 y2 y3 hle hbl hml
 have y0:=S2.out.c0
 have y1:=S2.out.c1
 have y2:=S2.out.c2
 have y3:=S2.out.c3
 rw [H_hkd.out] at y0
 have hle:=S2.out.le
 have hbl:=S2.out.bl
 have hml:=S2.out.ml
 go_wp2
 go_end0
 exact ⟨rfl,by rw [HT.out,puts_append]; exact S2.out.pn,S2.out.fp⟩
set_option maxRecDepth 20000 in
set_option maxHeartbeats 400000 in
theorem statement_w23 {t : Tr} (hkd : t.kind = 23) {tk0 : List Wd} (hI : Wr 119 t tk0) {tk : List Wd} (hT : tk = tk0 ++ [[59]]) : Wr 79 t tk:=fun B b s w sl hG h hB hk => by
 obtain ⟨ao,c,rfl⟩ : ∃ ao c,sl = .slice ao t.kids.length c:=(Lst.kids hk).slice
 have HT:=Lib.hid hT
 clear hT
 have H_hkd:=Lib.hid hkd
 clear hkd
 have H_hI:=Lib.hid hI
 clear hI
 have S0:=Lib.hid (Sw.start hG h hB hk)
 have HL:=Lib.hid (Lst.kids hk)
 obtain ⟨W0,hW⟩ : ∃ W,w.alloc (nbx t (.slice ao t.kids.length c)) = W:=⟨_,rfl⟩
 rw [hW] at S0
 have hW' : w.alloc (.cells #[.int .i64 t.kind,.string ⟨t.text.toArray⟩,.int .i64 t.num,.slice ao t.kids.length c] 24) = W0:=hW
 clear hW h hG hk
 generalize hm : w.heap.size = m at *
 have y0:=S0.out.c0
 have y1:=S0.out.c1
 have y2:=S0.out.c2
 have y3:=S0.out.c3
 rw [H_hkd.out] at y0
 have hle:=S0.out.le
 have hbl:=S0.out.bl
 have hml:=S0.out.ml
 go_enter Tryz.func79,Tryz.ntmps79
 have cc0:=H_hI.out B b _ _ _ S0.out.gw S0.out.pn S0.out.le S0.out.kt
 rw [tv,H_hkd.out] at cc0
 have cc:=cc0
 go_wp2_with fail
 refine cc.mono ?_
 rintro e w1 ⟨rfl,hp,hf⟩
 have S1:=Lib.hid (S0.out.step hp hf)
 clear cc hp hf y0 y1 y2 y3 hle hbl hml cc0
 have y0:=S1.out.c0
 have y1:=S1.out.c1
 have y2:=S1.out.c2
 have y3:=S1.out.c3
 rw [H_hkd.out] at y0
 have hle:=S1.out.le
 have hbl:=S1.out.bl
 have hml:=S1.out.ml
 have cc:=putAt S1.out.pn S1.out.le [[59]] (by simp) (len1 (by decide)) #[.string ⟨#[59]⟩] rfl
 go_wp2_with fail
 refine cc.mono ?_
 rintro e w2 ⟨rfl,hp,hf⟩
 have S2:=Lib.hid (S1.out.step hp hf)
 clear cc hp hf y0 y1 y2 y3 hle hbl hml
 have y0:=S2.out.c0
 have y1:=S2.out.c1
 have y2:=S2.out.c2
 have y3:=S2.out.c3
 rw [H_hkd.out] at y0
 have hle:=S2.out.le
 have hbl:=S2.out.bl
 have hml:=S2.out.ml
 go_wp2
 go_end0
 exact ⟨rfl,by rw [HT.out,puts_append]; exact S2.out.pn,S2.out.fp⟩
set_option maxRecDepth 20000 in
set_option maxHeartbeats 400000 in
theorem statement_w24 {t : Tr} (hkd : t.kind = 24) {tk0 : List Wd} (hI : Wr 119 t tk0) {tk : List Wd} (hT : tk = tk0 ++ [[59]]) : Wr 79 t tk:=fun B b s w sl hG h hB hk => by
 obtain ⟨ao,c,rfl⟩ : ∃ ao c,sl = .slice ao t.kids.length c:=(Lst.kids hk).slice
 have HT:=Lib.hid hT
 clear hT
 have H_hkd:=Lib.hid hkd
 clear hkd
 have H_hI:=Lib.hid hI
 clear hI
 have S0:=Lib.hid (Sw.start hG h hB hk)
 have HL:=Lib.hid (Lst.kids hk)
 obtain ⟨W0,hW⟩ : ∃ W,w.alloc (nbx t (.slice ao t.kids.length c)) = W:=⟨_,rfl⟩
 rw [hW] at S0
 have hW' : w.alloc (.cells #[.int .i64 t.kind,.string ⟨t.text.toArray⟩,.int .i64 t.num,.slice ao t.kids.length c] 24) = W0:=hW
 clear hW h hG hk
 generalize hm : w.heap.size = m at *
 have y0:=S0.out.c0
 have y1:=S0.out.c1
 have y2:=S0.out.c2
 have y3:=S0.out.c3
 rw [H_hkd.out] at y0
 have hle:=S0.out.le
 have hbl:=S0.out.bl
 have hml:=S0.out.ml
 go_enter Tryz.func79,Tryz.ntmps79
 have cc0:=H_hI.out B b _ _ _ S0.out.gw S0.out.pn S0.out.le S0.out.kt
 rw [tv,H_hkd.out] at cc0
 have cc:=cc0
 go_wp2_with fail
 refine cc.mono ?_
 rintro e w1 ⟨rfl,hp,hf⟩
 have S1:=Lib.hid (S0.out.step hp hf)
 clear cc hp hf y0 y1 y2 y3 hle hbl hml cc0
 have y0:=S1.out.c0
 have y1:=S1.out.c1
 have y2:=S1.out.c2
 have y3:=S1.out.c3
 rw [H_hkd.out] at y0
 have hle:=S1.out.le
 have hbl:=S1.out.bl
 have hml:=S1.out.ml
 have cc:=putAt S1.out.pn S1.out.le [[59]] (by simp) (len1 (by decide)) #[.string ⟨#[59]⟩] rfl
 go_wp2_with fail
 refine cc.mono ?_
 rintro e w2 ⟨rfl,hp,hf⟩
 have S2:=Lib.hid (S1.out.step hp hf)
 clear cc hp hf y0 y1 y2 y3 hle hbl hml
 have y0:=S2.out.c0
 have y1:=S2.out.c1
 have y2:=S2.out.c2
 have y3:=S2.out.c3
 rw [H_hkd.out] at y0
 have hle:=S2.out.le
 have hbl:=S2.out.bl
 have hml:=S2.out.ml
 go_wp2
 go_end0
 exact ⟨rfl,by rw [HT.out,puts_append]; exact S2.out.pn,S2.out.fp⟩
set_option maxRecDepth 20000 in
set_option maxHeartbeats 400000 in
theorem statement_w27 {t : Tr} (hkd : t.kind = 27) {tk0 : List Wd} (hI : Wr 119 t tk0) {tk : List Wd} (hT : tk = tk0 ++ [[59]]) : Wr 79 t tk:=fun B b s w sl hG h hB hk => by
 obtain ⟨ao,c,rfl⟩ : ∃ ao c,sl = .slice ao t.kids.length c:=(Lst.kids hk).slice
 have HT:=Lib.hid hT
 clear hT
 have H_hkd:=Lib.hid hkd
 clear hkd
 have H_hI:=Lib.hid hI
 clear hI
 have S0:=Lib.hid (Sw.start hG h hB hk)
 have HL:=Lib.hid (Lst.kids hk)
 obtain ⟨W0,hW⟩ : ∃ W,w.alloc (nbx t (.slice ao t.kids.length c)) = W:=⟨_,rfl⟩
 rw [hW] at S0
 have hW' : w.alloc (.cells #[.int .i64 t.kind,.string ⟨t.text.toArray⟩,.int .i64 t.num,.slice ao t.kids.length c] 24) = W0:=hW
 clear hW h hG hk
 generalize hm : w.heap.size = m at *
 have y0:=S0.out.c0
 have y1:=S0.out.c1
 have y2:=S0.out.c2
 have y3:=S0.out.c3
 rw [H_hkd.out] at y0
 have hle:=S0.out.le
 have hbl:=S0.out.bl
 have hml:=S0.out.ml
 go_enter Tryz.func79,Tryz.ntmps79
 have cc0:=H_hI.out B b _ _ _ S0.out.gw S0.out.pn S0.out.le S0.out.kt
 rw [tv,H_hkd.out] at cc0
 have cc:=cc0
 go_wp2_with fail
 refine cc.mono ?_
 rintro e w1 ⟨rfl,hp,hf⟩
 have S1:=Lib.hid (S0.out.step hp hf)
 clear cc hp hf y0 y1 y2 y3 hle hbl hml cc0
 have y0:=S1.out.c0
 have y1:=S1.out.c1
 have y2:=S1.out.c2
 have y3:=S1.out.c3
 rw [H_hkd.out] at y0
 have hle:=S1.out.le
 have hbl:=S1.out.bl
 have hml:=S1.out.ml
 have cc:=putAt S1.out.pn S1.out.le [[59]] (by simp) (len1 (by decide)) #[.string ⟨#[59]⟩] rfl
 go_wp2_with fail
 refine cc.mono ?_
 rintro e w2 ⟨rfl,hp,hf⟩
 have S2:=Lib.hid (S1.out.step hp hf)
 clear cc hp hf y0 y1 y2 y3 hle hbl hml
 have y0:=S2.out.c0
 have y1:=S2.out.c1
 have y2:=S2.out.c2
 have y3:=S2.out.c3
 rw [H_hkd.out] at y0
 have hle:=S2.out.le
 have hbl:=S2.out.bl
 have hml:=S2.out.ml
 go_wp2
 go_end0
 exact ⟨rfl,by rw [HT.out,puts_append]; exact S2.out.pn,S2.out.fp⟩
set_option maxRecDepth 20000 in
set_option maxHeartbeats 400000 in
theorem statement_w28 {t : Tr} (hkd : t.kind = 28) {tk0 : List Wd} (hI : Wr 119 t tk0) {tk : List Wd} (hT : tk = tk0 ++ [[59]]) : Wr 79 t tk:=fun B b s w sl hG h hB hk => by
 obtain ⟨ao,c,rfl⟩ : ∃ ao c,sl = .slice ao t.kids.length c:=(Lst.kids hk).slice
 have HT:=Lib.hid hT
 clear hT
 have H_hkd:=Lib.hid hkd
 clear hkd
 have H_hI:=Lib.hid hI
 clear hI
 have S0:=Lib.hid (Sw.start hG h hB hk)
 have HL:=Lib.hid (Lst.kids hk)
 obtain ⟨W0,hW⟩ : ∃ W,w.alloc (nbx t (.slice ao t.kids.length c)) = W:=⟨_,rfl⟩
 rw [hW] at S0
 have hW' : w.alloc (.cells #[.int .i64 t.kind,.string ⟨t.text.toArray⟩,.int .i64 t.num,.slice ao t.kids.length c] 24) = W0:=hW
 clear hW h hG hk
 generalize hm : w.heap.size = m at *
 have y0:=S0.out.c0
 have y1:=S0.out.c1
 have y2:=S0.out.c2
 have y3:=S0.out.c3
 rw [H_hkd.out] at y0
 have hle:=S0.out.le
 have hbl:=S0.out.bl
 have hml:=S0.out.ml
 go_enter Tryz.func79,Tryz.ntmps79
 have cc0:=H_hI.out B b _ _ _ S0.out.gw S0.out.pn S0.out.le S0.out.kt
 rw [tv,H_hkd.out] at cc0
 have cc:=cc0
 go_wp2_with fail
 refine cc.mono ?_
 rintro e w1 ⟨rfl,hp,hf⟩
 have S1:=Lib.hid (S0.out.step hp hf)
 clear cc hp hf y0 y1 y2 y3 hle hbl hml cc0
 have y0:=S1.out.c0
 have y1:=S1.out.c1
 have y2:=S1.out.c2
 have y3:=S1.out.c3
 rw [H_hkd.out] at y0
 have hle:=S1.out.le
 have hbl:=S1.out.bl
 have hml:=S1.out.ml
 have cc:=putAt S1.out.pn S1.out.le [[59]] (by simp) (len1 (by decide)) #[.string ⟨#[59]⟩] rfl
 go_wp2_with fail
 refine cc.mono ?_
 rintro e w2 ⟨rfl,hp,hf⟩
 have S2:=Lib.hid (S1.out.step hp hf)
 clear cc hp hf y0 y1 y2 y3 hle hbl hml
 have y0:=S2.out.c0
 have y1:=S2.out.c1
 have y2:=S2.out.c2
 have y3:=S2.out.c3
 rw [H_hkd.out] at y0
 have hle:=S2.out.le
 have hbl:=S2.out.bl
 have hml:=S2.out.ml
 go_wp2
 go_end0
 exact ⟨rfl,by rw [HT.out,puts_append]; exact S2.out.pn,S2.out.fp⟩
set_option maxRecDepth 20000 in
set_option maxHeartbeats 400000 in
theorem statement_w29 {t : Tr} (hkd : t.kind = 29) {tk0 : List Wd} (hI : Wr 119 t tk0) {tk : List Wd} (hT : tk = tk0 ++ [[59]]) : Wr 79 t tk:=fun B b s w sl hG h hB hk => by
 obtain ⟨ao,c,rfl⟩ : ∃ ao c,sl = .slice ao t.kids.length c:=(Lst.kids hk).slice
 have HT:=Lib.hid hT
 clear hT
 have H_hkd:=Lib.hid hkd
 clear hkd
 have H_hI:=Lib.hid hI
 clear hI
 have S0:=Lib.hid (Sw.start hG h hB hk)
 have HL:=Lib.hid (Lst.kids hk)
 obtain ⟨W0,hW⟩ : ∃ W,w.alloc (nbx t (.slice ao t.kids.length c)) = W:=⟨_,rfl⟩
 rw [hW] at S0
 have hW' : w.alloc (.cells #[.int .i64 t.kind,.string ⟨t.text.toArray⟩,.int .i64 t.num,.slice ao t.kids.length c] 24) = W0:=hW
 clear hW h hG hk
 generalize hm : w.heap.size = m at *
 have y0:=S0.out.c0
 have y1:=S0.out.c1
 have y2:=S0.out.c2
 have y3:=S0.out.c3
 rw [H_hkd.out] at y0
 have hle:=S0.out.le
 have hbl:=S0.out.bl
 have hml:=S0.out.ml
 go_enter Tryz.func79,Tryz.ntmps79
 have cc0:=H_hI.out B b _ _ _ S0.out.gw S0.out.pn S0.out.le S0.out.kt
 rw [tv,H_hkd.out] at cc0
 have cc:=cc0
 go_wp2_with fail
 refine cc.mono ?_
 rintro e w1 ⟨rfl,hp,hf⟩
 have S1:=Lib.hid (S0.out.step hp hf)
 clear cc hp hf y0 y1 y2 y3 hle hbl hml cc0
 have y0:=S1.out.c0
 have y1:=S1.out.c1
 have y2:=S1.out.c2
 have y3:=S1.out.c3
 rw [H_hkd.out] at y0
 have hle:=S1.out.le
 have hbl:=S1.out.bl
 have hml:=S1.out.ml
 have cc:=putAt S1.out.pn S1.out.le [[59]] (by simp) (len1 (by decide)) #[.string ⟨#[59]⟩] rfl
 go_wp2_with fail
 refine cc.mono ?_
 rintro e w2 ⟨rfl,hp,hf⟩
 have S2:=Lib.hid (S1.out.step hp hf)
 clear cc hp hf y0 y1 y2 y3 hle hbl hml
 have y0:=S2.out.c0
 have y1:=S2.out.c1
 have y2:=S2.out.c2
 have y3:=S2.out.c3
 rw [H_hkd.out] at y0
 have hle:=S2.out.le
 have hbl:=S2.out.bl
 have hml:=S2.out.ml
 go_wp2
 go_end0
 exact ⟨rfl,by rw [HT.out,puts_append]; exact S2.out.pn,S2.out.fp⟩
end Go.Proofs.YtffnaknidofobaaGreatDoor
