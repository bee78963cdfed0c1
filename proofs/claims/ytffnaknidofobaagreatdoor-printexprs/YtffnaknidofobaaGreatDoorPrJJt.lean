/- The printer: expressions but leaves, declarations, programs. -/
import Derived.Test.YtffnaknidofobaaGreatDoorPrIJt
namespace Go.Proofs.YtffnaknidofobaaGreatDoor
open Go.RowKit
/-- A walk's state where there is no node. -/
structure Sv (B b : Nat) (w0 : World) (s : PS) (w : World) : Prop where
  pn : Pn B b s w
  gw : Gw B w
  le : B ≤ w.heap.size
  fp : Fp B b w0 w
theorem Sv.step {B b : Nat} {w0 w W : World} {s : PS} {ts : List Wd} (h : Sv B b w0 s w) (p : Pn B b (puts s ts) W) (f : Fp B b w W) : Sv B b w0 (puts s ts) W :=
  ⟨p,h.gw.later f.below,Nat.le_trans h.le f.below.size,h.fp.trans f⟩
theorem Sw.quiet {B b m : Nat} {t : Tr} {sl : Value} {w0 w W : World} {s : PS} (h : Sw B b m t sl w0 s w) (hb : Below w.heap.size w W) : Sw B b m t sl w0 s W :=
  h.step (ts:=[]) (h.pn.below hb) (Fp.of_below h.le hb)
/-- A function writes these tokens of that list. -/
def WrE (ts : List Tr) (tk : List Wd) : Prop:=∀ (B b : Nat) (s : PS) (w : World) (sl : Value),Gw B w → Pn B b s w → B ≤ w.heap.size → Lst w (· < B) ts sl →
  Calls Tryz.prog 46 #[.pointer (some ⟨b,0,none⟩),sl] w (OutW B b s tk w)
def WrC (num : Int) (ts : List Tr) (tk : List Wd) : Prop:=∀ (B b : Nat) (s : PS) (w : World) (sl : Value),Gw B w → Pn B b s w → B ≤ w.heap.size → Lst w (· < B) ts sl →
  Calls Tryz.prog 80 #[.pointer (some ⟨b,0,none⟩),.int .i64 num,sl] w (OutW B b s tk w)
/-- The one token of a leaf. -/
def WrL (t : Tr) (x : Wd) : Prop:=∀ (B : Nat) (w : World) (sl : Value),Gw B w → B ≤ w.heap.size → KT w (· < B) t sl →
  Calls Tryz.prog 45 #[tv t sl] w fun e w' => e = .returned (.string ⟨x.toArray⟩) ∧ Below w.heap.size w w'
set_option maxRecDepth 20000 in
set_option maxHeartbeats 400000 in
theorem elements_w {ts : List Tr} {pr : Tr → List Wd} (hn : ts.length ≤ 20000) (hI : ∀ a ∈ ts,Wr 22 a (pr a)) {tk : List Wd} (hT : tk = listedT [123] [125] pr ts) : WrE ts tk:=fun B b s w sl hG h hB hL => by
 obtain ⟨ao,c,rfl⟩:=hL.slice
 have HL:=Lib.hid hL
 have H_hI:=Lib.hid hI
 clear hL hI
 have HT:=Lib.hid hT
 clear hT
 have S0 : Hid (Sv B b w s w):=⟨h,hG,hB,Fp.refl _ _ _⟩
 clear h hG
 have hle:=S0.out.le
 have hbl:=S0.out.pn.lt
 go_enter Tryz.func46,Tryz.ntmps46
 have cc:=listedW enP_expression pr [123] [125] (by decide) (by decide) B b _ _ (ts) (.slice ao ts.length c) S0.out.gw S0.out.pn S0.out.le (lst_below HL.out S0.out.fp.below) hn H_hI.out
 go_wp2_with fail
 refine cc.mono ?_
 rintro e w1 ⟨rfl,hp,hf⟩
 have S1:=Lib.hid (S0.out.step hp hf)
 clear cc hp hf hle hbl
 have hle:=S1.out.le
 have hbl:=S1.out.pn.lt
 go_wp2
 go_end0
 exact ⟨rfl,by rw [HT.out]; exact S1.out.pn,S1.out.fp⟩
set_option maxRecDepth 20000 in
set_option maxHeartbeats 400000 in
theorem cut_w0  {pr : Tr → List Wd}  {tk : List Wd} (hT : tk = [[91]] ++ ((([] : List Tr)).flatMap pr ++ ([[58]] ++ ((([] : List Tr)).flatMap pr ++ [[93]])))) : WrC 0 [] tk:=fun B b s w sl hG h hB hL => by
 obtain ⟨ao,c,rfl⟩:=hL.slice
 have HL:=Lib.hid hL
 clear hL
 have hbt : bits BinOp.and IntKind.i64 0 1 = 0:=by decide
 have HT:=Lib.hid hT
 clear hT
 have S0 : Hid (Sv B b w s w):=⟨h,hG,hB,Fp.refl _ _ _⟩
 clear h hG
 have hle:=S0.out.le
 have hbl:=S0.out.pn.lt
 go_enter Tryz.func80,Tryz.ntmps80
 have cc:=putAt S0.out.pn S0.out.le [[91]] (by simp) (len1 (by decide)) #[.string ⟨#[91]⟩] rfl
 go_wp2_with fail
 refine cc.mono ?_
 rintro e w1 ⟨rfl,hp,hf⟩
 have S1:=Lib.hid (S0.out.step hp hf)
 clear cc hp hf hle hbl
 have hle:=S1.out.le
 have hbl:=S1.out.pn.lt
 have cc:=eachW enP_expression pr B b _ _ (([] : List Tr)) (.slice ao 0 c) S1.out.gw S1.out.pn S1.out.le (lst_below HL.out S1.out.fp.below) (by simp) (by simp)
 go_wp2_with fail
 refine cc.mono ?_
 rintro e w2 ⟨rfl,hp,hf⟩
 have S2:=Lib.hid (S1.out.step hp hf)
 clear cc hp hf hle hbl
 have hle:=S2.out.le
 have hbl:=S2.out.pn.lt
 have cc:=putAt S2.out.pn S2.out.le [[58]] (by simp) (len1 (by decide)) #[.string ⟨#[58]⟩] rfl
 go_wp2_with fail
 refine cc.mono ?_
 rintro e w3 ⟨rfl,hp,hf⟩
 have S3:=Lib.hid (S2.out.step hp hf)
 clear cc hp hf hle hbl
 have hle:=S3.out.le
 have hbl:=S3.out.pn.lt
 have cc:=eachW enP_expression pr B b _ _ (([] : List Tr)) (.slice ao 0 c) S3.out.gw S3.out.pn S3.out.le (lst_below HL.out S3.out.fp.below) (by simp) (by simp)
 go_wp2_with fail
 refine cc.mono ?_
 rintro e w4 ⟨rfl,hp,hf⟩
 have S4:=Lib.hid (S3.out.step hp hf)
 clear cc hp hf hle hbl
 have hle:=S4.out.le
 have hbl:=S4.out.pn.lt
 have cc:=putAt S4.out.pn S4.out.le [[93]] (by simp) (len1 (by decide)) #[.string ⟨#[93]⟩] rfl
 go_wp2_with fail
 refine cc.mono ?_
 rintro e w5 ⟨rfl,hp,hf⟩
 have S5:=Lib.hid (S4.out.step hp hf)
 clear cc hp hf hle hbl
 have hle:=S5.out.le
 have hbl:=S5.out.pn.lt
 go_wp2
 go_end0
 exact ⟨rfl,by rw [HT.out,puts_append,puts_append,puts_append,puts_append]; exact S5.out.pn,S5.out.fp⟩
set_option maxRecDepth 20000 in
set_option maxHeartbeats 400000 in
theorem cut_w1  {pr : Tr → List Wd} {x : Tr} (hI : Wr 22 x (pr x)) {tk : List Wd} (hT : tk = [[91]] ++ (([x]).flatMap pr ++ ([[58]] ++ ((([] : List Tr)).flatMap pr ++ [[93]])))) : WrC 1 [x] tk:=fun B b s w sl hG h hB hL => by
 obtain ⟨g,o,c,rfl,hc⟩ : ∃ g o c,sl = .slice (some ⟨g,o,none⟩) 1 c ∧ 1 ≤ c:=by
  obtain ⟨sls,h1 | ⟨g,o,c,h1,h2,_⟩,_⟩:=hL
  · cases h1.1
  · exact ⟨g,o,c,h1,h2⟩
 have HL:=Lib.hid hL
 have HI : Hid (Wr 22 x (pr x)):=hI
 clear hL hI
 by_cases h1c : 1 < c
 · have hck0 : (c - 1 == 0) = false:=by simp; omega
   have HL2 : Hid (Lst w (· < B) [] (.slice (some ⟨g,o + 4,none⟩) 0 (c - 1))):=Lst.nil _ _
   have hbt : bits BinOp.and IntKind.i64 1 1 = 1:=by decide
   have HT:=Lib.hid hT
   clear hT
   have S0 : Hid (Sv B b w s w):=⟨h,hG,hB,Fp.refl _ _ _⟩
   clear h hG
   have hle:=S0.out.le
   have hbl:=S0.out.pn.lt
   go_enter Tryz.func80,Tryz.ntmps80
   have cc:=putAt S0.out.pn S0.out.le [[91]] (by simp) (len1 (by decide)) #[.string ⟨#[91]⟩] rfl
   go_wp2_with fail
   refine cc.mono ?_
   rintro e w1 ⟨rfl,hp,hf⟩
   have S1:=Lib.hid (S0.out.step hp hf)
   clear cc hp hf hle hbl
   have hle:=S1.out.le
   have hbl:=S1.out.pn.lt
   have cc:=eachW enP_expression pr B b _ _ ([x]) (.slice (some ⟨g,o,none⟩) 1 c) S1.out.gw S1.out.pn S1.out.le (lst_below HL.out S1.out.fp.below) (by simp) (by simpa using HI.out)
   go_wp2_with fail
   refine cc.mono ?_
   rintro e w2 ⟨rfl,hp,hf⟩
   have S2:=Lib.hid (S1.out.step hp hf)
   clear cc hp hf hle hbl
   have hle:=S2.out.le
   have hbl:=S2.out.pn.lt
   have cc:=putAt S2.out.pn S2.out.le [[58]] (by simp) (len1 (by decide)) #[.string ⟨#[58]⟩] rfl
   go_wp2_with fail
   refine cc.mono ?_
   rintro e w3 ⟨rfl,hp,hf⟩
   have S3:=Lib.hid (S2.out.step hp hf)
   clear cc hp hf hle hbl
   have hle:=S3.out.le
   have hbl:=S3.out.pn.lt
   have cc:=eachW enP_expression pr B b _ _ (([] : List Tr)) (.slice (some ⟨g,o + 4,none⟩) 0 (c - 1)) S3.out.gw S3.out.pn S3.out.le (lst_below HL2.out S3.out.fp.below) (by simp) (by simp)
   go_wp2_with fail
   refine cc.mono ?_
   rintro e w4 ⟨rfl,hp,hf⟩
   have S4:=Lib.hid (S3.out.step hp hf)
   clear cc hp hf hle hbl
   have hle:=S4.out.le
   have hbl:=S4.out.pn.lt
   have cc:=putAt S4.out.pn S4.out.le [[93]] (by simp) (len1 (by decide)) #[.string ⟨#[93]⟩] rfl
   go_wp2_with fail
   refine cc.mono ?_
   rintro e w5 ⟨rfl,hp,hf⟩
   have S5:=Lib.hid (S4.out.step hp hf)
   clear cc hp hf hle hbl
   have hle:=S5.out.le
   have hbl:=S5.out.pn.lt
   go_wp2
   go_end0
   exact ⟨rfl,by rw [HT.out,puts_append,puts_append,puts_append,puts_append]; exact S5.out.pn,S5.out.fp⟩
 · obtain rfl : c = 1:=by omega
   have HL2 : Hid (Lst w (· < B) [] (.slice (some ⟨g,o,none⟩) 0 0)):=Lst.nil _ _
   have hbt : bits BinOp.and IntKind.i64 1 1 = 1:=by decide
   have HT:=Lib.hid hT
   clear hT
   have S0 : Hid (Sv B b w s w):=⟨h,hG,hB,Fp.refl _ _ _⟩
   clear h hG
   have hle:=S0.out.le
   have hbl:=S0.out.pn.lt
   go_enter Tryz.func80,Tryz.ntmps80
   have cc:=putAt S0.out.pn S0.out.le [[91]] (by simp) (len1 (by decide)) #[.string ⟨#[91]⟩] rfl
   go_wp2_with fail
   refine cc.mono ?_
   rintro e w1 ⟨rfl,hp,hf⟩
   have S1:=Lib.hid (S0.out.step hp hf)
   clear cc hp hf hle hbl
   have hle:=S1.out.le
   have hbl:=S1.out.pn.lt
   have cc:=eachW enP_expression pr B b _ _ ([x]) (.slice (some ⟨g,o,none⟩) 1 1) S1.out.gw S1.out.pn S1.out.le (lst_below HL.out S1.out.fp.below) (by simp) (by simpa using HI.out)
   go_wp2_with fail
   refine cc.mono ?_
   rintro e w2 ⟨rfl,hp,hf⟩
   have S2:=Lib.hid (S1.out.step hp hf)
   clear cc hp hf hle hbl
   have hle:=S2.out.le
   have hbl:=S2.out.pn.lt
   have cc:=putAt S2.out.pn S2.out.le [[58]] (by simp) (len1 (by decide)) #[.string ⟨#[58]⟩] rfl
   go_wp2_with fail
   refine cc.mono ?_
   rintro e w3 ⟨rfl,hp,hf⟩
   have S3:=Lib.hid (S2.out.step hp hf)
   clear cc hp hf hle hbl
   have hle:=S3.out.le
   have hbl:=S3.out.pn.lt
   have cc:=eachW enP_expression pr B b _ _ (([] : List Tr)) (.slice (some ⟨g,o,none⟩) 0 0) S3.out.gw S3.out.pn S3.out.le (lst_below HL2.out S3.out.fp.below) (by simp) (by simp)
   go_wp2_with fail
   refine cc.mono ?_
   rintro e w4 ⟨rfl,hp,hf⟩
   have S4:=Lib.hid (S3.out.step hp hf)
   clear cc hp hf hle hbl
   have hle:=S4.out.le
   have hbl:=S4.out.pn.lt
   have cc:=putAt S4.out.pn S4.out.le [[93]] (by simp) (len1 (by decide)) #[.string ⟨#[93]⟩] rfl
   go_wp2_with fail
   refine cc.mono ?_
   rintro e w5 ⟨rfl,hp,hf⟩
   have S5:=Lib.hid (S4.out.step hp hf)
   clear cc hp hf hle hbl
   have hle:=S5.out.le
   have hbl:=S5.out.pn.lt
   go_wp2
   go_end0
   exact ⟨rfl,by rw [HT.out,puts_append,puts_append,puts_append,puts_append]; exact S5.out.pn,S5.out.fp⟩
set_option maxRecDepth 20000 in
set_option maxHeartbeats 400000 in
theorem cut_w2  {pr : Tr → List Wd} {x : Tr} (hI : Wr 22 x (pr x)) {tk : List Wd} (hT : tk = [[91]] ++ ((([] : List Tr)).flatMap pr ++ ([[58]] ++ (([x]).flatMap pr ++ [[93]])))) : WrC 2 [x] tk:=fun B b s w sl hG h hB hL => by
 obtain ⟨g,o,c,rfl,hc⟩ : ∃ g o c,sl = .slice (some ⟨g,o,none⟩) 1 c ∧ 1 ≤ c:=by
  obtain ⟨sls,h1 | ⟨g,o,c,h1,h2,_⟩,_⟩:=hL
  · cases h1.1
  · exact ⟨g,o,c,h1,h2⟩
 have HL:=Lib.hid hL
 have HI : Hid (Wr 22 x (pr x)):=hI
 clear hL hI
 have HL2 : Hid (Lst w (· < B) [] (.slice (some ⟨g,o,none⟩) 0 c)):=Lst.nil _ _
 have hc0 : (c == 0) = false:=by simp; omega
 have hbt : bits BinOp.and IntKind.i64 2 1 = 0:=by decide
 have HT:=Lib.hid hT
 clear hT
 have S0 : Hid (Sv B b w s w):=⟨h,hG,hB,Fp.refl _ _ _⟩
 clear h hG
 have hle:=S0.out.le
 have hbl:=S0.out.pn.lt
 go_enter Tryz.func80,Tryz.ntmps80
 have cc:=putAt S0.out.pn S0.out.le [[91]] (by simp) (len1 (by decide)) #[.string ⟨#[91]⟩] rfl
 go_wp2_with fail
 refine cc.mono ?_
 rintro e w1 ⟨rfl,hp,hf⟩
 have S1:=Lib.hid (S0.out.step hp hf)
 clear cc hp hf hle hbl
 have hle:=S1.out.le
 have hbl:=S1.out.pn.lt
 have cc:=eachW enP_expression pr B b _ _ (([] : List Tr)) (.slice (some ⟨g,o,none⟩) 0 c) S1.out.gw S1.out.pn S1.out.le (lst_below HL2.out S1.out.fp.below) (by simp) (by simp)
 go_wp2_with fail
 refine cc.mono ?_
 rintro e w2 ⟨rfl,hp,hf⟩
 have S2:=Lib.hid (S1.out.step hp hf)
 clear cc hp hf hle hbl
 have hle:=S2.out.le
 have hbl:=S2.out.pn.lt
 have cc:=putAt S2.out.pn S2.out.le [[58]] (by simp) (len1 (by decide)) #[.string ⟨#[58]⟩] rfl
 go_wp2_with fail
 refine cc.mono ?_
 rintro e w3 ⟨rfl,hp,hf⟩
 have S3:=Lib.hid (S2.out.step hp hf)
 clear cc hp hf hle hbl
 have hle:=S3.out.le
 have hbl:=S3.out.pn.lt
 have cc:=eachW enP_expression pr B b _ _ ([x]) (.slice (some ⟨g,o,none⟩) 1 c) S3.out.gw S3.out.pn S3.out.le (lst_below HL.out S3.out.fp.below) (by simp) (by simpa using HI.out)
 go_wp2_with fail
 refine cc.mono ?_
 rintro e w4 ⟨rfl,hp,hf⟩
 have S4:=Lib.hid (S3.out.step hp hf)
 clear cc hp hf hle hbl
 have hle:=S4.out.le
 have hbl:=S4.out.pn.lt
 have cc:=putAt S4.out.pn S4.out.le [[93]] (by simp) (len1 (by decide)) #[.string ⟨#[93]⟩] rfl
 go_wp2_with fail
 refine cc.mono ?_
 rintro e w5 ⟨rfl,hp,hf⟩
 have S5:=Lib.hid (S4.out.step hp hf)
 clear cc hp hf hle hbl
 have hle:=S5.out.le
 have hbl:=S5.out.pn.lt
 go_wp2
 go_end0
 exact ⟨rfl,by rw [HT.out,puts_append,puts_append,puts_append,puts_append]; exact S5.out.pn,S5.out.fp⟩
set_option maxRecDepth 20000 in
set_option maxHeartbeats 400000 in
theorem cut_w3  {pr : Tr → List Wd} {x y : Tr} (hI : Wr 22 x (pr x)) (hJ : Wr 22 y (pr y)) {tk : List Wd} (hT : tk = [[91]] ++ (([x]).flatMap pr ++ ([[58]] ++ (([y]).flatMap pr ++ [[93]])))) : WrC 3 [x,y] tk:=fun B b s w sl hG h hB hL => by
 obtain ⟨g,o,c,rfl,hc⟩ : ∃ g o c,sl = .slice (some ⟨g,o,none⟩) 2 c ∧ 2 ≤ c:=by
  obtain ⟨sls,h1 | ⟨g,o,c,h1,h2,_⟩,_⟩:=hL
  · cases h1.1
  · exact ⟨g,o,c,h1,h2⟩
 have HI : Hid (Wr 22 x (pr x)):=hI
 have HJ : Hid (Wr 22 y (pr y)):=hJ
 obtain ⟨HL1,HL2⟩ : Hid (Lst w (· < B) [x] (.slice (some ⟨g,o,none⟩) 1 c)) ∧ Hid (Lst w (· < B) [y] (.slice (some ⟨g,o + 4,none⟩) 1 (c - 1))):=by
  rcases Lst.cut (ts:=[x,y]) hL (k:=1) (by simp) with ⟨h0,_⟩ | ⟨g2,o2,e,h1,_,L1,L2⟩ | ⟨g2,o2,e,h1,_,_⟩
  · cases h0
  · cases e; exact ⟨L1,L2⟩
  · cases h1
 clear hL hI hJ
 have hck0 : (c - 1 == 0) = false:=by simp; omega
 have hbt : bits BinOp.and IntKind.i64 3 1 = 1:=by decide
 have HT:=Lib.hid hT
 clear hT
 have S0 : Hid (Sv B b w s w):=⟨h,hG,hB,Fp.refl _ _ _⟩
 clear h hG
 have hle:=S0.out.le
 have hbl:=S0.out.pn.lt
 go_enter Tryz.func80,Tryz.ntmps80
 have cc:=putAt S0.out.pn S0.out.le [[91]] (by simp) (len1 (by decide)) #[.string ⟨#[91]⟩] rfl
 go_wp2_with fail
 refine cc.mono ?_
 rintro e w1 ⟨rfl,hp,hf⟩
 have S1:=Lib.hid (S0.out.step hp hf)
 clear cc hp hf hle hbl
 have hle:=S1.out.le
 have hbl:=S1.out.pn.lt
 have cc:=eachW enP_expression pr B b _ _ ([x]) (.slice (some ⟨g,o,none⟩) 1 c) S1.out.gw S1.out.pn S1.out.le (lst_below HL1.out S1.out.fp.below) (by simp) (by simpa using HI.out)
 go_wp2_with fail
 refine cc.mono ?_
 rintro e w2 ⟨rfl,hp,hf⟩
 have S2:=Lib.hid (S1.out.step hp hf)
 clear cc hp hf hle hbl
 have hle:=S2.out.le
 have hbl:=S2.out.pn.lt
 have cc:=putAt S2.out.pn S2.out.le [[58]] (by simp) (len1 (by decide)) #[.string ⟨#[58]⟩] rfl
 go_wp2_with fail
 refine cc.mono ?_
 rintro e w3 ⟨rfl,hp,hf⟩
 have S3:=Lib.hid (S2.out.step hp hf)
 clear cc hp hf hle hbl
 have hle:=S3.out.le
 have hbl:=S3.out.pn.lt
 have cc:=eachW enP_expression pr B b _ _ ([y]) (.slice (some ⟨g,o + 4,none⟩) 1 (c - 1)) S3.out.gw S3.out.pn S3.out.le (lst_below HL2.out S3.out.fp.below) (by simp) (by simpa using HJ.out)
 go_wp2_with fail
 refine cc.mono ?_
 rintro e w4 ⟨rfl,hp,hf⟩
 have S4:=Lib.hid (S3.out.step hp hf)
 clear cc hp hf hle hbl
 have hle:=S4.out.le
 have hbl:=S4.out.pn.lt
 have cc:=putAt S4.out.pn S4.out.le [[93]] (by simp) (len1 (by decide)) #[.string ⟨#[93]⟩] rfl
 go_wp2_with fail
 refine cc.mono ?_
 rintro e w5 ⟨rfl,hp,hf⟩
 have S5:=Lib.hid (S4.out.step hp hf)
 clear cc hp hf hle hbl
 have hle:=S5.out.le
 have hbl:=S5.out.pn.lt
 go_wp2
 go_end0
 exact ⟨rfl,by rw [HT.out,puts_append,puts_append,puts_append,puts_append]; exact S5.out.pn,S5.out.fp⟩
end Go.Proofs.YtffnaknidofobaaGreatDoor

namespace Go.Proofs.YtffnaknidofobaaGreatDoor
open Go.RowKit
/-- All but the first of a list that lies. -/
theorem Lst.rest {w : World} {S : Nat → Prop} {ts : List Tr} {g o n c : Nat} (h : Lst w S ts (.slice (some ⟨g,o,none⟩) n c)) (hn : n = ts.length) (h0 : 0 < ts.length) :
    (1 < c ∧ Lst w S (ts.drop 1) (.slice (some ⟨g,o + 4,none⟩) (n - 1) (c - 1))) ∨ (c = 1 ∧ n = 1 ∧ Lst w S (ts.drop 1) (.slice (some ⟨g,o,none⟩) 0 0)):=by
  subst hn
  rcases h.cut (k:=1) (by omega) with ⟨h1,_⟩ | ⟨g2,o2,e,h1,_,L1,L2⟩ | ⟨g2,o2,e,h1,h2,_⟩
  · rw [h1] at h0; cases h0
  · cases e; exact .inl ⟨h1,L2⟩
  · refine .inr ⟨by omega,by omega,?_⟩
    rw [h1,List.drop_length]; exact Lst.nil _ _
set_option maxRecDepth 20000 in
set_option maxHeartbeats 400000 in
theorem behind_w48 {t : Tr} {a : Tr} (ha : t.kids[0]? = some a) (hkd : t.kind = 48) (hlen : t.kids.length = 1) (htx : t.text.length ≤ 1000000) {tk : List Wd} (hT : tk = [[46],t.text]) : Wr 50 t tk:=fun B b s w sl hG h hB hk => by
 obtain ⟨ao,c,rfl⟩ : ∃ ao c,sl = .slice ao 1 c:=by obtain ⟨ao,c,e⟩:=(Lst.kids hk).slice; exact ⟨ao,c,by rw [e,hlen]⟩
 have HT:=Lib.hid hT
 clear hT
 have H_hkd:=Lib.hid hkd
 clear hkd
 have S0:=Lib.hid (Sw.start hG h hB hk)
 obtain ⟨g,o,rfl,hn0,hcc⟩:=S0.out.addr 0 ha
 clear hn0
 have HL:=Lib.hid (Lst.kids hk)
 have hlk:=(List.getElem?_eq_some_iff.1 ha).1
 rcases HL.out.rest (by omega) hlk with ⟨h1c,HR⟩ | ⟨h1c,hn1,HR⟩
 · replace HR:=Lib.hid HR
   have hck0 : (c - 1 == 0) = false:=by simp; omega
   obtain ⟨W0,hW⟩ : ∃ W,w.alloc (nbx t (.slice (some ⟨g,o,none⟩) 1 c)) = W:=⟨_,rfl⟩
   rw [hW] at S0
   have hW' : w.alloc (.cells #[.int .i64 t.kind,.string ⟨t.text.toArray⟩,.int .i64 t.num,.slice (some ⟨g,o,none⟩) 1 c] 24) = W0:=hW
   clear hW h hG hk
   generalize hm : w.heap.size = m at *
   have y0:=S0.out.c0
   have y1:=S0.out.c1
   have y2:=S0.out.c2
   have y3:=S0.out.c3
   rw [H_hkd.out] at y0
   have hle:=S0.out.le
   have hbl:=S0.out.bl
   have hml:=S0.out.ml
   go_enter Tryz.func50,Tryz.ntmps50
   have cc:=putAt S0.out.pn S0.out.le [[46],t.text] (by simp) (len2 (by decide) htx) #[.string ⟨#[46]⟩,.string ⟨t.text.toArray⟩] rfl
   go_wp2_with fail
   refine cc.mono ?_
   rintro e w1 ⟨rfl,hp,hf⟩
   have S1:=Lib.hid (S0.out.step hp hf)
   clear cc hp hf y0 y1 y2 y3 hle hbl hml
   have y0:=S1.out.c0
   have y1:=S1.out.c1
   have y2:=S1.out.c2
   have y3:=S1.out.c3
   rw [H_hkd.out] at y0
   have hle:=S1.out.le
   have hbl:=S1.out.bl
   have hml:=S1.out.ml
   go_wp2
   go_end0
   exact ⟨rfl,by rw [HT.out]; exact S1.out.pn,S1.out.fp⟩
 · replace HR:=Lib.hid HR
   subst h1c
   obtain ⟨W0,hW⟩ : ∃ W,w.alloc (nbx t (.slice (some ⟨g,o,none⟩) 1 1)) = W:=⟨_,rfl⟩
   rw [hW] at S0
   have hW' : w.alloc (.cells #[.int .i64 t.kind,.string ⟨t.text.toArray⟩,.int .i64 t.num,.slice (some ⟨g,o,none⟩) 1 1] 24) = W0:=hW
   clear hW h hG hk hn1
   generalize hm : w.heap.size = m at *
   have y0:=S0.out.c0
   have y1:=S0.out.c1
   have y2:=S0.out.c2
   have y3:=S0.out.c3
   rw [H_hkd.out] at y0
   have hle:=S0.out.le
   have hbl:=S0.out.bl
   have hml:=S0.out.ml
   go_enter Tryz.func50,Tryz.ntmps50
   have cc:=putAt S0.out.pn S0.out.le [[46],t.text] (by simp) (len2 (by decide) htx) #[.string ⟨#[46]⟩,.string ⟨t.text.toArray⟩] rfl
   go_wp2_with fail
   refine cc.mono ?_
   rintro e w1 ⟨rfl,hp,hf⟩
   have S1:=Lib.hid (S0.out.step hp hf)
   clear cc hp hf y0 y1 y2 y3 hle hbl hml
   have y0:=S1.out.c0
   have y1:=S1.out.c1
   have y2:=S1.out.c2
   have y3:=S1.out.c3
   rw [H_hkd.out] at y0
   have hle:=S1.out.le
   have hbl:=S1.out.bl
   have hml:=S1.out.ml
   go_wp2
   go_end0
   exact ⟨rfl,by rw [HT.out]; exact S1.out.pn,S1.out.fp⟩
set_option maxRecDepth 20000 in
set_option maxHeartbeats 400000 in
theorem behind_w49 {t : Tr} {a : Tr} (ha : t.kids[0]? = some a) (hkd : t.kind = 49) (hlen : t.kids.length = 2) (hn : (t.kids.drop 1).length ≤ 20000) {pr : Tr → List Wd} (hI : ∀ a ∈ t.kids.drop 1,Wr 22 a (pr a)) {tk : List Wd} (hT : tk = listedT [91] [93] pr (t.kids.drop 1)) : Wr 50 t tk:=fun B b s w sl hG h hB hk => by
 obtain ⟨ao,c,rfl⟩ : ∃ ao c,sl = .slice ao 2 c:=by obtain ⟨ao,c,e⟩:=(Lst.kids hk).slice; exact ⟨ao,c,by rw [e,hlen]⟩
 have HT:=Lib.hid hT
 clear hT
 have H_hkd:=Lib.hid hkd
 clear hkd
 have H_hI:=Lib.hid hI
 clear hI
 have S0:=Lib.hid (Sw.start hG h hB hk)
 obtain ⟨g,o,rfl,hn0,hcc⟩:=S0.out.addr 0 ha
 clear hn0
 have HL:=Lib.hid (Lst.kids hk)
 have hlk:=(List.getElem?_eq_some_iff.1 ha).1
 rcases HL.out.rest (by omega) hlk with ⟨h1c,HR⟩ | ⟨h1c,hn1,HR⟩
 · replace HR:=Lib.hid HR
   have hck0 : (c - 1 == 0) = false:=by simp; omega
   obtain ⟨W0,hW⟩ : ∃ W,w.alloc (nbx t (.slice (some ⟨g,o,none⟩) 2 c)) = W:=⟨_,rfl⟩
   rw [hW] at S0
   have hW' : w.alloc (.cells #[.int .i64 t.kind,.string ⟨t.text.toArray⟩,.int .i64 t.num,.slice (some ⟨g,o,none⟩) 2 c] 24) = W0:=hW
   clear hW h hG hk
   generalize hm : w.heap.size = m at *
   have y0:=S0.out.c0
   have y1:=S0.out.c1
   have y2:=S0.out.c2
   have y3:=S0.out.c3
   rw [H_hkd.out] at y0
   have hle:=S0.out.le
   have hbl:=S0.out.bl
   have hml:=S0.out.ml
   go_enter Tryz.func50,Tryz.ntmps50
   have cc:=listedW enP_expression pr [91] [93] (by decide) (by decide) B b _ _ (t.kids.drop 1) (.slice (some ⟨g,o + 4,none⟩) 1 (c - 1)) S0.out.gw S0.out.pn S0.out.le (lst_below HR.out S0.out.fp.below) hn H_hI.out
   go_wp2_with fail
   refine cc.mono ?_
   rintro e w1 ⟨rfl,hp,hf⟩
   have S1:=Lib.hid (S0.out.step hp hf)
   clear cc hp hf y0 y1 y2 y3 hle hbl hml
   have y0:=S1.out.c0
   have y1:=S1.out.c1
   have y2:=S1.out.c2
   have y3:=S1.out.c3
   rw [H_hkd.out] at y0
   have hle:=S1.out.le
   have hbl:=S1.out.bl
   have hml:=S1.out.ml
   go_wp2
   go_end0
   exact ⟨rfl,by rw [HT.out]; exact S1.out.pn,S1.out.fp⟩
 · omega
set_option maxRecDepth 20000 in
set_option maxHeartbeats 400000 in
theorem behind_w51 {t : Tr} {a : Tr} (ha : t.kids[0]? = some a) (hkd : t.kind = 51) (hn : (t.kids.drop 1).length ≤ 20000) {pr : Tr → List Wd} (hI : ∀ a ∈ t.kids.drop 1,Wr 22 a (pr a)) {tk : List Wd} (hT : tk = listedT [40] [41] pr (t.kids.drop 1)) : Wr 50 t tk:=fun B b s w sl hG h hB hk => by
 obtain ⟨ao,c,rfl⟩ : ∃ ao c,sl = .slice ao t.kids.length c:=(Lst.kids hk).slice
 have HT:=Lib.hid hT
 clear hT
 have H_hkd:=Lib.hid hkd
 clear hkd
 have H_hI:=Lib.hid hI
 clear hI
 have S0:=Lib.hid (Sw.start hG h hB hk)
 obtain ⟨g,o,rfl,hn0,hcc⟩:=S0.out.addr 0 ha
 clear hn0
 have HL:=Lib.hid (Lst.kids hk)
 have hlk:=(List.getElem?_eq_some_iff.1 ha).1
 rcases HL.out.rest rfl hlk with ⟨h1c,HR⟩ | ⟨h1c,hn1,HR⟩
 · replace HR:=Lib.hid HR
   have hck0 : (c - 1 == 0) = false:=by simp; omega
   obtain ⟨W0,hW⟩ : ∃ W,w.alloc (nbx t (.slice (some ⟨g,o,none⟩) t.kids.length c)) = W:=⟨_,rfl⟩
   rw [hW] at S0
   have hW' : w.alloc (.cells #[.int .i64 t.kind,.string ⟨t.text.toArray⟩,.int .i64 t.num,.slice (some ⟨g,o,none⟩) t.kids.length c] 24) = W0:=hW
   clear hW h hG hk
   generalize hm : w.heap.size = m at *
   have y0:=S0.out.c0
   have y1:=S0.out.c1
   have y2:=S0.out.c2
   have y3:=S0.out.c3
   rw [H_hkd.out] at y0
   have hle:=S0.out.le
   have hbl:=S0.out.bl
   have hml:=S0.out.ml
   go_enter Tryz.func50,Tryz.ntmps50
   have cc:=listedW enP_expression pr [40] [41] (by decide) (by decide) B b _ _ (t.kids.drop 1) (.slice (some ⟨g,o + 4,none⟩) (t.kids.length - 1) (c - 1)) S0.out.gw S0.out.pn S0.out.le (lst_below HR.out S0.out.fp.below) hn H_hI.out
   go_wp2_with fail
   refine cc.mono ?_
   rintro e w1 ⟨rfl,hp,hf⟩
   have S1:=Lib.hid (S0.out.step hp hf)
   clear cc hp hf y0 y1 y2 y3 hle hbl hml
   have y0:=S1.out.c0
   have y1:=S1.out.c1
   have y2:=S1.out.c2
   have y3:=S1.out.c3
   rw [H_hkd.out] at y0
   have hle:=S1.out.le
   have hbl:=S1.out.bl
   have hml:=S1.out.ml
   go_wp2
   go_end0
   exact ⟨rfl,by rw [HT.out]; exact S1.out.pn,S1.out.fp⟩
 · replace HR:=Lib.hid HR
   subst h1c
   have hlen1 : t.kids.length = 1:=hn1
   rw [hlen1] at S0
   obtain ⟨W0,hW⟩ : ∃ W,w.alloc (nbx t (.slice (some ⟨g,o,none⟩) 1 1)) = W:=⟨_,rfl⟩
   rw [hW] at S0
   have hW' : w.alloc (.cells #[.int .i64 t.kind,.string ⟨t.text.toArray⟩,.int .i64 t.num,.slice (some ⟨g,o,none⟩) 1 1] 24) = W0:=hW
   clear hW h hG hk hn1
   rw [hlen1]
   generalize hm : w.heap.size = m at *
   have y0:=S0.out.c0
   have y1:=S0.out.c1
   have y2:=S0.out.c2
   have y3:=S0.out.c3
   rw [H_hkd.out] at y0
   have hle:=S0.out.le
   have hbl:=S0.out.bl
   have hml:=S0.out.ml
   go_enter Tryz.func50,Tryz.ntmps50
   have cc:=listedW enP_expression pr [40] [41] (by decide) (by decide) B b _ _ (t.kids.drop 1) (.slice (some ⟨g,o,none⟩) 0 0) S0.out.gw S0.out.pn S0.out.le (lst_below HR.out S0.out.fp.below) hn H_hI.out
   go_wp2_with fail
   refine cc.mono ?_
   rintro e w1 ⟨rfl,hp,hf⟩
   have S1:=Lib.hid (S0.out.step hp hf)
   clear cc hp hf y0 y1 y2 y3 hle hbl hml
   have y0:=S1.out.c0
   have y1:=S1.out.c1
   have y2:=S1.out.c2
   have y3:=S1.out.c3
   rw [H_hkd.out] at y0
   have hle:=S1.out.le
   have hbl:=S1.out.bl
   have hml:=S1.out.ml
   go_wp2
   go_end0
   exact ⟨rfl,by rw [HT.out]; exact S1.out.pn,S1.out.fp⟩
set_option maxRecDepth 20000 in
set_option maxHeartbeats 400000 in
theorem behind_w50_0 {t : Tr} {a : Tr} (ha : t.kids[0]? = some a) (hkd : t.kind = 50) (hnum : t.num = 0) (hlen : t.kids.length = 1) {tk0 : List Wd} (hI : WrC 0 (t.kids.drop 1) tk0) {tk : List Wd} (hT : tk = tk0) : Wr 50 t tk:=fun B b s w sl hG h hB hk => by
 obtain ⟨ao,c,rfl⟩ : ∃ ao c,sl = .slice ao 1 c:=by obtain ⟨ao,c,e⟩:=(Lst.kids hk).slice; exact ⟨ao,c,by rw [e,hlen]⟩
 have HT:=Lib.hid hT
 clear hT
 have H_hkd:=Lib.hid hkd
 clear hkd
 have H_hnum:=Lib.hid hnum
 clear hnum
 have H_hI:=Lib.hid hI
 clear hI
 have S0:=Lib.hid (Sw.start hG h hB hk)
 obtain ⟨g,o,rfl,hn0,hcc⟩:=S0.out.addr 0 ha
 clear hn0
 have HL:=Lib.hid (Lst.kids hk)
 have hlk:=(List.getElem?_eq_some_iff.1 ha).1
 rcases HL.out.rest (by omega) hlk with ⟨h1c,HR⟩ | ⟨h1c,hn1,HR⟩
 · replace HR:=Lib.hid HR
   have hck0 : (c - 1 == 0) = false:=by simp; omega
   obtain ⟨W0,hW⟩ : ∃ W,w.alloc (nbx t (.slice (some ⟨g,o,none⟩) 1 c)) = W:=⟨_,rfl⟩
   rw [hW] at S0
   have hW' : w.alloc (.cells #[.int .i64 t.kind,.string ⟨t.text.toArray⟩,.int .i64 t.num,.slice (some ⟨g,o,none⟩) 1 c] 24) = W0:=hW
   clear hW h hG hk
   generalize hm : w.heap.size = m at *
   have y0:=S0.out.c0
   have y1:=S0.out.c1
   have y2:=S0.out.c2
   have y3:=S0.out.c3
   rw [H_hkd.out] at y0
   rw [H_hnum.out] at y2
   have hle:=S0.out.le
   have hbl:=S0.out.bl
   have hml:=S0.out.ml
   go_enter Tryz.func50,Tryz.ntmps50
   have cc:=H_hI.out B b _ _ (.slice (some ⟨g,o + 4,none⟩) 0 (c - 1)) S0.out.gw S0.out.pn S0.out.le (lst_below HR.out S0.out.fp.below)
   go_wp2_with fail
   refine cc.mono ?_
   rintro e w1 ⟨rfl,hp,hf⟩
   have S1:=Lib.hid (S0.out.step hp hf)
   clear cc hp hf y0 y1 y2 y3 hle hbl hml
   have y0:=S1.out.c0
   have y1:=S1.out.c1
   have y2:=S1.out.c2
   have y3:=S1.out.c3
   rw [H_hkd.out] at y0
   rw [H_hnum.out] at y2
   have hle:=S1.out.le
   have hbl:=S1.out.bl
   have hml:=S1.out.ml
   go_wp2
   go_end0
   exact ⟨rfl,by rw [HT.out]; exact S1.out.pn,S1.out.fp⟩
 · replace HR:=Lib.hid HR
   subst h1c
   obtain ⟨W0,hW⟩ : ∃ W,w.alloc (nbx t (.slice (some ⟨g,o,none⟩) 1 1)) = W:=⟨_,rfl⟩
   rw [hW] at S0
   have hW' : w.alloc (.cells #[.int .i64 t.kind,.string ⟨t.text.toArray⟩,.int .i64 t.num,.slice (some ⟨g,o,none⟩) 1 1] 24) = W0:=hW
   clear hW h hG hk hn1
   generalize hm : w.heap.size = m at *
   have y0:=S0.out.c0
   have y1:=S0.out.c1
   have y2:=S0.out.c2
   have y3:=S0.out.c3
   rw [H_hkd.out] at y0
   rw [H_hnum.out] at y2
   have hle:=S0.out.le
   have hbl:=S0.out.bl
   have hml:=S0.out.ml
   go_enter Tryz.func50,Tryz.ntmps50
   have cc:=H_hI.out B b _ _ (.slice (some ⟨g,o,none⟩) 0 0) S0.out.gw S0.out.pn S0.out.le (lst_below HR.out S0.out.fp.below)
   go_wp2_with fail
   refine cc.mono ?_
   rintro e w1 ⟨rfl,hp,hf⟩
   have S1:=Lib.hid (S0.out.step hp hf)
   clear cc hp hf y0 y1 y2 y3 hle hbl hml
   have y0:=S1.out.c0
   have y1:=S1.out.c1
   have y2:=S1.out.c2
   have y3:=S1.out.c3
   rw [H_hkd.out] at y0
   rw [H_hnum.out] at y2
   have hle:=S1.out.le
   have hbl:=S1.out.bl
   have hml:=S1.out.ml
   go_wp2
   go_end0
   exact ⟨rfl,by rw [HT.out]; exact S1.out.pn,S1.out.fp⟩
set_option maxRecDepth 20000 in
set_option maxHeartbeats 400000 in
theorem behind_w50_1 {t : Tr} {a : Tr} (ha : t.kids[0]? = some a) (hkd : t.kind = 50) (hnum : t.num = 1) (hlen : t.kids.length = 2) {tk0 : List Wd} (hI : WrC 1 (t.kids.drop 1) tk0) {tk : List Wd} (hT : tk = tk0) : Wr 50 t tk:=fun B b s w sl hG h hB hk => by
 obtain ⟨ao,c,rfl⟩ : ∃ ao c,sl = .slice ao 2 c:=by obtain ⟨ao,c,e⟩:=(Lst.kids hk).slice; exact ⟨ao,c,by rw [e,hlen]⟩
 have HT:=Lib.hid hT
 clear hT
 have H_hkd:=Lib.hid hkd
 clear hkd
 have H_hnum:=Lib.hid hnum
 clear hnum
 have H_hI:=Lib.hid hI
 clear hI
 have S0:=Lib.hid (Sw.start hG h hB hk)
 obtain ⟨g,o,rfl,hn0,hcc⟩:=S0.out.addr 0 ha
 clear hn0
 have HL:=Lib.hid (Lst.kids hk)
 have hlk:=(List.getElem?_eq_some_iff.1 ha).1
 rcases HL.out.rest (by omega) hlk with ⟨h1c,HR⟩ | ⟨h1c,hn1,HR⟩
 · replace HR:=Lib.hid HR
   have hck0 : (c - 1 == 0) = false:=by simp; omega
   obtain ⟨W0,hW⟩ : ∃ W,w.alloc (nbx t (.slice (some ⟨g,o,none⟩) 2 c)) = W:=⟨_,rfl⟩
   rw [hW] at S0
   have hW' : w.alloc (.cells #[.int .i64 t.kind,.string ⟨t.text.toArray⟩,.int .i64 t.num,.slice (some ⟨g,o,none⟩) 2 c] 24) = W0:=hW
   clear hW h hG hk
   generalize hm : w.heap.size = m at *
   have y0:=S0.out.c0
   have y1:=S0.out.c1
   have y2:=S0.out.c2
   have y3:=S0.out.c3
   rw [H_hkd.out] at y0
   rw [H_hnum.out] at y2
   have hle:=S0.out.le
   have hbl:=S0.out.bl
   have hml:=S0.out.ml
   go_enter Tryz.func50,Tryz.ntmps50
   have cc:=H_hI.out B b _ _ (.slice (some ⟨g,o + 4,none⟩) 1 (c - 1)) S0.out.gw S0.out.pn S0.out.le (lst_below HR.out S0.out.fp.below)
   go_wp2_with fail
   refine cc.mono ?_
   rintro e w1 ⟨rfl,hp,hf⟩
   have S1:=Lib.hid (S0.out.step hp hf)
   clear cc hp hf y0 y1 y2 y3 hle hbl hml
   have y0:=S1.out.c0
   have y1:=S1.out.c1
   have y2:=S1.out.c2
   have y3:=S1.out.c3
   rw [H_hkd.out] at y0
   rw [H_hnum.out] at y2
   have hle:=S1.out.le
   have hbl:=S1.out.bl
   have hml:=S1.out.ml
   go_wp2
   go_end0
   exact ⟨rfl,by rw [HT.out]; exact S1.out.pn,S1.out.fp⟩
 · omega
set_option maxRecDepth 20000 in
set_option maxHeartbeats 400000 in
theorem behind_w50_2 {t : Tr} {a : Tr} (ha : t.kids[0]? = some a) (hkd : t.kind = 50) (hnum : t.num = 2) (hlen : t.kids.length = 2) {tk0 : List Wd} (hI : WrC 2 (t.kids.drop 1) tk0) {tk : List Wd} (hT : tk = tk0) : Wr 50 t tk:=fun B b s w sl hG h hB hk => by
 obtain ⟨ao,c,rfl⟩ : ∃ ao c,sl = .slice ao 2 c:=by obtain ⟨ao,c,e⟩:=(Lst.kids hk).slice; exact ⟨ao,c,by rw [e,hlen]⟩
 have HT:=Lib.hid hT
 clear hT
 have H_hkd:=Lib.hid hkd
 clear hkd
 have H_hnum:=Lib.hid hnum
 clear hnum
 have H_hI:=Lib.hid hI
 clear hI
 have S0:=Lib.hid (Sw.start hG h hB hk)
 obtain ⟨g,o,rfl,hn0,hcc⟩:=S0.out.addr 0 ha
 clear hn0
 have HL:=Lib.hid (Lst.kids hk)
 have hlk:=(List.getElem?_eq_some_iff.1 ha).1
 rcases HL.out.rest (by omega) hlk with ⟨h1c,HR⟩ | ⟨h1c,hn1,HR⟩
 · replace HR:=Lib.hid HR
   have hck0 : (c - 1 == 0) = false:=by simp; omega
   obtain ⟨W0,hW⟩ : ∃ W,w.alloc (nbx t (.slice (some ⟨g,o,none⟩) 2 c)) = W:=⟨_,rfl⟩
   rw [hW] at S0
   have hW' : w.alloc (.cells #[.int .i64 t.kind,.string ⟨t.text.toArray⟩,.int .i64 t.num,.slice (some ⟨g,o,none⟩) 2 c] 24) = W0:=hW
   clear hW h hG hk
   generalize hm : w.heap.size = m at *
   have y0:=S0.out.c0
   have y1:=S0.out.c1
   have y2:=S0.out.c2
   have y3:=S0.out.c3
   rw [H_hkd.out] at y0
   rw [H_hnum.out] at y2
   have hle:=S0.out.le
   have hbl:=S0.out.bl
   have hml:=S0.out.ml
   go_enter Tryz.func50,Tryz.ntmps50
   have cc:=H_hI.out B b _ _ (.slice (some ⟨g,o + 4,none⟩) 1 (c - 1)) S0.out.gw S0.out.pn S0.out.le (lst_below HR.out S0.out.fp.below)
   go_wp2_with fail
   refine cc.mono ?_
   rintro e w1 ⟨rfl,hp,hf⟩
   have S1:=Lib.hid (S0.out.step hp hf)
   clear cc hp hf y0 y1 y2 y3 hle hbl hml
   have y0:=S1.out.c0
   have y1:=S1.out.c1
   have y2:=S1.out.c2
   have y3:=S1.out.c3
   rw [H_hkd.out] at y0
   rw [H_hnum.out] at y2
   have hle:=S1.out.le
   have hbl:=S1.out.bl
   have hml:=S1.out.ml
   go_wp2
   go_end0
   exact ⟨rfl,by rw [HT.out]; exact S1.out.pn,S1.out.fp⟩
 · omega
set_option maxRecDepth 20000 in
set_option maxHeartbeats 400000 in
theorem behind_w50_3 {t : Tr} {a : Tr} (ha : t.kids[0]? = some a) (hkd : t.kind = 50) (hnum : t.num = 3) (hlen : t.kids.length = 3) {tk0 : List Wd} (hI : WrC 3 (t.kids.drop 1) tk0) {tk : List Wd} (hT : tk = tk0) : Wr 50 t tk:=fun B b s w sl hG h hB hk => by
 obtain ⟨ao,c,rfl⟩ : ∃ ao c,sl = .slice ao 3 c:=by obtain ⟨ao,c,e⟩:=(Lst.kids hk).slice; exact ⟨ao,c,by rw [e,hlen]⟩
 have HT:=Lib.hid hT
 clear hT
 have H_hkd:=Lib.hid hkd
 clear hkd
 have H_hnum:=Lib.hid hnum
 clear hnum
 have H_hI:=Lib.hid hI
 clear hI
 have S0:=Lib.hid (Sw.start hG h hB hk)
 obtain ⟨g,o,rfl,hn0,hcc⟩:=S0.out.addr 0 ha
 clear hn0
 have HL:=Lib.hid (Lst.kids hk)
 have hlk:=(List.getElem?_eq_some_iff.1 ha).1
 rcases HL.out.rest (by omega) hlk with ⟨h1c,HR⟩ | ⟨h1c,hn1,HR⟩
 · replace HR:=Lib.hid HR
   have hck0 : (c - 1 == 0) = false:=by simp; omega
   obtain ⟨W0,hW⟩ : ∃ W,w.alloc (nbx t (.slice (some ⟨g,o,none⟩) 3 c)) = W:=⟨_,rfl⟩
   rw [hW] at S0
   have hW' : w.alloc (.cells #[.int .i64 t.kind,.string ⟨t.text.toArray⟩,.int .i64 t.num,.slice (some ⟨g,o,none⟩) 3 c] 24) = W0:=hW
   clear hW h hG hk
   generalize hm : w.heap.size = m at *
   have y0:=S0.out.c0
   have y1:=S0.out.c1
   have y2:=S0.out.c2
   have y3:=S0.out.c3
   rw [H_hkd.out] at y0
   rw [H_hnum.out] at y2
   have hle:=S0.out.le
   have hbl:=S0.out.bl
   have hml:=S0.out.ml
   go_enter Tryz.func50,Tryz.ntmps50
   have cc:=H_hI.out B b _ _ (.slice (some ⟨g,o + 4,none⟩) 2 (c - 1)) S0.out.gw S0.out.pn S0.out.le (lst_below HR.out S0.out.fp.below)
   go_wp2_with fail
   refine cc.mono ?_
   rintro e w1 ⟨rfl,hp,hf⟩
   have S1:=Lib.hid (S0.out.step hp hf)
   clear cc hp hf y0 y1 y2 y3 hle hbl hml
   have y0:=S1.out.c0
   have y1:=S1.out.c1
   have y2:=S1.out.c2
   have y3:=S1.out.c3
   rw [H_hkd.out] at y0
   rw [H_hnum.out] at y2
   have hle:=S1.out.le
   have hbl:=S1.out.bl
   have hml:=S1.out.ml
   go_wp2
   go_end0
   exact ⟨rfl,by rw [HT.out]; exact S1.out.pn,S1.out.fp⟩
 · omega
end Go.Proofs.YtffnaknidofobaaGreatDoor
