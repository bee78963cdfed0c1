/- The printer: its text. -/
import Derived.Test.YtffnaknidofobaaGreatDoorPrMJt
import Derived.Test.YtffnaknidofobaaGreatDoorSndIJt
namespace Go.Proofs.YtffnaknidofobaaGreatDoor
open Go.RowKit
set_option maxRecDepth 100000 in
set_option maxHeartbeats 1000000 in
theorem string_any (B b : Nat) (l : List UInt8) (bl : Bool) (w : World) (h : Prn B b l bl w) (hBw : B ≤ w.heap.size) :
    Calls Tryz.prog 33 #[.pointer (some ⟨b,0,none⟩)] w fun e w' => e = .returned (.string ⟨l.toArray⟩) ∧ Below B w w':=by
  have hbl:=h.lt
  obtain ⟨p,hp,hB,v,hbk,hown,hne⟩:=h.at
  rw [Lib.byteCells_length] at hown
  have hUS0 : ∀ (W : World) (q : Option Addr),(Builtin.unsafeString_ #[91,3] 9 #[.pointer q,.int .i64 0]).run Tryz.prog W = .ok (.string .empty) W:=fun W q => Lib.run_unsafeString_none W _ _ _ q
  rcases hown.2 with ⟨rfl,h0⟩ | ⟨g,cap,cur,fz,rfl,hbg,hg,hfz,hnc,hcm,hcs,htake⟩
  · have hl : l = []:=List.eq_nil_of_length_eq_zero h0
    subst hl
    have c1 : w.drew.cell? ⟨b,1,none⟩ = some (.slice none 0 0):=by
     have : w.drew.heap[b]? = some (.cells #[p,.slice none 0 0,.bool bl] 41 (0,0)):=hbk
     rw [Lib.cell_of_heap this]; rfl
    have hSD : (Builtin.unsafeSliceData_ #[37] 91 #[.slice none 0 0]).run Tryz.prog w.drew = .ok (.pointer none) w.drew:=rfl
    clear h hbk hown hne hp
    go_enter Tryz.func33,Tryz.ntmps33
    go_wp2
    go_region
    all_goals (go_wp2; go_ret; exact ⟨rfl,Below.drew (Below.refl B w)⟩)
  · by_cases hl0 : l = []
    · subst hl0
      by_cases hc0 : cap = 0
      · subst hc0
        have c1 : w.drew.cell? ⟨b,1,none⟩ = some (.slice (some ⟨g,0,none⟩) 0 0):=by
         have : w.drew.heap[b]? = some (.cells #[p,.slice (some ⟨g,0,none⟩) 0 0,.bool bl] 41 (0,0)):=hbk
         rw [Lib.cell_of_heap this]; rfl
        have hSD : (Builtin.unsafeSliceData_ #[37] 91 #[.slice (some ⟨g,0,none⟩) 0 0]).run Tryz.prog w.drew = .ok (.pointer (some ⟨w.drew.heap.size,0,none⟩)) (w.drew.alloc (.view ⟨g,0,none⟩ 5)) :=
          Lib.run_unsafeSliceData_zero w.drew _ _ 5 Tryz.underlying91 ⟨g,0,none⟩ 0 (5,cur.size) (by have hg' : w.drew.heap[g]? = some (.cells cur 5 fz):=hg; simp [World.shape?,hg'])
        have c2 : (w.drew.alloc (.view ⟨g,0,none⟩ 5)).cell? ⟨b,1,none⟩ = some (.slice (some ⟨g,0,none⟩) 0 0):=by
         have : (w.drew.alloc (.view ⟨g,0,none⟩ 5)).heap[b]? = _:=(Lib.alloc_old w.drew _ b hbl).trans hbk
         rw [Lib.cell_of_heap this]; rfl
        have c3 : (w.alloc (.view ⟨g,0,none⟩ 5)).drew.cell? ⟨b,1,none⟩ = some (.slice (some ⟨g,0,none⟩) 0 0):=c2
        have c0 : w.cell? ⟨b,1,none⟩ = some (.slice (some ⟨g,0,none⟩) 0 0):=c1
        clear h hbk hown hne hp
        go_enter Tryz.func33,Tryz.ntmps33
        go_wp2
        go_region
        all_goals (go_wp2; go_ret; exact ⟨rfl,(Below.drew (Below.refl B w)).alloc hBw _⟩)
      · have c1 : w.drew.cell? ⟨b,1,none⟩ = some (.slice (some ⟨g,0,none⟩) 0 cap):=by
         have : w.drew.heap[b]? = some (.cells #[p,.slice (some ⟨g,0,none⟩) 0 cap,.bool bl] 41 (0,0)):=hbk
         rw [Lib.cell_of_heap this]; rfl
        have hSD : (Builtin.unsafeSliceData_ #[37] 91 #[.slice (some ⟨g,0,none⟩) 0 cap]).run Tryz.prog w.drew = .ok (.pointer (some ⟨g,0,none⟩)) w.drew :=
          Lib.run_unsafeSliceData_row _ _ _ _ _ _ hc0
        clear h hbk hown hne hp hc0
        go_enter Tryz.func33,Tryz.ntmps33
        go_wp2
        go_region
        all_goals (go_wp2; go_ret; exact ⟨rfl,Below.drew (Below.refl B w)⟩)
    · have hl1 : l.length ≠ 0:=by simpa using hl0
      have c1 : w.drew.cell? ⟨b,1,none⟩ = some (.slice (some ⟨g,0,none⟩) l.length cap):=by
       have : w.drew.heap[b]? = some (.cells #[p,.slice (some ⟨g,0,none⟩) l.length cap,.bool bl] 41 (0,0)):=hbk
       rw [Lib.cell_of_heap this]; rfl
      have hSD : (Builtin.unsafeSliceData_ #[37] 91 #[.slice (some ⟨g,0,none⟩) l.length cap]).run Tryz.prog w.drew = .ok (.pointer (some ⟨g,0,none⟩)) w.drew :=
        Lib.run_unsafeSliceData_row _ _ _ _ _ _ (by omega)
      have hUS : (Builtin.unsafeString_ #[91,3] 9 #[.pointer (some ⟨g,0,none⟩),.int .i64 l.length]).run Tryz.prog w.drew = .ok (.string ⟨l.toArray⟩) (w.drew.freeze ⟨g,0,none⟩ l.length):=by
       refine Lib.run_unsafeString_row w.drew 91 3 9 5 Tryz.underlying91 Tryz.Builder_Extra_167.cellsByte g cur.size (by have hg' : w.drew.heap[g]? = some (.cells cur 5 fz):=hg; simp [World.shape?,hg']) l hl0 (by omega) (by unfold maxLen at hcm; omega) ?_
       intro j x hx
       exact hown.cells (g:=g) rfl j (.int .u8 x.toNat) (by simp [Lib.byteCells,hx])
      have HB : Hid (Below B w (w.drew.freeze ⟨g,0,none⟩ l.length)):=Lib.below_freeze (Below.drew (Below.refl B w)) (p:=⟨g,0,none⟩) hbg _
      clear h hbk hown hne hp hl0 hUS0 htake hfz hcs
      go_enter Tryz.func33,Tryz.ntmps33
      go_wp2
      go_region
      all_goals (go_wp2; go_ret; exact ⟨rfl,HB.out⟩)
end Go.Proofs.YtffnaknidofobaaGreatDoor

namespace Go.Proofs.YtffnaknidofobaaGreatDoor
open Go.RowKit
def nmT : Nat → Tr → Prop
  | 0,_ => True
  | n + 1,t => t.num ≤ 9223372036854775807 ∧ ∀ k ∈ t.kids,nmT n k
theorem fitN_of : ∀ (n : Nat) (t : Tr),Fit n t → nmT n t → FitN n t
  | 0,_,h,_ => h
  | n + 1,_,h,k => ⟨h.1,⟨h.2.1,k.1⟩,fun x hx => fitN_of n x (h.2.2 x hx) (k.2 x hx)⟩
/-- The text of what was written, and the error. -/
def textR (s : PS) : List UInt8 × Int:=if 65536 < s.1.length then ([],4) else (s.1,0)
/-- Text. -/
def textP (t : Tr) : List UInt8 × Int:=if soundT t then textR (puts ([],false) (prgT quoteL t)) else ([],2)
set_option maxRecDepth 20000 in
set_option maxHeartbeats 400000 in
theorem text_w (B b : Nat) (s : PS) (w : World) (h : Pn B b s w) (hB : B ≤ w.heap.size) :
    Calls Tryz.prog 17 #[.pointer (some ⟨b,0,none⟩)] w fun e w' => e = .returned (.tuple #[.string ⟨(textR s).1.toArray⟩,.int .i64 (textR s).2]) ∧ Below B w w':=by
  have cT:=tooLong_any B b s w h
  have cS:=string_any B b s.1 s.2 w h hB
  have hbl:=h.lt
  clear h
  by_cases hl : 65536 < s.1.length
  · have hd : decide (65536 < (s.1.length : Int)) = true:=by simp; omega
    have HX : Hid (textR s = ([],4)):=if_pos hl
    rw [hd] at cT
    clear hd hl cS
    go_enter Tryz.func17,Tryz.ntmps17
    go_wp2_with fail
    refine cT.mono ?_
    rintro e w1 ⟨rfl,rfl⟩
    go_wp2
    go_ret2
    exact ⟨by rw [HX.out]; rfl,Below.refl _ _⟩
  · have hd : decide (65536 < (s.1.length : Int)) = false:=by simp; omega
    have HX : Hid (textR s = (s.1,0)):=if_neg hl
    rw [hd] at cT
    clear hd hl
    go_enter Tryz.func17,Tryz.ntmps17
    go_wp2_with fail
    refine cT.mono ?_
    rintro e w1 ⟨rfl,hw1⟩
    subst hw1
    clear cT
    go_wp2_with fail
    refine cS.mono ?_
    rintro e w2 ⟨rfl,hb2⟩
    go_wp2
    go_ret2
    exact ⟨by rw [HX.out]; rfl,hb2⟩
set_option maxRecDepth 20000 in
set_option maxHeartbeats 400000 in
theorem printText_any (t : Tr) (sl : Value) (w : World) (hG : Gw w.heap.size w) (ht : ∀ n,txtT n t) (hN : nmT 100 t) (hk : KT w (· < w.heap.size) t sl) :
    Calls Tryz.prog 7 #[tv t sl] w fun e w' => e = .returned (.tuple #[.string ⟨(textP t).1.toArray⟩,.int .i64 (textP t).2]) ∧ Below w.heap.size w w':=by
  obtain ⟨ao,c,rfl⟩ : ∃ ao c,sl = .slice ao t.kids.length c:=(Lst.kids hk).slice
  have hb0 : Below w.heap.size w (w.alloc (nbx t (.slice ao t.kids.length c))):=(Below.refl _ _).alloc (Nat.le_refl _) _
  obtain ⟨W0,hW⟩ : ∃ W,w.alloc (nbx t (.slice ao t.kids.length c)) = W:=⟨_,rfl⟩
  have hbx : W0.heap[w.heap.size]? = some (nbx t (.slice ao t.kids.length c)):=by rw [← hW]; exact heap_alloc_new w _
  have hz0 : W0.heap.size = w.heap.size + 1:=by rw [← hW]; simp
  rw [hW] at hb0
  have hW' : w.alloc (.cells #[.int .i64 t.kind,.string ⟨t.text.toArray⟩,.int .i64 t.num,.slice ao t.kids.length c] 24) = W0:=hW
  have hk0 : KT W0 (· < w.heap.size) t (.slice ao t.kids.length c):=kt_below hk hb0
  have cS:=sound_any t (.slice ao t.kids.length c) (· < w.heap.size) W0 (hG.later hb0).gl (fun b hb => by have : b < w.heap.size:=hb; omega) ht hk0
  have y0 : W0.cell? ⟨w.heap.size,0,none⟩ = some (.int .i64 t.kind):=by rw [Lib.cell_of_heap hbx]; rfl
  have y1 : W0.cell? ⟨w.heap.size,1,none⟩ = some (.string ⟨t.text.toArray⟩):=by rw [Lib.cell_of_heap hbx]; rfl
  have y2 : W0.cell? ⟨w.heap.size,2,none⟩ = some (.int .i64 t.num):=by rw [Lib.cell_of_heap hbx]; rfl
  have y3 : W0.cell? ⟨w.heap.size,3,none⟩ = some (.slice ao t.kids.length c):=by rw [Lib.cell_of_heap hbx]; rfl
  have HG:=Lib.hid hG
  have HK:=Lib.hid hk0
  have HBX:=Lib.hid hbx
  have HB0:=Lib.hid hb0
  have HZ : Hid (W0.heap.size = w.heap.size + 1):=hz0
  clear hW hk hk0 hG hbx hb0 hz0
  cases hs : soundT t with
  | false =>
   rw [hs] at cS
   have HX : Hid (textP t = ([],2)):=by show _ = _; unfold textP; rw [hs]; rfl
   clear hs
   go_enter Tryz.func7,Tryz.ntmps7
   go_wp2_with fail
   refine cS.mono ?_
   rintro e w1 ⟨rfl,hb1⟩
   go_wp2
   go_ret2
   exact ⟨by rw [HX.out]; rfl,HB0.out.trans (hb1.mono (by have:=HZ.out; omega))⟩
  | true =>
   rw [hs] at cS
   have HX : Hid (textP t = textR (puts ([],false) (prgT quoteL t))):=by show _ = _; unfold textP; rw [hs]; rfl
   have hs':=hs
   simp only [soundT,Bool.and_eq_true] at hs'
   have HW : Hid (Wr 16 t (prgT quoteL t)):=prg_s leafP (fitN_of 100 t (fit_of_small hs'.1 ht) hN) hs'.2
   clear hs hs'
   generalize hm : w.heap.size = m at *
   go_enter Tryz.func7,Tryz.ntmps7
   go_wp2_with fail
   refine cS.mono ?_
   rintro e w1 ⟨rfl,hb1⟩
   have hz1 : m + 1 ≤ w1.heap.size:=by have:=hb1.size; have:=HZ.out; omega
   have hbB : Below m w w1:=HB0.out.trans (hb1.mono (by have:=HZ.out; omega))
   have hbA : Below m w (w1.alloc (.cells #[.pointer none,.slice none 0 0,.bool false] 41)):=hbB.alloc (by omega) _
   have hbx1 : w1.heap[m]? = some (nbx t (.slice ao t.kids.length c)):=(hb1.block m (by have:=HZ.out; omega)).trans HBX.out
   have hbx2 : (w1.alloc (.cells #[.pointer none,.slice none 0 0,.bool false] 41)).heap[m]? = some (nbx t (.slice ao t.kids.length c)):=(Lib.alloc_old w1 _ m (by omega)).trans hbx1
   have HP : Hid (Pn m w1.heap.size ([],false) (w1.alloc (.cells #[.pointer none,.slice none 0 0,.bool false] 41))) :=
     .inl ⟨by omega,.slice none 0 0,heap_alloc_new w1 _,World.ownsRowF_of (World.ownsRow_nil _ _ _ _),by simp [Value.ownBlock]⟩
   obtain ⟨W1,hW1⟩ : ∃ W,w1.alloc (.cells #[.pointer none,.slice none 0 0,.bool false] 41) = W:=⟨_,rfl⟩
   have hzz : W1.heap.size = w1.heap.size + 1:=by rw [← hW1]; simp
   rw [hW1] at HP hbA hbx2
   have cP:=HW.out m w1.heap.size _ W1 (.slice ao t.kids.length c) (HG.out.later hbA) HP.out (by omega) (kt_below HK.out (hb1.trans ((Below.refl _ _)) |>.mono (by have:=HZ.out; omega) |>.trans (by rw [← hW1]; exact (Below.refl _ _).alloc (by omega) _)))
   clear y0 y1 y2 y3 cS
   have y0 : W1.cell? ⟨m,0,none⟩ = some (.int .i64 t.kind):=by rw [Lib.cell_of_heap hbx2]; rfl
   have y1 : W1.cell? ⟨m,1,none⟩ = some (.string ⟨t.text.toArray⟩):=by rw [Lib.cell_of_heap hbx2]; rfl
   have y2 : W1.cell? ⟨m,2,none⟩ = some (.int .i64 t.num):=by rw [Lib.cell_of_heap hbx2]; rfl
   have y3 : W1.cell? ⟨m,3,none⟩ = some (.slice ao t.kids.length c):=by rw [Lib.cell_of_heap hbx2]; rfl
   have HBA:=Lib.hid hbA
   clear hbx1 hbx2 hbA hbB hb1
   go_wp2_with fail
   refine cP.mono ?_
   rintro e w2 ⟨rfl,h2,f2⟩
   have hz2:=f2.below.size
   have cT:=text_w m w1.heap.size _ w2 h2 (by omega)
   have HF:=Lib.hid f2
   clear cP h2 f2 y0 y1 y2 y3
   go_wp2_with fail
   refine cT.mono ?_
   rintro e w3 ⟨rfl,hb3⟩
   have HB3:=Lib.hid hb3
   clear hb3 cT
   go_wp2
   go_ret2
   exact ⟨by rw [HX.out]; rfl,(HBA.out.trans HF.out.below).trans HB3.out⟩
end Go.Proofs.YtffnaknidofobaaGreatDoor

namespace Go.Proofs.YtffnaknidofobaaGreatDoor
/-- A word's token stands at i. -/
def Tk1 (c : Wd → Int × List UInt8 × Int) (l : List Tk) (i : Nat) (w : Wd) : Prop:=i < l.length ∧ kindA l i = (c w).1 ∧ textA l i = (c w).2.1 ∧ numA l i = (c w).2.2
/-- The tokens of these words stand from i on. -/
def At (c : Wd → Int × List UInt8 × Int) (l : List Tk) : Nat → List Wd → Prop
  | _,[] => True
  | i,w :: ws => Tk1 c l i w ∧ At c l (i + 1) ws
def marksL : List Wd:=[[40],[41],[123],[125],[91],[93],[44],[59],[58],[46],[61],[58,61],[124,124],[38,38],[61,61],[33,61],[60],[60,61],[62],[62,61],[43],[45],[42],[47],[37],[33],[38]]
def wordsL : List Wd:=[[116,121,112,101],[115,116,114,117,99,116],[105,110,116,101,114,102,97,99,101],[102,117,110,99],[118,97,114],[105,102],[101,108,115,101],[102,111,114],[114,101,116,117,114,110],[98,114,101,97,107],[99,111,110,116,105,110,117,101],[116,114,117,101],[102,97,108,115,101],[110,105,108]]
/-- What words' tokens are (q: a text as a string's word). -/
structure Clw (q : List UInt8 → Wd) (c : Wd → Int × List UInt8 × Int) : Prop where
  ma : ∀ s ∈ marksL,c s = (4,s,0)
  wd : ∀ s ∈ wordsL,c s = (5,s,0)
  nm : ∀ s,nameP s = true → c s = (1,s,0)
  nu : ∀ n : Int,0 ≤ n → n ≤ 9223372036854775807 → c (Lib.itoa n) = (2,[],n)
  st : ∀ s : List UInt8,s.length ≤ 1024 → c (q s) = (3,s,0)
/-- A mark or word stands at i. -/
def Lit (l : List Tk) (i : Nat) (s : Wd) : Prop:=i < l.length ∧ (kindA l i = 4 ∨ kindA l i = 5) ∧ textA l i = s
section
variable {q : List UInt8 → Wd} {c : Wd → Int × List UInt8 × Int} {l : List Tk} {i j m n : Nat} {s x : Wd} {a b ws : List Wd} {t : Tr}
theorem at_app : At c l i (a ++ b) ↔ At c l i a ∧ At c l (i + a.length) b:=by
 induction a generalizing i with
 | nil => simp [At]
 | cons w r ih => simp only [List.cons_append,At,ih,List.length_cons,and_assoc,Nat.add_assoc,Nat.add_comm 1]
theorem At.fst (h : At c l i (a ++ b)) : At c l i a:=(at_app.1 h).1
theorem At.snd (h : At c l i (a ++ b)) : At c l (i + a.length) b:=(at_app.1 h).2
theorem At.le : ∀ {ws : List Wd} {i : Nat},At c l i ws → ws = [] ∨ i + ws.length ≤ l.length
  | [],_,_ => .inl rfl
  | w :: r,i,h => .inr (by
    rcases At.le h.2 with e | e
    · subst e; have:=h.1.1; simp; omega
    · simp only [List.length_cons]; omega)
theorem At.len (h : At c l i ws) : ws.length ≤ l.length:=by
 rcases h.le with e | e
 · subst e; simp
 · omega
theorem lit_of (C : Clw q c) (h : Tk1 c l i s) (hs : s ∈ marksL ++ wordsL) : Lit l i s:=by
 obtain ⟨h0,h1,h2,_⟩:=h
 rcases List.mem_append.1 hs with hs | hs
 · rw [C.ma s hs] at h1 h2; exact ⟨h0,.inl h1,h2⟩
 · rw [C.wd s hs] at h1 h2; exact ⟨h0,.inr h1,h2⟩
theorem At.lit (C : Clw q c) (h : At c l i (s :: ws)) (hs : s ∈ marksL ++ wordsL) : Lit l i s:=lit_of C h.1 hs
theorem Lit.is (h : Lit l i s) (x : Wd) : isM l i x = (s == x):=by
 unfold isM; rcases h.2.1 with e | e <;> simp [e,h.2.2]
theorem Lit.yes (h : Lit l i s) : isM l i s = true:=by rw [h.is]; simp
theorem Lit.no (h : Lit l i s) (hx : (s == x) = false) : isM l i x = false:=by rw [h.is,hx]
theorem Lit.k1 (h : Lit l i s) : (kindA l i == 1) = false:=by rcases h.2.1 with e | e <;> rw [e] <;> rfl
theorem Lit.k2 (h : Lit l i s) : (kindA l i == 2) = false:=by rcases h.2.1 with e | e <;> rw [e] <;> rfl
theorem Lit.k3 (h : Lit l i s) : (kindA l i == 3) = false:=by rcases h.2.1 with e | e <;> rw [e] <;> rfl
theorem Lit.rank (h : Lit l i s) (hs : rankL s = 0) : rankL (markA l i) = 0:=by
 unfold markA; rcases h.2.1 with e | e <;> rw [e]
 · simp [h.2.2,hs]
 · rfl
theorem Lit.pre (h : Lit l i s) (hs : prefixL s = false) : prefixL (markA l i) = false:=by
 unfold markA; rcases h.2.1 with e | e <;> rw [e]
 · simp [h.2.2,hs]
 · rfl
theorem mark_of (C : Clw q c) (h : Tk1 c l i s) (hs : s ∈ marksL) : markA l i = s:=by
 obtain ⟨_,h1,h2,_⟩:=h
 rw [C.ma s hs] at h1 h2
 simp [markA,h1,h2]
theorem needB (h : Lit l i s) : needR l s i = .ok () (i + 1):=by simp [needR,h.yes]
theorem kind1 (C : Clw q c) (h : Tk1 c l i s) (hs : nameP s = true) : kindA l i = 1 ∧ textA l i = s:=by
 obtain ⟨_,h1,h2,_⟩:=h
 rw [C.nm s hs] at h1 h2; exact ⟨h1,h2⟩
theorem nameB (C : Clw q c) (h : Tk1 c l i s) (hs : nameP s = true) : nameR l i = .ok s (i + 1):=by
 have:=kind1 C h hs
 simp [nameR,this.1,this.2]
theorem not_lit (hk : kindA l i = 1 ∨ kindA l i = 2 ∨ kindA l i = 3) (x : Wd) : isM l i x = false:=by
 unfold isM; rcases hk with e | e | e <;> simp [e]
theorem row1B {p : Tr → Bool} {ks : List Tr} (h : rowB [p] ks = true) : ∃ a,ks = [a] ∧ p a = true:=by
 match ks,h with
 | [a],h => exact ⟨a,rfl,by simpa [rowB] using h⟩
 | [],h => simp [rowB] at h
 | a :: b :: r,h => simp [rowB] at h
theorem row2B {p p2 : Tr → Bool} {ks : List Tr} (h : rowB [p,p2] ks = true) : ∃ a b,ks = [a,b] ∧ p a = true ∧ p2 b = true:=by
 match ks,h with
 | [a,b],h => exact ⟨a,b,rfl,by simpa [rowB] using h⟩
 | [],h => simp [rowB] at h
 | [a],h => simp [rowB] at h
 | a :: b :: d :: r,h => simp [rowB] at h
theorem row3B {p p2 p3 : Tr → Bool} {ks : List Tr} (h : rowB [p,p2,p3] ks = true) : ∃ a b d,ks = [a,b,d] ∧ p a = true ∧ p2 b = true ∧ p3 d = true:=by
 match ks,h with
 | [a,b,d],h => exact ⟨a,b,d,rfl,by simpa [rowB] using h⟩
 | [],h => simp [rowB] at h
 | [a],h => simp [rowB] at h
 | [a,b],h => simp [rowB] at h
 | a :: b :: d :: e :: r,h => simp [rowB] at h
theorem flat_len {f : Tr → List Wd} {ts : List Tr} {t : Tr} (h : t ∈ ts) : (f t).length ≤ (ts.flatMap f).length:=by
 induction ts with
 | nil => cases h
 | cons x r ih =>
  simp only [List.flatMap_cons,List.length_append]
  rcases List.mem_cons.1 h with e | e
  · subst e; omega
  · have:=ih e; omega
theorem commas_len {f : Tr → List Wd} {ts : List Tr} {t : Tr} (h : t ∈ ts) : (f t).length ≤ (commasT f ts).length:=by
 match ts,h with
 | x :: r,h =>
  simp only [commasT,List.length_append]
  rcases List.mem_cons.1 h with e | e
  · subst e; omega
  · have:=flat_len (f:=fun u => [44] :: f u) e
    simp only [List.length_cons] at this
    omega
theorem flat_count {f : Tr → List Wd} : ∀ {ts : List Tr},(∀ t ∈ ts,1 ≤ (f t).length) → ts.length ≤ (ts.flatMap f).length
  | [],_ => by simp
  | x :: r,h => by
   have:=flat_count (f:=f) (ts:=r) fun t ht => h t (List.mem_cons_of_mem _ ht)
   have:=h x (List.mem_cons_self ..)
   simp only [List.flatMap_cons,List.length_append,List.length_cons]; omega
theorem commasF_back {f : Tr → List Wd} {item : Nat → Res Tr} {E : Nat → Prop} (C : Clw q c) (hE : ∀ j,Lit l j [44] → E j) : ∀ (r acc : List Tr) (k i : Nat),r.length < k →
    (∀ t ∈ r,∀ j,At c l j (f t) → E (j + (f t).length) → item j = .ok t (j + (f t).length)) →
    At c l i (r.flatMap fun u => [44] :: f u) → E (i + (r.flatMap fun u => [44] :: f u).length) → isM l (i + (r.flatMap fun u => [44] :: f u).length) [44] = false →
    commasF l item k acc i = .ok (acc ++ r) (i + (r.flatMap fun u => [44] :: f u).length)
  | [],acc,k,i,hk,_,_,_,hn => by
   match k,hk with
   | k + 1,_ => simp at hn; simp [commasF,hn]
  | t :: r,acc,k,i,hk,hI,hA,hz,hn => by
   match k,hk with
   | k + 1,hk =>
    simp only [List.flatMap_cons,List.cons_append] at hA hz hn ⊢
    have h0:=hA.lit C (by decide)
    have hA1 : At c l (i + 1) (f t ++ r.flatMap fun u => [44] :: f u):=hA.2
    have hE1 : E (i + 1 + (f t).length):=by
     match r,hA1,hz with
     | [],_,hz => simpa [Nat.add_assoc,Nat.add_comm 1] using hz
     | u :: r,hA1,_ => exact hE _ (At.lit C hA1.snd (by decide))
    have ih:=commasF_back C hE r (acc ++ [t]) k (i + 1 + (f t).length) (by simp at hk; omega) (fun t ht => hI t (List.mem_cons_of_mem _ ht)) hA1.snd
      (by simpa [Nat.add_assoc,Nat.add_comm 1,Nat.add_left_comm] using hz) (by simpa [Nat.add_assoc,Nat.add_comm 1,Nat.add_left_comm] using hn)
    rw [commasF,if_pos h0.yes,hI t (List.mem_cons_self ..) _ hA1.fst hE1]
    simp only [Res.bind,ih]
    simp [Nat.add_assoc,Nat.add_comm 1]
theorem commas_back {f : Tr → List Wd} {item : Nat → Res Tr} {E : Nat → Prop} (C : Clw q c) (hE : ∀ j,Lit l j [44] → E j) {ts : List Tr} (hne : ts ≠ [])
    (hI : ∀ t ∈ ts,∀ j,At c l j (f t) → E (j + (f t).length) → item j = .ok t (j + (f t).length))
    (hA : At c l i (commasT f ts)) (hz : E (i + (commasT f ts).length)) (hn : isM l (i + (commasT f ts).length) [44] = false) :
    commasR l item i = .ok ts (i + (commasT f ts).length):=by
  match ts,hne with
  | t :: r,_ =>
   simp only [commasT] at hA hz hn ⊢
   have hE1 : E (i + (f t).length):=by
    match r,hA,hz with
    | [],_,hz => simpa using hz
    | u :: r,hA,_ => exact hE _ (At.lit C hA.snd (by decide))
   have hc : r.length < l.length + 1:=by
    have:=flat_count (f:=fun u => [44] :: f u) (ts:=r) (by intros; simp)
    have:=hA.snd.len
    omega
   rw [commasR,hI t (List.mem_cons_self ..) _ hA.fst hE1]
   simp only [Res.bind]
   rw [commasF_back C hE r [t] (l.length + 1) (i + (f t).length) hc (fun t ht => hI t (List.mem_cons_of_mem _ ht)) hA.snd (by simpa [Nat.add_assoc] using hz) (by simpa [Nat.add_assoc] using hn)]
   simp [Nat.add_assoc]
/-- A list between brackets. -/
theorem listed_back {f : Tr → List Wd} {item : Nat → Res Tr} {E : Nat → Prop} {o s : Wd} (C : Clw q c) (hE : ∀ j,Lit l j [44] → E j) {ts : List Tr}
    (ho : o ∈ marksL ++ wordsL) (hs : s ∈ marksL ++ wordsL) (hsc : (s == [44]) = false) (hEs : ∀ j,Lit l j s → E j)
    (hI : ∀ t ∈ ts,∀ j,At c l j (f t) → E (j + (f t).length) → item j = .ok t (j + (f t).length))
    (hF : ∀ t ∈ ts,∀ j,At c l j (f t) → isM l j s = false)
    (hA : At c l i (listedT o s f ts)) : listedR l o s item i = .ok ts (i + (listedT o s f ts).length):=by
  unfold listedT at hA ⊢
  have h0:=At.lit C hA ho
  have hA1 : At c l (i + 1) (commasT f ts ++ [s]):=hA.2
  have h1:=At.lit C hA1.snd hs
  unfold listedR betweenR
  rw [needB h0]
  simp only [Res.bind,innerR]
  match ts,hI,hF,hA1,h1 with
  | [],_,_,_,h1 =>
   simp only [commasT,List.length_nil,Nat.add_zero] at h1
   rw [if_pos h1.yes]
   simp only [needB h1]
   simp [commasT]
  | t :: r,hI,hF,hA1,h1 =>
   rw [if_neg (by rw [hF t (List.mem_cons_self ..) (i + 1) hA1.fst.fst]; simp),commas_back C hE (by simp) hI hA1.fst (hEs _ h1) (h1.no hsc)]
   simp only [needB h1]
   simp [Nat.add_assoc,Nat.add_comm 1]
theorem upToF_back {f : Tr → List Wd} {item : Nat → Res Tr} {E : Nat → Prop} {mark : Wd} : ∀ (r acc : List Tr) (k i : Nat),r.length < k →
    (∀ t ∈ r,∀ j,At c l j (f t) → E (j + (f t).length) → item j = .ok t (j + (f t).length)) →
    (∀ t ∈ r,∀ j,At c l j (f t) → isM l j mark = false ∧ E j) →
    At c l i (r.flatMap f) → E (i + (r.flatMap f).length) → isM l (i + (r.flatMap f).length) mark = true →
    upToF l mark item k acc i = .ok (acc ++ r) (i + (r.flatMap f).length)
  | [],acc,k,i,hk,_,_,_,_,hn => by
   match k,hk with
   | k + 1,_ => simp at hn; simp [upToF,hn]
  | t :: r,acc,k,i,hk,hI,hF,hA,hz,hn => by
   match k,hk with
   | k + 1,hk =>
    simp only [List.flatMap_cons] at hA hz hn ⊢
    have hE1 : E (i + (f t).length):=by
     match r,hF,hA,hz with
     | [],_,_,hz => simpa using hz
     | u :: r,hF,hA,_ =>
      have:=hA.snd
      simp only [List.flatMap_cons] at this
      exact (hF u (by simp) _ this.fst).2
    have ih:=upToF_back r (acc ++ [t]) k (i + (f t).length) (by simp at hk; omega) (fun t ht => hI t (List.mem_cons_of_mem _ ht)) (fun t ht => hF t (List.mem_cons_of_mem _ ht)) hA.snd
      (by simpa [Nat.add_assoc] using hz) (by simpa [Nat.add_assoc] using hn)
    rw [upToF,if_neg (by rw [(hF t (List.mem_cons_self ..) i hA.fst).1]; simp),hI t (List.mem_cons_self ..) _ hA.fst hE1]
    simp only [Res.bind,ih]
    simp [Nat.add_assoc]
theorem upTo_back {f : Tr → List Wd} {item : Nat → Res Tr} {E : Nat → Prop} {mark : Wd} {ts : List Tr}
    (hI : ∀ t ∈ ts,∀ j,At c l j (f t) → E (j + (f t).length) → item j = .ok t (j + (f t).length))
    (hF : ∀ t ∈ ts,∀ j,At c l j (f t) → isM l j mark = false ∧ E j) (h1 : ∀ t ∈ ts,1 ≤ (f t).length)
    (hA : At c l i (ts.flatMap f)) (hz : E (i + (ts.flatMap f).length)) (hn : isM l (i + (ts.flatMap f).length) mark = true) :
    upToR l mark item i = .ok ts (i + (ts.flatMap f).length):=by
  have:=flat_count h1
  have:=hA.len
  rw [upToR,upToF_back ts [] (l.length + 1) i (by omega) hI hF hA hz hn]; simp
/-- Members between braces. -/
theorem members_back {f : Tr → List Wd} {item : Nat → Res Tr} {E : Nat → Prop} (C : Clw q c) {ts : List Tr} (hEs : ∀ j,Lit l j [125] → E j)
    (hI : ∀ t ∈ ts,∀ j,At c l j (f t) → E (j + (f t).length) → item j = .ok t (j + (f t).length))
    (hF : ∀ t ∈ ts,∀ j,At c l j (f t) → isM l j [125] = false ∧ E j) (h1 : ∀ t ∈ ts,1 ≤ (f t).length)
    (hA : At c l i (membersT f ts)) : membersR l item i = .ok ts (i + (membersT f ts).length):=by
  unfold membersT at hA ⊢
  have h0:=At.lit C hA (by decide)
  have hA1 : At c l (i + 1) (ts.flatMap f ++ [[125]]):=hA.2
  have h2:=At.lit C hA1.snd (by decide)
  unfold membersR betweenR
  rw [needB h0]
  simp only [Res.bind]
  rw [upTo_back hI hF h1 hA1.fst (hEs _ h2) h2.yes]
  simp only [needB h2]
  simp [Nat.add_assoc,Nat.add_comm 1]
end
end Go.Proofs.YtffnaknidofobaaGreatDoor
