/- Which trees are programs' trees: the plain mathematics, and what the tests owe. -/
import Derived.Test.YtnkphlkjhgngkaaGreatDoorParZJt
import Derived.Test.YtnkphlkjhgngkaaGreatDoorScanJt
namespace Go.Proofs.YtnkphlkjhgngkaaGreatDoor
open Go.RowKit
/-- The tests that come to themselves again. -/
inductive Q where
  | typ | par | sig | blk | ifS | els | stm | exp
def bareT (t : Tr) : Bool:=t.text == [] && t.num == 0
def namedT (t : Tr) : Bool:=t.num == 0 && nameP t.text
def numberedT (t : Tr) : Bool:=t.text == []
def rowB : List (Tr → Bool) → List Tr → Bool
  | [],[] => true
  | p :: ps,t :: ts => p t && rowB ps ts
  | _,_ => false
def partedB (ts : List Tr) (n : Int) (p q : Tr → Bool) : Bool:=decide (0 ≤ n) && (decide (n ≤ ts.length) && ((ts.take n.toNat).all p && (ts.drop n.toNat).all q))
def cutN (n : Int) : Int:=if n == 0 then 1 else if n == 1 || n == 2 then 2 else if n == 3 then 3 else -1
def leafB (t : Tr) : Bool :=
  if 0 < t.kids.length then false
  else if t.kind == 40 then numberedT t && decide (0 ≤ t.num)
  else if t.kind == 41 then t.num == 0 && decide (t.text.length ≤ 1024)
  else if t.kind == 42 then numberedT t && (t.num == 0 || t.num == 1)
  else if t.kind == 44 then namedT t
  else bareT t
def typB (r : Q → Tr → Bool) (t : Tr) : Bool :=
  if t.kind == 10 then namedT t && rowB [] t.kids
  else if t.kind == 11 || t.kind == 12 then bareT t && rowB [r .typ] t.kids
  else if t.kind == 13 then numberedT t && partedB t.kids t.num (r .typ) (r .typ)
  else false
def parB (r : Q → Tr → Bool) (t : Tr) : Bool:=t.kind == 8 && (namedT t && rowB [r .typ] t.kids)
def sigB (r : Q → Tr → Bool) (t : Tr) : Bool:=t.kind == 7 && (numberedT t && partedB t.kids t.num (r .par) (r .typ))
def blkB (r : Q → Tr → Bool) (t : Tr) : Bool:=t.kind == 20 && (bareT t && t.kids.all (r .stm))
def ifB (r : Q → Tr → Bool) (t : Tr) : Bool:=t.kind == 25 && (bareT t && (rowB [r .exp,r .blk] t.kids || rowB [r .exp,r .blk,r .els] t.kids))
def elsB (r : Q → Tr → Bool) (t : Tr) : Bool:=blkB r t || ifB r t
def asgB (r : Q → Tr → Bool) (p : Tr → Bool) (t : Tr) : Bool:=numberedT t && (decide (0 < t.num) && (decide (t.num < t.kids.length) && ((t.kids.take t.num.toNat).all p && t.kids.all (r .exp))))
def stmB (r : Q → Tr → Bool) (t : Tr) : Bool :=
  if t.kind == 20 then blkB r t
  else if t.kind == 25 then ifB r t
  else if t.kind == 21 then namedT t && (rowB [r .typ] t.kids || rowB [r .typ,r .exp] t.kids)
  else if t.kind == 22 then asgB r isNameT t
  else if t.kind == 23 then asgB r isPlaceT t
  else if t.kind == 24 then bareT t && (rowB [isCallT] t.kids && rowB [r .exp] t.kids)
  else if t.kind == 26 then bareT t && (rowB [r .blk] t.kids || rowB [r .exp,r .blk] t.kids)
  else if t.kind == 27 then bareT t && t.kids.all (r .exp)
  else if t.kind == 28 || t.kind == 29 then bareT t && rowB [] t.kids
  else false
def expB (r : Q → Tr → Bool) (t : Tr) : Bool :=
  if t.kind == 40 || t.kind == 41 || t.kind == 42 || t.kind == 43 || t.kind == 44 then leafB t
  else if t.kind == 45 then namedT t && t.kids.all (r .exp)
  else if t.kind == 46 then bareT t && partedB t.kids 1 (r .typ) (r .exp)
  else if t.kind == 47 then bareT t && rowB [r .sig,r .blk] t.kids
  else if t.kind == 48 then namedT t && rowB [r .exp] t.kids
  else if t.kind == 49 then bareT t && rowB [r .exp,r .exp] t.kids
  else if t.kind == 50 then numberedT t && ((t.kids.length : Int) == cutN t.num && t.kids.all (r .exp))
  else if t.kind == 51 then bareT t && (decide (0 < t.kids.length) && t.kids.all (r .exp))
  else if t.kind == 52 then t.num == 0 && (prefixL t.text && rowB [r .exp] t.kids)
  else if t.kind == 53 then t.num == 0 && (decide (0 < rankL t.text) && rowB [r .exp,r .exp] t.kids)
  else false
/-- Is a tree, down to so many nodes, of that form? -/
def snd : Nat → Q → Tr → Bool
  | 0,_,_ => false
  | n + 1,.typ,t => typB (snd n) t
  | n + 1,.par,t => parB (snd n) t
  | n + 1,.sig,t => sigB (snd n) t
  | n + 1,.blk,t => blkB (snd n) t
  | n + 1,.ifS,t => ifB (snd n) t
  | n + 1,.els,t => elsB (snd n) t
  | n + 1,.stm,t => stmB (snd n) t
  | n + 1,.exp,t => expB (snd n) t
def recB (r : Q → Tr → Bool) (t : Tr) : Bool:=parB r t && (match t.kids with
  | k :: _ => k.kind == 11 && (match k.kids with
    | j :: _ => j.kind == 10
    | _ => false)
  | _ => false)
def fldB (r : Q → Tr → Bool) (t : Tr) : Bool:=t.kind == 6 && (namedT t && rowB [r .typ] t.kids)
def metB (r : Q → Tr → Bool) (t : Tr) : Bool:=t.kind == 6 && (namedT t && rowB [r .sig] t.kids)
/-- A declaration, its kids' tests by r, its kids' kids' by r'. -/
def decB (n : Nat) (t : Tr) : Bool :=
  if t.kind == 2 then namedT t && t.kids.all (fldB (snd n))
  else if t.kind == 3 then namedT t && t.kids.all (metB (snd n))
  else if t.kind == 4 then namedT t && rowB [snd (n + 1) .sig,snd (n + 1) .blk] t.kids
  else if t.kind == 5 then namedT t && rowB [recB (snd n),snd (n + 1) .sig,snd (n + 1) .blk] t.kids
  else false
def prgB (t : Tr) : Bool:=t.kind == 1 && (bareT t && t.kids.all (decB 97))
def soundT (t : Tr) : Bool:=smallT t && prgB t
/-- A tree is so deep at most, has lists and texts that are not too long. -/
def Fit : Nat → Tr → Prop
  | 0,_ => False
  | n + 1,t => t.kids.length ≤ 20000 ∧ t.text.length ≤ maxLen ∧ ∀ k ∈ t.kids,Fit n k
theorem rowB_length : ∀ {ps : List (Tr → Bool)} {ts : List Tr},rowB ps ts = true → ts.length = ps.length
  | [],[],_ => rfl
  | p :: ps,t :: ts,h => by simp only [rowB,Bool.and_eq_true] at h; simp [rowB_length h.2]
  | [],_ :: _,h => by simp [rowB] at h
  | _ :: _,[],h => by simp [rowB] at h
theorem rowB_ne : ∀ {ps : List (Tr → Bool)} {ts : List Tr},ts.length ≠ ps.length → rowB ps ts = false:=by
 intro ps ts h
 cases hr : rowB ps ts with
 | false => rfl
 | true => exact absurd (rowB_length hr) h
theorem rowB_take : ∀ {ps : List (Tr → Bool)} {ts : List Tr} {i : Nat} {p : Tr → Bool} {t : Tr},ps[i]? = some p → ts[i]? = some t → p t = false → rowB ps ts = false
  | p :: ps,t :: ts,0,_,_,h1,h2,h3 => by simp at h1 h2; subst h1 h2; simp [rowB,h3]
  | p :: ps,t :: ts,i + 1,_,_,h1,h2,h3 => by simp at h1 h2; simp [rowB,rowB_take h1 h2 h3]
  | [],_,_,_,_,h1,_,_ => by simp at h1
  | _ :: _,[],_,_,_,_,h2,_ => by simp at h2
theorem rowB_all : ∀ {ps : List (Tr → Bool)} {ts : List Tr},ts.length = ps.length → (∀ (i : Nat) p t,ps[i]? = some p → ts[i]? = some t → p t = true) → rowB ps ts = true
  | [],[],_,_ => rfl
  | p :: ps,t :: ts,h,k => by
   simp only [rowB,Bool.and_eq_true]
   exact ⟨k 0 p t rfl rfl,rowB_all (by simpa using h) fun i q u hq hu => k (i + 1) q u (by simpa using hq) (by simpa using hu)⟩
  | [],_ :: _,h,_ => by simp at h
  | _ :: _,[],h,_ => by simp at h
/-- A list of trees lies at a slice. -/
def Lst (w : World) (S : Nat → Prop) (ts : List Tr) (sl : Value) : Prop:=∃ sls,RowAt w S sl ts.length (cellsOf ts sls) ∧ KL w S ts sls
theorem Lst.of {w : World} {S : Nat → Prop} {k : Int} {s : List UInt8} {n : Int} {ks : List Tr} {sl : Value} (h : KT w S (.mk k s n ks) sl) : Lst w S ks sl:=by
 simp only [KT] at h; exact h
theorem Lst.kids {w : World} {S : Nat → Prop} {t : Tr} {sl : Value} (h : KT w S t sl) : Lst w S t.kids sl:=by
 cases t; exact Lst.of h
theorem Lst.fr {S S' : Nat → Prop} {w w' : World} {ts : List Tr} {sl : Value} (h : Lst w S ts sl) (hf : Fr S w w') (hS : ∀ b,S b → S' b) : Lst w' S' ts sl:=by
 obtain ⟨sls,h1,h2⟩:=h
 exact ⟨sls,h1.keep hf hS,h2.fr hf hS⟩
theorem Lst.slice {w : World} {S : Nat → Prop} {ts : List Tr} {sl : Value} (h : Lst w S ts sl) : ∃ ao cap,sl = .slice ao ts.length cap:=by
 obtain ⟨sls,h1 | ⟨g,o,cap,h1,_⟩,_⟩:=h
 · obtain ⟨h0,ao,cap,h⟩:=h1; exact ⟨ao,cap,by rw [h,h0]⟩
 · exact ⟨_,cap,h1⟩
/-- What the test g of trees of depth n owes. -/
def Tst (g n : Nat) (p : Tr → Bool) : Prop:=∀ (t : Tr) (sl : Value) (S : Nat → Prop) (w : World),Gl w → (∀ b,S b → b < w.heap.size) → Fit n t → KT w S t sl →
  Calls Tryz.prog g #[tv t sl] w fun e w' => e = .returned (.bool (p t)) ∧ Below w.heap.size w w'
end Go.Proofs.YtnkphlkjhgngkaaGreatDoor

namespace Go.Proofs.YtnkphlkjhgngkaaGreatDoor
open Go.RowKit
attribute [local go_sem ↓] Go.wp_at_zero Go.wp_at_succ
theorem bareS_any (t : Tr) (ao : Option Addr) (n c : Nat) (w : World) : Calls Tryz.prog 45 #[tv t (.slice ao n c)] w fun e w' => e = .returned (.bool (bareT t)) ∧ Below w.heap.size w w':=by
 obtain ⟨k,s,m,ks⟩:=t
 have HR : Hid (bareT (.mk k s m ks) = (s == [] && m == 0)):=rfl
 change Calls Tryz.prog 45 #[.agg #[.int .i64 k,.string ⟨s.toArray⟩,.int .i64 m,.slice ao n c]] w _
 cases hs : (s == ([] : List UInt8)) with
 | false =>
  have HX : Hid (bareT (.mk k s m ks) = false):=HR.out.trans (by rw [hs]; rfl)
  go_enter Tryz.func45,Tryz.ntmps45
  go_wp2
  go_ret
  exact ⟨by simp [HX.out],(Below.refl _ _).alloc (Nat.le_refl _) _⟩
 | true =>
  have HX : Hid (bareT (.mk k s m ks) = (m == 0)):=HR.out.trans (by rw [hs]; rfl)
  go_enter Tryz.func45,Tryz.ntmps45
  go_wp2
  go_ret
  exact ⟨by simp [HX.out],(Below.refl _ _).alloc (Nat.le_refl _) _⟩
theorem numberedS_any (t : Tr) (ao : Option Addr) (n c : Nat) (w : World) : Calls Tryz.prog 116 #[tv t (.slice ao n c)] w fun e w' => e = .returned (.bool (numberedT t)) ∧ Below w.heap.size w w':=by
 obtain ⟨k,s,m,ks⟩:=t
 have HX : Hid (numberedT (.mk k s m ks) = (s == [])):=rfl
 change Calls Tryz.prog 116 #[.agg #[.int .i64 k,.string ⟨s.toArray⟩,.int .i64 m,.slice ao n c]] w _
 go_enter Tryz.func116,Tryz.ntmps116
 go_wp2
 go_ret
 exact ⟨by simp [HX.out],(Below.refl _ _).alloc (Nat.le_refl _) _⟩
theorem namedS_any (t : Tr) (ao : Option Addr) (n c : Nat) (w : World) (hG : Gl w) (ht : t.text.length ≤ maxLen) : Calls Tryz.prog 78 #[tv t (.slice ao n c)] w fun e w' => e = .returned (.bool (namedT t)) ∧ Below w.heap.size w w':=by
 obtain ⟨k,s,m,ks⟩:=t
 have HR : Hid (namedT (.mk k s m ks) = (m == 0 && nameP s)):=rfl
 change Calls Tryz.prog 78 #[.agg #[.int .i64 k,.string ⟨s.toArray⟩,.int .i64 m,.slice ao n c]] w _
 cases hm : (m == (0 : Int)) with
 | false =>
  have HX : Hid (namedT (.mk k s m ks) = false):=HR.out.trans (by rw [hm]; rfl)
  go_enter Tryz.func78,Tryz.ntmps78
  go_wp2
  go_ret
  exact ⟨by simp [HX.out],(Below.refl _ _).alloc (Nat.le_refl _) _⟩
 | true =>
  have HX : Hid (namedT (.mk k s m ks) = nameP s):=HR.out.trans (by rw [hm]; rfl)
  have hb0:=(Below.refl w.heap.size w).alloc (Nat.le_refl _) (.cells #[.int .i64 k,.string ⟨s.toArray⟩,.int .i64 m,.slice ao n c] 24)
  have cN:=isName_any ⟨s.toArray⟩ (by simpa [ByteArray.size,Tr.text] using ht) _ (hG.later hb0)
  clear HR
  go_enter Tryz.func78,Tryz.ntmps78
  go_wp2_with fail
  refine cN.mono ?_
  rintro e w1 ⟨rfl,hb1⟩
  clear cN
  go_wp2
  go_ret
  exact ⟨by simp [HX.out],hb0.trans (hb1.mono (by simp))⟩
theorem cutKids_any (n : Int) (w : World) : Calls Tryz.prog 166 #[.int .i64 n] w fun e w' => e = .returned (.int .i64 (cutN n)) ∧ w' = w:=by
 have HR : Hid (cutN n = if n == 0 then 1 else if n == 1 || n == 2 then 2 else if n == 3 then 3 else -1):=rfl
 by_cases h0 : n = 0
 · have HX : Hid (cutN n = 1):=HR.out.trans (by simp [h0])
   subst h0
   go_enter Tryz.func166,Tryz.ntmps166
   go_wp2
   go_ret
   exact ⟨by simp [HX.out],rfl⟩
 by_cases h1 : n = 1
 · have HX : Hid (cutN n = 2):=HR.out.trans (by simp [h1])
   subst h1
   go_enter Tryz.func166,Tryz.ntmps166
   go_wp2
   go_ret
   exact ⟨by simp [HX.out],rfl⟩
 by_cases h2 : n = 2
 · have HX : Hid (cutN n = 2):=HR.out.trans (by simp [h2])
   subst h2
   go_enter Tryz.func166,Tryz.ntmps166
   go_wp2
   go_ret
   exact ⟨by simp [HX.out],rfl⟩
 by_cases h3 : n = 3
 · have HX : Hid (cutN n = 3):=HR.out.trans (by simp [h3])
   subst h3
   go_enter Tryz.func166,Tryz.ntmps166
   go_wp2
   go_ret
   exact ⟨by simp [HX.out],rfl⟩
 have HX : Hid (cutN n = -1):=HR.out.trans (by simp [h0,h1,h2,h3])
 have e0 : (n == 0) = false:=by simpa using h0
 have e1 : (n == 1) = false:=by simpa using h1
 have e2 : (n == 2) = false:=by simpa using h2
 have e3 : (n == 3) = false:=by simpa using h3
 clear h0 h1 h2 h3 HR
 go_enter Tryz.func166,Tryz.ntmps166
 go_wp2
 go_ret
 exact ⟨by simp [HX.out],rfl⟩
/-- every of a list that lies. -/
theorem everyL {g n : Nat} {p : Tr → Bool} (he : Enters Tryz.prog g) (hT : Tst g n p) {ts : List Tr} {sl : Value} {S : Nat → Prop} {w : World} (hG : Gl w) (hS : ∀ b,S b → b < w.heap.size) (hF : ∀ t ∈ ts,Fit n t) (hn : ts.length ≤ 20000) (hL : Lst w S ts sl) :
    Calls Tryz.prog 46 #[sl,.func (.func g) #[] #[]] w fun e w' => e = .returned (.bool (ts.all p)) ∧ Below w.heap.size w w':=by
  obtain ⟨sls,h1,h2⟩:=hL
  rcases h1 with ⟨h0,ao,cap,rfl⟩ | ⟨gb,o,cap,rfl,_,hg,hc⟩
  · have hu : ts = []:=List.eq_nil_of_length_eq_zero h0
    subst hu
    exact (every_nil _ ao cap w).mono fun e w' ⟨h1,h2⟩ => ⟨h1,h2 ▸ Below.refl _ _⟩
  · refine every_any p g #[] he ts sls h2.length w gb o cap (by omega) hc h2.slices (fun k t sl w1 ht hs hb => ?_)
    rw [Array.append_empty]
    exact hT t sl S w1 (hG.later hb) (fun b hb' => Nat.lt_of_lt_of_le (hS b hb') hb.size) (hF t (List.mem_of_getElem? ht)) ((h2.get ht hs).fr (fun b hb' => hb.block b (hS b hb')) (fun _ h => h))
/-- row, where there are other numbers of nodes and of tests. -/
theorem row_ne (ao fo : Option Addr) (n m c fc : Nat) (h : n ≠ m) (w : World) :
    Calls Tryz.prog 81 #[.slice ao n c,.slice fo m fc] w fun e w' => e = .returned (.bool false) ∧ w' = w:=by
  have hne : ((n : Int) != (m : Int)) = true:=by simp; omega
  go_enter Tryz.func81,Tryz.ntmps81
  go_wp2
  go_ret
  exact ⟨rfl,rfl⟩
/-- row of nothing by no tests. -/
theorem row_nil (ao fo : Option Addr) (c fc : Nat) (w : World) :
    Calls Tryz.prog 81 #[.slice ao 0 c,.slice fo 0 fc] w fun e w' => e = .returned (.bool true) ∧ w' = w:=by
  go_enter Tryz.func81,Tryz.ntmps81
  go_wp2_with fail
  go_loopw [14] (fun v wr => v = .int .i64 0 ∧ wr = w) (fun _ _ => 0)
  case atStart => exact ⟨rfl,rfl⟩
  case round =>
   obtain ⟨rfl,rfl⟩:=hrel
   go_wp2
   go_ret
   exact ⟨rfl,rfl⟩
set_option maxRecDepth 20000 in
set_option maxHeartbeats 1600000 in
theorem row_any (gs : List (Nat × (Tr → Bool))) (ts : List Tr) (sls : List Value) (hsl : sls.length = ts.length) (hl : ts.length = gs.length) (w : World) (b o cap fb fc : Nat) (hn : ts.length ≤ 1000000)
    (hc : ∀ (j : Nat) u,(cellsOf ts sls)[j]? = some u → w.cell? ⟨b,o + j,none⟩ = some u) (hsh : ∀ s ∈ sls,∃ ao n c,s = .slice ao n c)
    (hg : ∀ (i g : Nat) p,gs[i]? = some (g,p) → Enters Tryz.prog g ∧ w.cell? ⟨fb,i,none⟩ = some (.func (.func g) #[] #[]))
    (hI : ∀ (k g : Nat) p t sl w1,gs[k]? = some (g,p) → ts[k]? = some t → sls[k]? = some sl → Below w.heap.size w w1 → Calls Tryz.prog g #[tv t sl] w1 fun e w' => e = .returned (.bool (p t)) ∧ Below w1.heap.size w1 w') :
    Calls Tryz.prog 81 #[.slice (some ⟨b,o,none⟩) ts.length cap,.slice (some ⟨fb,0,none⟩) gs.length fc] w fun e w' => e = .returned (.bool (rowB (gs.map (·.2)) ts)) ∧ Below w.heap.size w w':=by
  have HI:=Lib.hid hI
  have HC:=Lib.hid hc
  have HS:=Lib.hid hsh
  have HG:=Lib.hid hg
  have HL:=Lib.hid hl
  have hne : ((ts.length : Int) != (gs.length : Int)) = false:=by simp; omega
  have hgn : gs.length ≤ 1000000:=by omega
  have hl1 : ts.length ≤ gs.length:=by omega
  have hl2 : gs.length ≤ ts.length:=by omega
  clear hI hc hsh hg hl
  go_enter Tryz.func81,Tryz.ntmps81
  go_wp2_with fail
  go_loopw [14] (fun v wr => ∃ k : Nat,k ≤ gs.length ∧ v = .int .i64 k ∧ Below w.heap.size w wr ∧ Hid (∀ (i : Nat) q t,i < k → gs[i]? = some q → ts[i]? = some t → q.2 t = true)) (fun v _ => gs.length - (intOf v).toNat)
  case atStart => exact ⟨0,Nat.zero_le _,rfl,Below.refl _ _,Lib.hid (fun i q t hi => by omega)⟩
  case round =>
   obtain ⟨k,hk,rfl,hb,HA⟩:=hrel
   have hz:=hb.size
   by_cases hlt : k < gs.length
   · have hlt2 : k < ts.length:=by omega
     obtain ⟨t,ht⟩ : ∃ t,ts[k]? = some t:=⟨_,List.getElem?_eq_getElem hlt2⟩
     obtain ⟨⟨g,p⟩,hq⟩ : ∃ q,gs[k]? = some q:=⟨_,List.getElem?_eq_getElem hlt⟩
     obtain ⟨sl,hs⟩ : ∃ sl,sls[k]? = some sl:=⟨_,List.getElem?_eq_getElem (by omega)⟩
     obtain ⟨ao,nn,c,rfl⟩:=HS.out sl (List.mem_of_getElem? hs)
     obtain ⟨q0,q1,q2,q3⟩:=cellsOf_get ht hs
     obtain ⟨he,hf⟩:=HG.out k g p hq
     have eg : ∀ args w,(callFunc g args).run Tryz.prog w = .ok (.enter g args) w:=he
     have a0:=HC.out _ _ q0
     have bl:=lt_of_cell a0
     have fl:=lt_of_cell hf
     have r : ∀ o,wr.cell? ⟨b,o,none⟩ = w.cell? ⟨b,o,none⟩:=fun o => hb.cell (p:=⟨b,o,none⟩) bl
     have xf : wr.cell? ⟨fb,k,none⟩ = some (.func (.func g) #[] #[]):=(hb.cell (p:=⟨fb,k,none⟩) fl).trans hf
     have x0 : wr.cell? ⟨b,o + k * 4,none⟩ = some (.int .i64 t.kind):=(r _).trans a0
     have x1 : wr.cell? ⟨b,o + k * 4 + 1,none⟩ = some (.string ⟨t.text.toArray⟩):=(r _).trans (HC.out _ _ q1)
     have x2 : wr.cell? ⟨b,o + k * 4 + 2,none⟩ = some (.int .i64 t.num):=(r _).trans (HC.out _ _ q2)
     have x3 : wr.cell? ⟨b,o + k * 4 + 3,none⟩ = some (.slice ao nn c):=(r _).trans (HC.out _ _ q3)
     have cT:=HI.out k g p t (.slice ao nn c) wr hq ht hs hb
     have HT:=Lib.hid ht
     have HQ:=Lib.hid hq
     clear ht hs q0 q1 q2 q3 a0 r hq he hf
     go_wp2_with fail
     refine cT.mono ?_
     rintro e w2 ⟨rfl,hb2⟩
     have hb3 : Below w.heap.size w w2:=hb.trans (hb2.mono hz)
     clear cT
     cases hp : p t with
     | false =>
      have HX : Hid (rowB (gs.map (·.2)) ts = false):=rowB_take (i:=k) (by rw [List.getElem?_map,HQ.out]; rfl) HT.out hp
      clear hp
      go_wp2
      go_ret
      exact ⟨by simp [HX.out],hb3⟩
     | true =>
      have HX : Hid (∀ (i : Nat) q t,i < k + 1 → gs[i]? = some q → ts[i]? = some t → q.2 t = true):=by
       refine Lib.hid ?_
       intro i q u hi h1 h2
       rcases Nat.lt_or_ge i k with h3 | h3
       · exact HA.out i q u h3 h1 h2
       · have : i = k:=by omega
         subst this
         rw [HQ.out] at h1; rw [HT.out] at h2
         cases h1; cases h2; exact hp
      clear hp
      go_wp2
      go_roundw
      case rel => exact ⟨k + 1,by omega,by go_num,hb3,HX⟩
      case measure => simp [intOf]; omega
   · have HX : Hid (rowB (gs.map (·.2)) ts = true):=by
      refine rowB_all (by simpa using HL.out) fun i p t h1 h2 => ?_
      rw [List.getElem?_map] at h1
      cases h3 : gs[i]? with
      | none => rw [h3] at h1; cases h1
      | some q =>
       rw [h3] at h1; cases h1
       have : i < gs.length:=by
        rcases Nat.lt_or_ge i gs.length with h | h
        · exact h
        · rw [List.getElem?_eq_none h] at h3; cases h3
       exact HA.out i q t (by omega) h3 h2
     go_wp2
     go_ret
     exact ⟨by simp [HX.out],hb⟩
/-- row of a list that lies, by tests that lie. -/
theorem rowL {n : Nat} (gs : List (Nat × (Tr → Bool))) {ts : List Tr} {sl : Value} {S : Nat → Prop} {w : World} (fb fc : Nat) (hG : Gl w) (hS : ∀ b,S b → b < w.heap.size) (hF : ∀ t ∈ ts,Fit n t) (hgn : 0 < gs.length ∧ gs.length ≤ 1000) (hL : Lst w S ts sl)
    (hg : ∀ (i g : Nat) p,gs[i]? = some (g,p) → Enters Tryz.prog g ∧ w.cell? ⟨fb,i,none⟩ = some (.func (.func g) #[] #[]) ∧ Tst g n p) :
    Calls Tryz.prog 81 #[sl,.slice (some ⟨fb,0,none⟩) gs.length fc] w fun e w' => e = .returned (.bool (rowB (gs.map (·.2)) ts)) ∧ Below w.heap.size w w':=by
  by_cases hl : ts.length = gs.length
  · obtain ⟨sls,h1,h2⟩:=hL
    rcases h1 with ⟨h0,ao,cap,rfl⟩ | ⟨gb,o,cap,rfl,_,hgb,hc⟩
    · omega
    · refine row_any gs ts sls h2.length hl w gb o cap fb fc (by omega) hc h2.slices (fun i g p h => ⟨(hg i g p h).1,(hg i g p h).2.1⟩) (fun k g p t sl w1 hq ht hs hb => ?_)
      exact (hg k g p hq).2.2 t sl S w1 (hG.later hb) (fun b hb' => Nat.lt_of_lt_of_le (hS b hb') hb.size) (hF t (List.mem_of_getElem? ht)) ((h2.get ht hs).fr (fun b hb' => hb.block b (hS b hb')) (fun _ h => h))
  · obtain ⟨ao,cap,rfl⟩:=hL.slice
    have e : rowB (gs.map (·.2)) ts = false:=rowB_ne (by simpa using hl)
    rw [e]
    exact (row_ne ao _ _ _ cap fc hl w).mono fun e w' ⟨h1,h2⟩ => ⟨h1,h2 ▸ Below.refl _ _⟩
end Go.Proofs.YtnkphlkjhgngkaaGreatDoor

namespace Go.Proofs.YtnkphlkjhgngkaaGreatDoor
open Go.RowKit
attribute [local go_sem ↓] Go.wp_at_zero Go.wp_at_succ
theorem KL.split {w : World} {S : Nat → Prop} : ∀ {ts us : List Tr} {a : List Value},KL w S (ts ++ us) a → ∃ b c,a = b ++ c ∧ KL w S ts b ∧ KL w S us c
  | [],us,a,h => ⟨[],a,rfl,rfl,h⟩
  | t :: ts,us,a,h => by
   simp only [List.cons_append,KL] at h
   obtain ⟨sl,r,rfl,h2,h3⟩:=h
   obtain ⟨b,c,rfl,h4,h5⟩:=KL.split h3
   exact ⟨sl :: b,c,rfl,by simp only [KL]; exact ⟨sl,b,rfl,h2,h4⟩,h5⟩
/-- The first and the last ones of a list that lies. -/
theorem Lst.parts {w : World} {S : Nat → Prop} {ts us : List Tr} {sls : List Value} {g o : Nat} (hg : S g) (hc : ∀ (j : Nat) u,(cellsOf (ts ++ us) sls)[j]? = some u → w.cell? ⟨g,o + j,none⟩ = some u) (hk : KL w S (ts ++ us) sls) (c1 c2 : Nat) (h1 : ts.length ≤ c1) (h2 : us.length ≤ c2) :
    Lst w S ts (.slice (some ⟨g,o,none⟩) ts.length c1) ∧ Lst w S us (.slice (some ⟨g,o + ts.length * 4,none⟩) us.length c2):=by
  obtain ⟨b,c,rfl,k1,k2⟩:=hk.split
  rw [cellsOf_append k1.length] at hc
  have hl:=cellsOf_length k1.length
  refine ⟨⟨b,.inr ⟨g,o,c1,rfl,h1,hg,fun j u hj => hc j u ?_⟩,k1⟩,⟨c,.inr ⟨g,o + ts.length * 4,c2,rfl,h2,hg,fun j u hj => ?_⟩,k2⟩⟩
  · rw [List.getElem?_append_left]
    · exact hj
    · rcases Nat.lt_or_ge j (cellsOf ts b).length with h | h
      · exact h
      · rw [List.getElem?_eq_none h] at hj; cases hj
  · rw [Nat.add_assoc]
    refine hc _ u ?_
    rw [← hl,List.getElem?_append_right (by omega)]
    rw [show (cellsOf ts b).length + j - (cellsOf ts b).length = j by omega]; exact hj
theorem Lst.nil {w : World} {S : Nat → Prop} (ao : Option Addr) (c : Nat) : Lst w S [] (.slice ao 0 c):=⟨[],.inl ⟨rfl,ao,c,rfl⟩,by simp [KL]⟩
set_option maxRecDepth 20000 in
set_option maxHeartbeats 1600000 in
theorem partedL {g1 g2 n : Nat} {p q : Tr → Bool} (he1 : Enters Tryz.prog g1) (he2 : Enters Tryz.prog g2) (T1 : Tst g1 n p) (T2 : Tst g2 n q) {ts : List Tr} {sl : Value} {S : Nat → Prop} {w : World} (hG : Gl w) (hS : ∀ b,S b → b < w.heap.size) (hF : ∀ t ∈ ts,Fit n t) (hn : ts.length ≤ 20000) (hL : Lst w S ts sl) (count : Int) :
    Calls Tryz.prog 117 #[sl,.int .i64 count,.func (.func g1) #[] #[],.func (.func g2) #[] #[]] w fun e w' => e = .returned (.bool (partedB ts count p q)) ∧ Below w.heap.size w w':=by
  have HR : Hid (partedB ts count p q = (decide (0 ≤ count) && (decide (count ≤ ts.length) && ((ts.take count.toNat).all p && (ts.drop count.toNat).all q)))):=rfl
  by_cases h0 : 0 ≤ count
  · by_cases h1 : count ≤ ts.length
    · obtain ⟨k,rfl⟩ : ∃ k : Nat,count = k:=⟨count.toNat,by omega⟩
      have hk : k ≤ ts.length:=by omega
      have HX : Hid (partedB ts k p q = ((ts.take k).all p && (ts.drop k).all q)):=HR.out.trans (by simp [hk])
      have hl1 : (ts.take k).length = k:=by simp [hk]
      have hl2 : (ts.drop k).length = ts.length - k:=by simp
      have hF1 : ∀ t ∈ ts.take k,Fit n t:=fun t h => hF t (List.mem_of_mem_take h)
      have hF2 : ∀ t ∈ ts.drop k,Fit n t:=fun t h => hF t (List.mem_of_mem_drop h)
      clear HR h0 h1
      have hL':=hL
      obtain ⟨sls,hr,hkl⟩:=hL'
      rcases hr with ⟨e0,ao,cap,rfl⟩ | ⟨gb,o,cap,rfl,hcp,hg,hc⟩
      · have ek : k = 0:=by omega
        subst ek
        have hu : ts = []:=List.eq_nil_of_length_eq_zero e0
        subst hu
        have HX : Hid (partedB [] 0 p q = true):=rfl
        have c1:=every_nil (.func (.func g1) #[] #[]) ao cap w
        have c2:=every_nil (.func (.func g2) #[] #[]) ao cap w
        go_enter Tryz.func117,Tryz.ntmps117
        go_wp2_with fail
        refine c1.mono ?_
        rintro e w1 ⟨rfl,rfl⟩
        go_wp2_with fail
        refine c2.mono ?_
        rintro e w2 ⟨rfl,rfl⟩
        go_wp2
        go_ret
        exact ⟨by simp [HX.out],Below.refl _ _⟩
      · obtain ⟨L1,L2⟩:=Lst.parts (w:=w) (ts:=ts.take k) (us:=ts.drop k) hg (by rwa [List.take_append_drop]) (by rwa [List.take_append_drop]) cap (cap - k) (by omega) (by omega)
        have c1:=everyL he1 T1 hG hS hF1 (by omega) L1
        rw [hl1] at c1 L2
        clear hc hkl hL
        by_cases hck : k < cap
        · have hck0 : (cap - k == 0) = false:=by simp; omega
          go_enter Tryz.func117,Tryz.ntmps117
          go_wp2_with fail
          refine c1.mono ?_
          rintro e w1 ⟨rfl,hb1⟩
          have z1:=hb1.size
          clear c1
          cases hp : (ts.take k).all p with
          | false =>
           have HY : Hid (partedB ts k p q = false):=HX.out.trans (by rw [hp]; rfl)
           clear hp
           go_wp2
           go_ret
           exact ⟨by simp [HY.out],hb1⟩
          | true =>
           have HY : Hid (partedB ts k p q = (ts.drop k).all q):=HX.out.trans (by rw [hp]; rfl)
           have c2:=everyL he2 T2 (hG.later hb1) (fun b hb => Nat.lt_of_lt_of_le (hS b hb) hb1.size) hF2 (by omega) (L2.fr (fun b hb => hb1.block b (hS b hb)) (fun _ h => h))
           rw [hl2] at c2
           clear hp L2
           go_wp2_with fail
           refine c2.mono ?_
           rintro e w2 ⟨rfl,hb2⟩
           go_wp2
           go_ret
           exact ⟨by simp [HY.out],hb1.trans (hb2.mono z1)⟩
        · obtain rfl : cap = ts.length:=by omega
          obtain rfl : k = ts.length:=by omega
          go_enter Tryz.func117,Tryz.ntmps117
          go_wp2_with fail
          refine c1.mono ?_
          rintro e w1 ⟨rfl,hb1⟩
          have z1:=hb1.size
          clear c1
          cases hp : (ts.take ts.length).all p with
          | false =>
           have HY : Hid (partedB ts ts.length p q = false):=HX.out.trans (by rw [hp]; rfl)
           clear hp
           go_wp2
           go_ret
           exact ⟨by simp [HY.out],hb1⟩
          | true =>
           have HY : Hid (partedB ts ts.length p q = true):=HX.out.trans (by rw [hp]; simp)
           have c2:=every_nil (.func (.func g2) #[] #[]) (some ⟨gb,o,none⟩) 0 w1
           clear hp L2
           go_wp2_with fail
           refine c2.mono ?_
           rintro e w2 ⟨rfl,rfl⟩
           go_wp2
           go_ret
           exact ⟨by simp [HY.out],hb1⟩
    · have HX : Hid (partedB ts count p q = false):=HR.out.trans (by simp [h1])
      obtain ⟨ao,cap,rfl⟩:=hL.slice
      clear HR
      go_enter Tryz.func117,Tryz.ntmps117
      go_wp2
      go_ret
      exact ⟨by simp [HX.out],Below.refl _ _⟩
  · have HX : Hid (partedB ts count p q = false):=HR.out.trans (by simp [h0])
    obtain ⟨ao,cap,rfl⟩:=hL.slice
    clear HR
    go_enter Tryz.func117,Tryz.ntmps117
    go_wp2
    go_ret
    exact ⟨by simp [HX.out],Below.refl _ _⟩
end Go.Proofs.YtnkphlkjhgngkaaGreatDoor

namespace Go.Proofs.YtnkphlkjhgngkaaGreatDoor
open Go.RowKit
attribute [local go_sem ↓] Go.wp_at_zero Go.wp_at_succ
/-- A test's world later on: the node lies in its box. -/
def Hx (w : World) (c0 c1 c2 c3 : Value) (W : World) : Prop:=Below (w.heap.size + 1) (w.alloc (.cells #[c0,c1,c2,c3] 24)) W
section
variable {w W W' : World} {c0 c1 c2 c3 : Value}
theorem Hx.start : Hx w c0 c1 c2 c3 (w.alloc (.cells #[c0,c1,c2,c3] 24)):=Below.refl _ _
theorem Hx.size (h : Hx w c0 c1 c2 c3 W) : w.heap.size + 1 ≤ W.heap.size:=by have:=Below.size h; simpa using this
theorem Hx.next (h : Hx w c0 c1 c2 c3 W) (hb : Below W.heap.size W W') : Hx w c0 c1 c2 c3 W':=Below.trans h (hb.mono h.size)
theorem Hx.out (h : Hx w c0 c1 c2 c3 W) : Below w.heap.size w W:=((Below.refl w.heap.size w).alloc (Nat.le_refl _) _).trans (Below.mono h (by omega))
theorem Hx.cells (h : Hx w c0 c1 c2 c3 W) : W.cell? ⟨w.heap.size,0,none⟩ = some c0 ∧ W.cell? ⟨w.heap.size,1,none⟩ = some c1 ∧ W.cell? ⟨w.heap.size,2,none⟩ = some c2 ∧ W.cell? ⟨w.heap.size,3,none⟩ = some c3:=by
 have r : ∀ o,W.cell? ⟨w.heap.size,o,none⟩ = (w.alloc (.cells #[c0,c1,c2,c3] 24)).cell? ⟨w.heap.size,o,none⟩:=fun o => Below.cell (p:=⟨w.heap.size,o,none⟩) h (by simp)
 refine ⟨?_,?_,?_,?_⟩ <;> · rw [r,World.cell?_alloc_new]; rfl
end
section
variable {g g1 g2 g3 n : Nat} {p p1 p2 p3 : Tr → Bool} {ts : List Tr} {t : Tr} {sl : Value} {S : Nat → Prop} {w W : World}
theorem Tst.at (T : Tst g n p) (hG : Gl w) (hS : ∀ b,S b → b < w.heap.size) (hF : Fit n t) (hk : KT w S t sl) (hB : Below w.heap.size w W) :
    Calls Tryz.prog g #[tv t sl] W fun e w' => e = .returned (.bool (p t)) ∧ Below W.heap.size W w' :=
  T t sl S W (hG.later hB) (fun b hb => Nat.lt_of_lt_of_le (hS b hb) hB.size) hF (hk.fr (fun b hb => hB.block b (hS b hb)) (fun _ h => h))
theorem everyW (he : Enters Tryz.prog g) (T : Tst g n p) (hG : Gl w) (hS : ∀ b,S b → b < w.heap.size) (hF : ∀ t ∈ ts,Fit n t) (hn : ts.length ≤ 20000) (hL : Lst w S ts sl) (hB : Below w.heap.size w W) :
    Calls Tryz.prog 46 #[sl,.func (.func g) #[] #[]] W fun e w' => e = .returned (.bool (ts.all p)) ∧ Below W.heap.size W w' :=
  everyL he T (hG.later hB) (fun b hb => Nat.lt_of_lt_of_le (hS b hb) hB.size) hF hn (hL.fr (fun b hb => hB.block b (hS b hb)) (fun _ h => h))
theorem partedW (he1 : Enters Tryz.prog g1) (he2 : Enters Tryz.prog g2) (T1 : Tst g1 n p1) (T2 : Tst g2 n p2) (hG : Gl w) (hS : ∀ b,S b → b < w.heap.size) (hF : ∀ t ∈ ts,Fit n t) (hn : ts.length ≤ 20000) (hL : Lst w S ts sl) (hB : Below w.heap.size w W) (count : Int) :
    Calls Tryz.prog 117 #[sl,.int .i64 count,.func (.func g1) #[] #[],.func (.func g2) #[] #[]] W fun e w' => e = .returned (.bool (partedB ts count p1 p2)) ∧ Below W.heap.size W w' :=
  partedL he1 he2 T1 T2 (hG.later hB) (fun b hb => Nat.lt_of_lt_of_le (hS b hb) hB.size) hF hn (hL.fr (fun b hb => hB.block b (hS b hb)) (fun _ h => h)) count
theorem rowW0 (hL : Lst w S ts sl) (_hB : Below w.heap.size w W) :
    Calls Tryz.prog 81 #[sl,.slice none 0 0] W fun e w' => e = .returned (.bool (rowB [] ts)) ∧ Below W.heap.size W w':=by
  obtain ⟨ao,cap,rfl⟩:=hL.slice
  cases ts with
  | nil => exact (row_nil ao none cap 0 W).mono fun e w' ⟨h1,h2⟩ => ⟨h1,h2 ▸ Below.refl _ _⟩
  | cons a b => exact (row_ne ao none _ 0 cap 0 (by simp) W).mono fun e w' ⟨h1,h2⟩ => ⟨h1,h2 ▸ Below.refl _ _⟩
theorem rowWN (gs : List (Nat × (Tr → Bool))) {a : Array Value} (ha : a = (gs.map fun q => Value.func (.func q.1) #[] #[]).toArray) (hgn : 0 < gs.length ∧ gs.length ≤ 1000) (hg : ∀ q ∈ gs,Enters Tryz.prog q.1 ∧ Tst q.1 n q.2)
    (hG : Gl w) (hS : ∀ b,S b → b < w.heap.size) (hF : ∀ t ∈ ts,Fit n t) (hL : Lst w S ts sl) (hB : Below w.heap.size w W) :
    Calls Tryz.prog 81 #[sl,.slice (some ⟨W.heap.size,0,none⟩) gs.length gs.length] (W.alloc (.cells a 90)) fun e w' => e = .returned (.bool (rowB (gs.map (·.2)) ts)) ∧ Below W.heap.size W w':=by
  have hB':=hB.alloc hB.size (.cells a 90)
  have hz : w.heap.size ≤ (W.alloc (.cells a 90)).heap.size:=hB'.size
  have hc:=rowL gs (W.heap.size) gs.length (hG.later hB') (fun b hb => Nat.lt_of_lt_of_le (hS b hb) hz) hF hgn (hL.fr (fun b hb => hB'.block b (hS b hb)) (fun _ h => h)) (fun i g p h => by
   have hm:=List.mem_of_getElem? h
   refine ⟨(hg _ hm).1,?_,(hg _ hm).2⟩
   rw [World.cell?_alloc_new,ha]
   simp [h])
  exact hc.mono fun e w' ⟨h1,h2⟩ => ⟨h1,((Below.refl W.heap.size W).alloc (Nat.le_refl _) _).trans (h2.mono (by simp))⟩
theorem rowW1 (e1 : Enters Tryz.prog g1) (T1 : Tst g1 n p1) (hG : Gl w) (hS : ∀ b,S b → b < w.heap.size) (hF : ∀ t ∈ ts,Fit n t) (hL : Lst w S ts sl) (hB : Below w.heap.size w W) :
    Calls Tryz.prog 81 #[sl,.slice (some ⟨W.heap.size,0,none⟩) 1 1] (W.alloc (.cells #[.func (.func g1) #[] #[]] 90)) fun e w' => e = .returned (.bool (rowB [p1] ts)) ∧ Below W.heap.size W w' :=
  rowWN [(g1,p1)] rfl (by simp) (by simp; exact ⟨e1,T1⟩) hG hS hF hL hB
theorem rowW2 (e1 : Enters Tryz.prog g1) (e2 : Enters Tryz.prog g2) (T1 : Tst g1 n p1) (T2 : Tst g2 n p2) (hG : Gl w) (hS : ∀ b,S b → b < w.heap.size) (hF : ∀ t ∈ ts,Fit n t) (hL : Lst w S ts sl) (hB : Below w.heap.size w W) :
    Calls Tryz.prog 81 #[sl,.slice (some ⟨W.heap.size,0,none⟩) 2 2] (W.alloc (.cells #[.func (.func g1) #[] #[],.func (.func g2) #[] #[]] 90)) fun e w' => e = .returned (.bool (rowB [p1,p2] ts)) ∧ Below W.heap.size W w' :=
  rowWN [(g1,p1),(g2,p2)] rfl (by simp) (by simp; exact ⟨⟨e1,T1⟩,e2,T2⟩) hG hS hF hL hB
theorem rowW3 (e1 : Enters Tryz.prog g1) (e2 : Enters Tryz.prog g2) (e3 : Enters Tryz.prog g3) (T1 : Tst g1 n p1) (T2 : Tst g2 n p2) (T3 : Tst g3 n p3) (hG : Gl w) (hS : ∀ b,S b → b < w.heap.size) (hF : ∀ t ∈ ts,Fit n t) (hL : Lst w S ts sl) (hB : Below w.heap.size w W) :
    Calls Tryz.prog 81 #[sl,.slice (some ⟨W.heap.size,0,none⟩) 3 3] (W.alloc (.cells #[.func (.func g1) #[] #[],.func (.func g2) #[] #[],.func (.func g3) #[] #[]] 90)) fun e w' => e = .returned (.bool (rowB [p1,p2,p3] ts)) ∧ Below W.heap.size W w' :=
  rowWN [(g1,p1),(g2,p2),(g3,p3)] rfl (by simp) (by simp; exact ⟨⟨e1,T1⟩,⟨e2,T2⟩,e3,T3⟩) hG hS hF hL hB
end
theorem tst_isCall {n : Nat} : Tst 145 n isCallT:=fun t sl S w _ _ _ hk => by
 obtain ⟨ao,nn,c,rfl⟩:=hk.slice
 exact isCall_any t ao nn c w
theorem tst_isName {n : Nat} : Tst 143 n isNameT:=fun t sl S w _ _ _ hk => by
 obtain ⟨ao,nn,c,rfl⟩:=hk.slice
 exact isNameN_any t ao nn c w
theorem tst_isPlace {n : Nat} : Tst 144 n isPlaceT:=fun t sl S w _ _ _ hk => by
 obtain ⟨ao,nn,c,rfl⟩:=hk.slice
 exact isPlace_any t ao nn c w
theorem bareW {w W : World} (_hB : Below w.heap.size w W) (t : Tr) (ao : Option Addr) (n c : Nat) : Calls Tryz.prog 45 #[tv t (.slice ao n c)] W fun e w' => e = .returned (.bool (bareT t)) ∧ Below W.heap.size W w':=bareS_any t ao n c W
theorem numberedW {w W : World} (_hB : Below w.heap.size w W) (t : Tr) (ao : Option Addr) (n c : Nat) : Calls Tryz.prog 116 #[tv t (.slice ao n c)] W fun e w' => e = .returned (.bool (numberedT t)) ∧ Below W.heap.size W w':=numberedS_any t ao n c W
theorem prefixW {w W : World} (s : List UInt8) (_hB : Below w.heap.size w W) : Calls Tryz.prog 167 #[.string ⟨s.toArray⟩] W fun e w' => e = .returned (.bool (prefixL s)) ∧ Below W.heap.size W w':=(isPrefix_any s W).mono fun _ _ ⟨h1,h2⟩ => ⟨h1,h2 ▸ Below.refl _ _⟩
theorem rankW {w W : World} (s : List UInt8) (_hB : Below w.heap.size w W) : Calls Tryz.prog 168 #[.string ⟨s.toArray⟩] W fun e w' => e = .returned (.int .i64 (rankL s)) ∧ Below W.heap.size W w':=(rank_any s W).mono fun _ _ ⟨h1,h2⟩ => ⟨h1,h2 ▸ Below.refl _ _⟩
theorem ent_typ : Enters Tryz.prog 115:=enters_of Tryz.func115 (by kernel_rfl) rfl
theorem ent_par : Enters Tryz.prog 118:=enters_of Tryz.func118 (by kernel_rfl) rfl
theorem ent_sig : Enters Tryz.prog 82:=enters_of Tryz.func82 (by kernel_rfl) rfl
theorem ent_blk : Enters Tryz.prog 83:=enters_of Tryz.func83 (by kernel_rfl) rfl
theorem ent_els : Enters Tryz.prog 164:=enters_of Tryz.func164 (by kernel_rfl) rfl
theorem ent_stm : Enters Tryz.prog 119:=enters_of Tryz.func119 (by kernel_rfl) rfl
theorem ent_exp : Enters Tryz.prog 141:=enters_of Tryz.func141 (by kernel_rfl) rfl
theorem ent_fld : Enters Tryz.prog 79:=enters_of Tryz.func79 (by kernel_rfl) rfl
theorem ent_met : Enters Tryz.prog 80:=enters_of Tryz.func80 (by kernel_rfl) rfl
theorem ent_dec : Enters Tryz.prog 47:=enters_of Tryz.func47 (by kernel_rfl) rfl
theorem ent_rec : Enters Tryz.prog 84:=enters_of Tryz.func84 (by kernel_rfl) rfl
theorem ent_isCall : Enters Tryz.prog 145:=enters_of Tryz.func145 (by kernel_rfl) rfl
theorem ent_isName : Enters Tryz.prog 143:=enters_of Tryz.func143 (by kernel_rfl) rfl
theorem ent_isPlace : Enters Tryz.prog 144:=enters_of Tryz.func144 (by kernel_rfl) rfl
set_option maxRecDepth 20000 in
set_option maxHeartbeats 4000000 in
theorem par_step {n : Nat} {r : Q → Tr → Bool} (hTyp : Tst 115 n (r .typ)) : Tst 118 (n + 1) (parB r):=by
 intro t sl S w hG hS hF hk
 obtain ⟨k,s,m,ks⟩:=t
 obtain ⟨ao,c,rfl⟩:=(Lst.of hk).slice
 have hF0:=hF
 obtain ⟨hF1,hF2,hF3⟩:=hF0
 change ∀ t ∈ ks,Fit _ t at hF3
 change ks.length ≤ 20000 at hF1
 change s.length ≤ maxLen at hF2
 have hL:=Lst.of hk
 have hkn : ks.length ≤ 20000:=hF1
 by_cases hk8 : k = 8
 · subst hk8
   have HR : Hid (parB r (.mk 8 s m ks) = (namedT (.mk 8 s m ks) && rowB [r .typ] ks)):=rfl
   have hX0:=Hx.start (w:=w) (c0:=.int .i64 8) (c1:=.string ⟨s.toArray⟩) (c2:=.int .i64 m) (c3:=.slice ao ks.length c)
   have c1:=namedS_any (.mk 8 s m ks) ao ks.length c _ (hG.later hX0.out) hF2
   change Calls Tryz.prog 118 #[.agg #[.int .i64 8,.string ⟨s.toArray⟩,.int .i64 m,.slice ao ks.length c]] w _
   go_enter Tryz.func118,Tryz.ntmps118
   go_wp2_with fail
   refine c1.mono ?_
   rintro e w1 ⟨rfl,hb1⟩
   have hX1:=hX0.next hb1
   clear c1
   obtain ⟨x0,x1,x2,x3⟩:=hX1.cells
   cases h1 : namedT (.mk 8 s m ks) with
   | false =>
    have HX : Hid (parB r (.mk 8 s m ks) = false):=HR.out.trans (by rw [h1]; try rfl)
    clear h1
    go_wp2
    go_ret
    exact ⟨congrArg (fun b => Ending.returned (Value.bool b)) HX.out.symm,hX1.out⟩
   | true =>
    have HR1 : Hid (parB r (.mk 8 s m ks) = rowB [r .typ] ks):=HR.out.trans (by rw [h1]; try rfl)
    clear h1
    have c2:=rowW1 ent_typ hTyp hG hS hF3 hL hX1.out
    go_wp2_with fail
    refine c2.mono ?_
    rintro e w2 ⟨rfl,hb2⟩
    have hX2:=hX1.next hb2
    clear c2
    clear x0 x1 x2 x3
    obtain ⟨x0,x1,x2,x3⟩:=hX2.cells
    have HX:=HR1
    go_wp2
    go_ret
    exact ⟨congrArg (fun b => Ending.returned (Value.bool b)) HX.out.symm,hX2.out⟩
 have HX : Hid (parB r (.mk k s m ks) = false):=by simp [Hid,parB,Tr.kind,hk8]
 have hX0:=Hx.start (w:=w) (c0:=.int .i64 k) (c1:=.string ⟨s.toArray⟩) (c2:=.int .i64 m) (c3:=.slice ao ks.length c)
 have e8 : (k == 8) = false:=by simpa using hk8
 clear hk8
 change Calls Tryz.prog 118 #[.agg #[.int .i64 k,.string ⟨s.toArray⟩,.int .i64 m,.slice ao ks.length c]] w _
 go_enter Tryz.func118,Tryz.ntmps118
 go_wp2
 go_ret
 exact ⟨congrArg (fun b => Ending.returned (Value.bool b)) HX.out.symm,hX0.out⟩
set_option maxRecDepth 20000 in
set_option maxHeartbeats 4000000 in
theorem sig_step {n : Nat} {r : Q → Tr → Bool} (hPar : Tst 118 n (r .par)) (hTyp : Tst 115 n (r .typ)) : Tst 82 (n + 1) (sigB r):=by
 intro t sl S w hG hS hF hk
 obtain ⟨k,s,m,ks⟩:=t
 obtain ⟨ao,c,rfl⟩:=(Lst.of hk).slice
 have hF0:=hF
 obtain ⟨hF1,hF2,hF3⟩:=hF0
 change ∀ t ∈ ks,Fit _ t at hF3
 change ks.length ≤ 20000 at hF1
 change s.length ≤ maxLen at hF2
 have hL:=Lst.of hk
 have hkn : ks.length ≤ 20000:=hF1
 by_cases hk7 : k = 7
 · subst hk7
   have HR : Hid (sigB r (.mk 7 s m ks) = (numberedT (.mk 7 s m ks) && partedB ks m (r .par) (r .typ))):=rfl
   have hX0:=Hx.start (w:=w) (c0:=.int .i64 7) (c1:=.string ⟨s.toArray⟩) (c2:=.int .i64 m) (c3:=.slice ao ks.length c)
   have c1:=numberedW hX0.out (.mk 7 s m ks) ao ks.length c
   change Calls Tryz.prog 82 #[.agg #[.int .i64 7,.string ⟨s.toArray⟩,.int .i64 m,.slice ao ks.length c]] w _
   go_enter Tryz.func82,Tryz.ntmps82
   go_wp2_with fail
   refine c1.mono ?_
   rintro e w1 ⟨rfl,hb1⟩
   have hX1:=hX0.next hb1
   clear c1
   obtain ⟨x0,x1,x2,x3⟩:=hX1.cells
   cases h1 : numberedT (.mk 7 s m ks) with
   | false =>
    have HX : Hid (sigB r (.mk 7 s m ks) = false):=HR.out.trans (by rw [h1]; try rfl)
    clear h1
    go_wp2
    go_ret
    exact ⟨congrArg (fun b => Ending.returned (Value.bool b)) HX.out.symm,hX1.out⟩
   | true =>
    have HR1 : Hid (sigB r (.mk 7 s m ks) = partedB ks m (r .par) (r .typ)):=HR.out.trans (by rw [h1]; try rfl)
    clear h1
    have c2:=partedW ent_par ent_typ hPar hTyp hG hS hF3 hF1 hL hX1.out m
    go_wp2_with fail
    refine c2.mono ?_
    rintro e w2 ⟨rfl,hb2⟩
    have hX2:=hX1.next hb2
    clear c2
    clear x0 x1 x2 x3
    obtain ⟨x0,x1,x2,x3⟩:=hX2.cells
    have HX:=HR1
    go_wp2
    go_ret
    exact ⟨congrArg (fun b => Ending.returned (Value.bool b)) HX.out.symm,hX2.out⟩
 have HX : Hid (sigB r (.mk k s m ks) = false):=by simp [Hid,sigB,Tr.kind,hk7]
 have hX0:=Hx.start (w:=w) (c0:=.int .i64 k) (c1:=.string ⟨s.toArray⟩) (c2:=.int .i64 m) (c3:=.slice ao ks.length c)
 have e7 : (k == 7) = false:=by simpa using hk7
 clear hk7
 change Calls Tryz.prog 82 #[.agg #[.int .i64 k,.string ⟨s.toArray⟩,.int .i64 m,.slice ao ks.length c]] w _
 go_enter Tryz.func82,Tryz.ntmps82
 go_wp2
 go_ret
 exact ⟨congrArg (fun b => Ending.returned (Value.bool b)) HX.out.symm,hX0.out⟩
set_option maxRecDepth 20000 in
set_option maxHeartbeats 4000000 in
theorem typ_step {n : Nat} {r : Q → Tr → Bool} (hTyp : Tst 115 n (r .typ)) : Tst 115 (n + 1) (typB r):=by
 intro t sl S w hG hS hF hk
 obtain ⟨k,s,m,ks⟩:=t
 obtain ⟨ao,c,rfl⟩:=(Lst.of hk).slice
 have hF0:=hF
 obtain ⟨hF1,hF2,hF3⟩:=hF0
 change ∀ t ∈ ks,Fit _ t at hF3
 change ks.length ≤ 20000 at hF1
 change s.length ≤ maxLen at hF2
 have hL:=Lst.of hk
 have hkn : ks.length ≤ 20000:=hF1
 by_cases hk10 : k = 10
 · subst hk10
   have HR : Hid (typB r (.mk 10 s m ks) = (namedT (.mk 10 s m ks) && rowB [] ks)):=rfl
   have hX0:=Hx.start (w:=w) (c0:=.int .i64 10) (c1:=.string ⟨s.toArray⟩) (c2:=.int .i64 m) (c3:=.slice ao ks.length c)
   have c1:=namedS_any (.mk 10 s m ks) ao ks.length c _ (hG.later hX0.out) hF2
   change Calls Tryz.prog 115 #[.agg #[.int .i64 10,.string ⟨s.toArray⟩,.int .i64 m,.slice ao ks.length c]] w _
   go_enter Tryz.func115,Tryz.ntmps115
   go_wp2_with fail
   refine c1.mono ?_
   rintro e w1 ⟨rfl,hb1⟩
   have hX1:=hX0.next hb1
   clear c1
   obtain ⟨x0,x1,x2,x3⟩:=hX1.cells
   cases h1 : namedT (.mk 10 s m ks) with
   | false =>
    have HX : Hid (typB r (.mk 10 s m ks) = false):=HR.out.trans (by rw [h1]; try rfl)
    clear h1
    go_wp2
    go_ret
    exact ⟨congrArg (fun b => Ending.returned (Value.bool b)) HX.out.symm,hX1.out⟩
   | true =>
    have HR1 : Hid (typB r (.mk 10 s m ks) = rowB [] ks):=HR.out.trans (by rw [h1]; try rfl)
    clear h1
    have c2:=rowW0 hL hX1.out
    go_wp2_with fail
    refine c2.mono ?_
    rintro e w2 ⟨rfl,hb2⟩
    have hX2:=hX1.next hb2
    clear c2
    clear x0 x1 x2 x3
    obtain ⟨x0,x1,x2,x3⟩:=hX2.cells
    have HX:=HR1
    go_wp2
    go_ret
    exact ⟨congrArg (fun b => Ending.returned (Value.bool b)) HX.out.symm,hX2.out⟩
 by_cases hk11 : k = 11
 · subst hk11
   have HR : Hid (typB r (.mk 11 s m ks) = (bareT (.mk 11 s m ks) && rowB [r .typ] ks)):=rfl
   have hX0:=Hx.start (w:=w) (c0:=.int .i64 11) (c1:=.string ⟨s.toArray⟩) (c2:=.int .i64 m) (c3:=.slice ao ks.length c)
   have c1:=bareW hX0.out (.mk 11 s m ks) ao ks.length c
   change Calls Tryz.prog 115 #[.agg #[.int .i64 11,.string ⟨s.toArray⟩,.int .i64 m,.slice ao ks.length c]] w _
   go_enter Tryz.func115,Tryz.ntmps115
   go_wp2_with fail
   refine c1.mono ?_
   rintro e w1 ⟨rfl,hb1⟩
   have hX1:=hX0.next hb1
   clear c1
   obtain ⟨x0,x1,x2,x3⟩:=hX1.cells
   cases h1 : bareT (.mk 11 s m ks) with
   | false =>
    have HX : Hid (typB r (.mk 11 s m ks) = false):=HR.out.trans (by rw [h1]; try rfl)
    clear h1
    go_wp2
    go_ret
    exact ⟨congrArg (fun b => Ending.returned (Value.bool b)) HX.out.symm,hX1.out⟩
   | true =>
    have HR1 : Hid (typB r (.mk 11 s m ks) = rowB [r .typ] ks):=HR.out.trans (by rw [h1]; try rfl)
    clear h1
    have c2:=rowW1 ent_typ hTyp hG hS hF3 hL hX1.out
    go_wp2_with fail
    refine c2.mono ?_
    rintro e w2 ⟨rfl,hb2⟩
    have hX2:=hX1.next hb2
    clear c2
    clear x0 x1 x2 x3
    obtain ⟨x0,x1,x2,x3⟩:=hX2.cells
    have HX:=HR1
    go_wp2
    go_ret
    exact ⟨congrArg (fun b => Ending.returned (Value.bool b)) HX.out.symm,hX2.out⟩
 by_cases hk12 : k = 12
 · subst hk12
   have HR : Hid (typB r (.mk 12 s m ks) = (bareT (.mk 12 s m ks) && rowB [r .typ] ks)):=rfl
   have hX0:=Hx.start (w:=w) (c0:=.int .i64 12) (c1:=.string ⟨s.toArray⟩) (c2:=.int .i64 m) (c3:=.slice ao ks.length c)
   have c1:=bareW hX0.out (.mk 12 s m ks) ao ks.length c
   change Calls Tryz.prog 115 #[.agg #[.int .i64 12,.string ⟨s.toArray⟩,.int .i64 m,.slice ao ks.length c]] w _
   go_enter Tryz.func115,Tryz.ntmps115
   go_wp2_with fail
   refine c1.mono ?_
   rintro e w1 ⟨rfl,hb1⟩
   have hX1:=hX0.next hb1
   clear c1
   obtain ⟨x0,x1,x2,x3⟩:=hX1.cells
   cases h1 : bareT (.mk 12 s m ks) with
   | false =>
    have HX : Hid (typB r (.mk 12 s m ks) = false):=HR.out.trans (by rw [h1]; try rfl)
    clear h1
    go_wp2
    go_ret
    exact ⟨congrArg (fun b => Ending.returned (Value.bool b)) HX.out.symm,hX1.out⟩
   | true =>
    have HR1 : Hid (typB r (.mk 12 s m ks) = rowB [r .typ] ks):=HR.out.trans (by rw [h1]; try rfl)
    clear h1
    have c2:=rowW1 ent_typ hTyp hG hS hF3 hL hX1.out
    go_wp2_with fail
    refine c2.mono ?_
    rintro e w2 ⟨rfl,hb2⟩
    have hX2:=hX1.next hb2
    clear c2
    clear x0 x1 x2 x3
    obtain ⟨x0,x1,x2,x3⟩:=hX2.cells
    have HX:=HR1
    go_wp2
    go_ret
    exact ⟨congrArg (fun b => Ending.returned (Value.bool b)) HX.out.symm,hX2.out⟩
 by_cases hk13 : k = 13
 · subst hk13
   have HR : Hid (typB r (.mk 13 s m ks) = (numberedT (.mk 13 s m ks) && partedB ks m (r .typ) (r .typ))):=rfl
   have hX0:=Hx.start (w:=w) (c0:=.int .i64 13) (c1:=.string ⟨s.toArray⟩) (c2:=.int .i64 m) (c3:=.slice ao ks.length c)
   have c1:=numberedW hX0.out (.mk 13 s m ks) ao ks.length c
   change Calls Tryz.prog 115 #[.agg #[.int .i64 13,.string ⟨s.toArray⟩,.int .i64 m,.slice ao ks.length c]] w _
   go_enter Tryz.func115,Tryz.ntmps115
   go_wp2_with fail
   refine c1.mono ?_
   rintro e w1 ⟨rfl,hb1⟩
   have hX1:=hX0.next hb1
   clear c1
   obtain ⟨x0,x1,x2,x3⟩:=hX1.cells
   cases h1 : numberedT (.mk 13 s m ks) with
   | false =>
    have HX : Hid (typB r (.mk 13 s m ks) = false):=HR.out.trans (by rw [h1]; try rfl)
    clear h1
    go_wp2
    go_ret
    exact ⟨congrArg (fun b => Ending.returned (Value.bool b)) HX.out.symm,hX1.out⟩
   | true =>
    have HR1 : Hid (typB r (.mk 13 s m ks) = partedB ks m (r .typ) (r .typ)):=HR.out.trans (by rw [h1]; try rfl)
    clear h1
    have c2:=partedW ent_typ ent_typ hTyp hTyp hG hS hF3 hF1 hL hX1.out m
    go_wp2_with fail
    refine c2.mono ?_
    rintro e w2 ⟨rfl,hb2⟩
    have hX2:=hX1.next hb2
    clear c2
    clear x0 x1 x2 x3
    obtain ⟨x0,x1,x2,x3⟩:=hX2.cells
    have HX:=HR1
    go_wp2
    go_ret
    exact ⟨congrArg (fun b => Ending.returned (Value.bool b)) HX.out.symm,hX2.out⟩
 have HX : Hid (typB r (.mk k s m ks) = false):=by simp [Hid,typB,Tr.kind,hk10,hk11,hk12,hk13]
 have hX0:=Hx.start (w:=w) (c0:=.int .i64 k) (c1:=.string ⟨s.toArray⟩) (c2:=.int .i64 m) (c3:=.slice ao ks.length c)
 have e10 : (k == 10) = false:=by simpa using hk10
 clear hk10
 have e11 : (k == 11) = false:=by simpa using hk11
 clear hk11
 have e12 : (k == 12) = false:=by simpa using hk12
 clear hk12
 have e13 : (k == 13) = false:=by simpa using hk13
 clear hk13
 change Calls Tryz.prog 115 #[.agg #[.int .i64 k,.string ⟨s.toArray⟩,.int .i64 m,.slice ao ks.length c]] w _
 go_enter Tryz.func115,Tryz.ntmps115
 go_wp2
 go_ret
 exact ⟨congrArg (fun b => Ending.returned (Value.bool b)) HX.out.symm,hX0.out⟩
set_option maxRecDepth 20000 in
set_option maxHeartbeats 4000000 in
theorem blk_step {n : Nat} {r : Q → Tr → Bool} (hStm : Tst 119 n (r .stm)) : Tst 83 (n + 1) (blkB r):=by
 intro t sl S w hG hS hF hk
 obtain ⟨k,s,m,ks⟩:=t
 obtain ⟨ao,c,rfl⟩:=(Lst.of hk).slice
 have hF0:=hF
 obtain ⟨hF1,hF2,hF3⟩:=hF0
 change ∀ t ∈ ks,Fit _ t at hF3
 change ks.length ≤ 20000 at hF1
 change s.length ≤ maxLen at hF2
 have hL:=Lst.of hk
 have hkn : ks.length ≤ 20000:=hF1
 by_cases hk20 : k = 20
 · subst hk20
   have HR : Hid (blkB r (.mk 20 s m ks) = (bareT (.mk 20 s m ks) && ks.all (r .stm))):=rfl
   have hX0:=Hx.start (w:=w) (c0:=.int .i64 20) (c1:=.string ⟨s.toArray⟩) (c2:=.int .i64 m) (c3:=.slice ao ks.length c)
   have c1:=bareW hX0.out (.mk 20 s m ks) ao ks.length c
   change Calls Tryz.prog 83 #[.agg #[.int .i64 20,.string ⟨s.toArray⟩,.int .i64 m,.slice ao ks.length c]] w _
   go_enter Tryz.func83,Tryz.ntmps83
   go_wp2_with fail
   refine c1.mono ?_
   rintro e w1 ⟨rfl,hb1⟩
   have hX1:=hX0.next hb1
   clear c1
   obtain ⟨x0,x1,x2,x3⟩:=hX1.cells
   cases h1 : bareT (.mk 20 s m ks) with
   | false =>
    have HX : Hid (blkB r (.mk 20 s m ks) = false):=HR.out.trans (by rw [h1]; try rfl)
    clear h1
    go_wp2
    go_ret
    exact ⟨congrArg (fun b => Ending.returned (Value.bool b)) HX.out.symm,hX1.out⟩
   | true =>
    have HR1 : Hid (blkB r (.mk 20 s m ks) = ks.all (r .stm)):=HR.out.trans (by rw [h1]; try rfl)
    clear h1
    have c2:=everyW ent_stm hStm hG hS hF3 hF1 hL hX1.out
    go_wp2_with fail
    refine c2.mono ?_
    rintro e w2 ⟨rfl,hb2⟩
    have hX2:=hX1.next hb2
    clear c2
    clear x0 x1 x2 x3
    obtain ⟨x0,x1,x2,x3⟩:=hX2.cells
    have HX:=HR1
    go_wp2
    go_ret
    exact ⟨congrArg (fun b => Ending.returned (Value.bool b)) HX.out.symm,hX2.out⟩
 have HX : Hid (blkB r (.mk k s m ks) = false):=by simp [Hid,blkB,Tr.kind,hk20]
 have hX0:=Hx.start (w:=w) (c0:=.int .i64 k) (c1:=.string ⟨s.toArray⟩) (c2:=.int .i64 m) (c3:=.slice ao ks.length c)
 have e20 : (k == 20) = false:=by simpa using hk20
 clear hk20
 change Calls Tryz.prog 83 #[.agg #[.int .i64 k,.string ⟨s.toArray⟩,.int .i64 m,.slice ao ks.length c]] w _
 go_enter Tryz.func83,Tryz.ntmps83
 go_wp2
 go_ret
 exact ⟨congrArg (fun b => Ending.returned (Value.bool b)) HX.out.symm,hX0.out⟩
set_option maxRecDepth 20000 in
set_option maxHeartbeats 4000000 in
theorem if_step {n : Nat} {r : Q → Tr → Bool} (hExp : Tst 141 n (r .exp)) (hBlk : Tst 83 n (r .blk)) (hEls : Tst 164 n (r .els)) : Tst 140 (n + 1) (ifB r):=by
 intro t sl S w hG hS hF hk
 obtain ⟨k,s,m,ks⟩:=t
 obtain ⟨ao,c,rfl⟩:=(Lst.of hk).slice
 have hF0:=hF
 obtain ⟨hF1,hF2,hF3⟩:=hF0
 change ∀ t ∈ ks,Fit _ t at hF3
 change ks.length ≤ 20000 at hF1
 change s.length ≤ maxLen at hF2
 have hL:=Lst.of hk
 have hkn : ks.length ≤ 20000:=hF1
 by_cases hk25 : k = 25
 · subst hk25
   have HR : Hid (ifB r (.mk 25 s m ks) = (bareT (.mk 25 s m ks) && (rowB [r .exp,r .blk] ks || rowB [r .exp,r .blk,r .els] ks))):=rfl
   have hX0:=Hx.start (w:=w) (c0:=.int .i64 25) (c1:=.string ⟨s.toArray⟩) (c2:=.int .i64 m) (c3:=.slice ao ks.length c)
   have c1:=bareW hX0.out (.mk 25 s m ks) ao ks.length c
   change Calls Tryz.prog 140 #[.agg #[.int .i64 25,.string ⟨s.toArray⟩,.int .i64 m,.slice ao ks.length c]] w _
   go_enter Tryz.func140,Tryz.ntmps140
   go_wp2_with fail
   refine c1.mono ?_
   rintro e w1 ⟨rfl,hb1⟩
   have hX1:=hX0.next hb1
   clear c1
   obtain ⟨x0,x1,x2,x3⟩:=hX1.cells
   cases h1 : bareT (.mk 25 s m ks) with
   | false =>
    have HX : Hid (ifB r (.mk 25 s m ks) = false):=HR.out.trans (by rw [h1]; try rfl)
    clear h1
    go_wp2
    go_ret
    exact ⟨congrArg (fun b => Ending.returned (Value.bool b)) HX.out.symm,hX1.out⟩
   | true =>
    have HR1 : Hid (ifB r (.mk 25 s m ks) = (rowB [r .exp,r .blk] ks || rowB [r .exp,r .blk,r .els] ks)):=HR.out.trans (by rw [h1]; try rfl)
    clear h1
    have c2:=rowW2 ent_exp ent_blk hExp hBlk hG hS hF3 hL hX1.out
    go_wp2_with fail
    refine c2.mono ?_
    rintro e w2 ⟨rfl,hb2⟩
    have hX2:=hX1.next hb2
    clear c2
    clear x0 x1 x2 x3
    obtain ⟨x0,x1,x2,x3⟩:=hX2.cells
    cases h2 : rowB [r .exp,r .blk] ks with
    | true =>
     have HX : Hid (ifB r (.mk 25 s m ks) = true):=HR1.out.trans (by rw [h2]; try rfl)
     clear h2
     go_wp2
     go_ret
     exact ⟨congrArg (fun b => Ending.returned (Value.bool b)) HX.out.symm,hX2.out⟩
    | false =>
     have HR2 : Hid (ifB r (.mk 25 s m ks) = rowB [r .exp,r .blk,r .els] ks):=HR1.out.trans (by rw [h2]; try rfl)
     clear h2
     have c3:=rowW3 ent_exp ent_blk ent_els hExp hBlk hEls hG hS hF3 hL hX2.out
     go_wp2_with fail
     refine c3.mono ?_
     rintro e w3 ⟨rfl,hb3⟩
     have hX3:=hX2.next hb3
     clear c3
     clear x0 x1 x2 x3
     obtain ⟨x0,x1,x2,x3⟩:=hX3.cells
     have HX:=HR2
     go_wp2
     go_ret
     exact ⟨congrArg (fun b => Ending.returned (Value.bool b)) HX.out.symm,hX3.out⟩
 have HX : Hid (ifB r (.mk k s m ks) = false):=by simp [Hid,ifB,Tr.kind,hk25]
 have hX0:=Hx.start (w:=w) (c0:=.int .i64 k) (c1:=.string ⟨s.toArray⟩) (c2:=.int .i64 m) (c3:=.slice ao ks.length c)
 have e25 : (k == 25) = false:=by simpa using hk25
 clear hk25
 change Calls Tryz.prog 140 #[.agg #[.int .i64 k,.string ⟨s.toArray⟩,.int .i64 m,.slice ao ks.length c]] w _
 go_enter Tryz.func140,Tryz.ntmps140
 go_wp2
 go_ret
 exact ⟨congrArg (fun b => Ending.returned (Value.bool b)) HX.out.symm,hX0.out⟩
set_option maxRecDepth 20000 in
set_option maxHeartbeats 4000000 in
theorem els_step {n : Nat} {r : Q → Tr → Bool} (hBlkS : Tst 83 (n + 1) (blkB r)) (hIfS : Tst 140 (n + 1) (ifB r)) : Tst 164 (n + 1) (elsB r):=by
 intro t sl S w hG hS hF hk
 obtain ⟨k,s,m,ks⟩:=t
 obtain ⟨ao,c,rfl⟩:=(Lst.of hk).slice
 have hF0:=hF
 obtain ⟨hF1,hF2,hF3⟩:=hF0
 change ∀ t ∈ ks,Fit _ t at hF3
 change ks.length ≤ 20000 at hF1
 change s.length ≤ maxLen at hF2
 have hL:=Lst.of hk
 have hkn : ks.length ≤ 20000:=hF1
 have HR : Hid (elsB r (.mk k s m ks) = (blkB r (.mk k s m ks) || ifB r (.mk k s m ks))):=rfl
 have hX0:=Hx.start (w:=w) (c0:=.int .i64 k) (c1:=.string ⟨s.toArray⟩) (c2:=.int .i64 m) (c3:=.slice ao ks.length c)
 have c1:=hBlkS.at hG hS hF hk hX0.out
 change Calls Tryz.prog 164 #[.agg #[.int .i64 k,.string ⟨s.toArray⟩,.int .i64 m,.slice ao ks.length c]] w _
 go_enter Tryz.func164,Tryz.ntmps164
 go_wp2_with fail
 refine c1.mono ?_
 rintro e w1 ⟨rfl,hb1⟩
 have hX1:=hX0.next hb1
 clear c1
 obtain ⟨x0,x1,x2,x3⟩:=hX1.cells
 cases h1 : blkB r (.mk k s m ks) with
 | true =>
  have HX : Hid (elsB r (.mk k s m ks) = true):=HR.out.trans (by rw [h1]; try rfl)
  clear h1
  go_wp2
  go_ret
  exact ⟨congrArg (fun b => Ending.returned (Value.bool b)) HX.out.symm,hX1.out⟩
 | false =>
  have HR1 : Hid (elsB r (.mk k s m ks) = ifB r (.mk k s m ks)):=HR.out.trans (by rw [h1]; try rfl)
  clear h1
  have c2:=hIfS.at hG hS hF hk hX1.out
  go_wp2_with fail
  refine c2.mono ?_
  rintro e w2 ⟨rfl,hb2⟩
  have hX2:=hX1.next hb2
  clear c2
  clear x0 x1 x2 x3
  obtain ⟨x0,x1,x2,x3⟩:=hX2.cells
  have HX:=HR1
  go_wp2
  go_ret
  exact ⟨congrArg (fun b => Ending.returned (Value.bool b)) HX.out.symm,hX2.out⟩
end Go.Proofs.YtnkphlkjhgngkaaGreatDoor
