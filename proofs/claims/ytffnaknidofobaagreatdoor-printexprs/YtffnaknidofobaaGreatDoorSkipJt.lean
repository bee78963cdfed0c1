/- The reader's skip: blanks and remarks. -/
import Derived.Test.YtffnaknidofobaaGreatDoorAlphaJt
import Derived.Lib.IndexBytes
namespace Go.Proofs.YtffnaknidofobaaGreatDoor
open Go.RowKit
set_option maxRecDepth 20000 in
theorem byte_all {P : UInt8 → Prop} (h : ∀ n,n < 256 → P (UInt8.ofNat n)) (c : UInt8) : P c:=by
 have:=h c.toNat c.toNat_lt
 simpa using this
/-- How many bytes of blanks and remarks the text begins with (true: within a remark). -/
def skipN : Bool → List UInt8 → Nat
  | _,[] => 0
  | true,c :: r => if remarkP c then skipN true r + 1 else skipN false r + 1
  | false,c :: r => if blankP c then skipN false r + 1 else if c == 47 && r.head? == some 47 then skipN true r + 1 else 0
def skipTo (l : List UInt8) (k : Nat) : Nat:=k + skipN false (l.drop k)
set_option maxRecDepth 20000 in
theorem drop_takeWhile (p : UInt8 → Bool) (l : List UInt8) : l.drop (l.takeWhile p).length = l.dropWhile p:=by
 induction l with
 | nil => rfl
 | cons c r ih => by_cases h : p c <;> simp [h,ih]
set_option maxRecDepth 20000 in
theorem drop_endOf (p : UInt8 → Bool) (l : List UInt8) (k : Nat) : l.drop (endOf p l k) = (l.drop k).dropWhile p:=by
 unfold endOf
 rw [← List.drop_drop,drop_takeWhile]
set_option maxRecDepth 20000 in
theorem skipN_blank (l : List UInt8) : skipN false l = (l.takeWhile blankP).length + skipN false (l.dropWhile blankP):=by
 induction l with
 | nil => rfl
 | cons c r ih =>
  by_cases h : blankP c
  · simp only [List.takeWhile_cons,List.dropWhile_cons,h,if_true,skipN,List.length_cons]; omega
  · simp [h]
set_option maxRecDepth 20000 in
theorem not_remark (c : UInt8) (h : remarkP c = false) : blankP c = true:=by
 have : ∀ c : UInt8,remarkP c = false → blankP c = true:=byte_all (by decide +kernel)
 exact this c h
set_option maxRecDepth 20000 in
theorem skipN_remark (l : List UInt8) : skipN true l = (l.takeWhile remarkP).length + skipN false (l.dropWhile remarkP):=by
 induction l with
 | nil => rfl
 | cons c r ih =>
  by_cases h : remarkP c
  · simp only [List.takeWhile_cons,List.dropWhile_cons,h,if_true,skipN,List.length_cons]; omega
  · have hb:=not_remark c (by simpa using h)
    simp [h,skipN,hb]
set_option maxRecDepth 20000 in
theorem skipTo_blank (l : List UInt8) (k : Nat) : skipTo l (endOf blankP l k) = skipTo l k:=by
 unfold skipTo
 rw [drop_endOf,skipN_blank (l.drop k)]
 unfold endOf; omega
set_option maxRecDepth 20000 in
theorem at_endOf (p : UInt8 → Bool) (l : List UInt8) (k : Nat) : atP p l (endOf p l k) = false:=by
 have h : ∀ m : List UInt8,atP p (m.dropWhile p) 0 = false:=by
  intro m
  induction m with
  | nil => rfl
  | cons c r ih =>
   by_cases hc : p c
   · rw [List.dropWhile_cons_of_pos hc]; exact ih
   · simp [hc,atP]
 have:=h (l.drop k)
 rw [← drop_endOf] at this
 simpa [atP,List.getElem?_drop] using this
set_option maxRecDepth 20000 in
theorem skipTo_end (l : List UInt8) (k : Nat) (hb : atP blankP l k = false) (h : Lib.hasPrefix (l.drop k) [47,47] = false) : skipTo l k = k:=by
 unfold skipTo
 unfold atP at hb
 cases hk : l[k]? with
 | none => rw [List.drop_eq_nil_of_le (by simpa using hk)]; rfl
 | some c =>
  rw [hk] at hb
  obtain ⟨hl,rfl⟩:=List.getElem?_eq_some_iff.1 hk
  rw [List.drop_eq_getElem_cons hl] at h ⊢
  simp only [skipN]
  rw [if_neg (by simpa using hb),if_neg]
  · rfl
  · intro hc
    simp at hc
    obtain ⟨h1,h2⟩:=hc
    unfold Lib.hasPrefix at h
    cases hd : List.drop (k + 1) l with
    | nil => have h3 : (List.drop (k + 1) l)[0]? = some 47:=by simpa using h2
             rw [hd] at h3; cases h3
    | cons d r =>
     have h3 : (List.drop (k + 1) l)[0]? = some 47:=by simpa using h2
     rw [hd] at h h3
     simp at h3
     simp [h1,h3,List.isPrefixOf] at h
set_option maxRecDepth 20000 in
theorem skipTo_remark (l : List UInt8) (k : Nat) (h : Lib.hasPrefix (l.drop k) [47,47] = true) : skipTo l (endOf remarkP l k) = skipTo l k ∧ k < endOf remarkP l k:=by
 have hd : ∃ r,l.drop k = 47 :: 47 :: r:=by
  unfold Lib.hasPrefix at h
  match hm : l.drop k,h with
  | [],h => simp [List.isPrefixOf] at h
  | [c],h => simp [List.isPrefixOf] at h
  | c :: d :: r,h => simp [List.isPrefixOf] at h; obtain ⟨rfl,rfl⟩:=h; exact ⟨r,rfl⟩
 obtain ⟨r,hr⟩:=hd
 have b47 : blankP 47 = false:=by decide +kernel
 have r47 : remarkP 47 = true:=by decide +kernel
 have e : skipN false (l.drop k) = skipN true (l.drop k):=by
  rw [hr]; simp [skipN,b47,r47]
 constructor
 · unfold skipTo
   rw [drop_endOf,e,skipN_remark (l.drop k)]
   unfold endOf; omega
 · unfold endOf; rw [hr]; simp [r47]
set_option maxRecDepth 20000 in
theorem skipTo_le (l : List UInt8) (k : Nat) (h : k ≤ l.length) : skipTo l k ≤ l.length:=by
 have hn : ∀ (m : List UInt8) (b : Bool),skipN b m ≤ m.length:=by
  intro m
  induction m with
  | nil => intro b; cases b <;> exact Nat.le_refl _
  | cons c r ih =>
   intro b
   have h1:=ih true
   have h2:=ih false
   cases b <;> simp only [skipN,List.length_cons] <;> (repeat' split) <;> omega
 have:=hn (l.drop k) false
 simp at this
 unfold skipTo; omega
set_option maxRecDepth 20000 in
theorem skipTo_ge (l : List UInt8) (k : Nat) : k ≤ skipTo l k:=Nat.le_add_right _ _
set_option maxRecDepth 20000 in
theorem boxRd (a : AB) (s : ByteArray) (B : Nat) (w : World) (hA : Alpha a B w) :
    ∃ W,w.alloc (Obj.cells #[.func (.func a.g0) #[] a.l0,.func (.func a.g1) #[] a.l1,.func (.func a.g2) #[] a.l2,.func (.func a.g3) #[] a.l3,.func (.func a.g4) #[] a.l4,.func (.func a.g5) #[] a.l5,.func (.func a.g6) #[] a.l6,.func (.func a.g7) #[] a.l7,.string s] 79) = W ∧
      Alpha a B W ∧ Below w.heap.size w W ∧ W.heap.size = w.heap.size + 1 ∧
      W.cell? ⟨w.heap.size,0,none⟩ = some (.func (.func a.g0) #[] a.l0) ∧ W.cell? ⟨w.heap.size,1,none⟩ = some (.func (.func a.g1) #[] a.l1) ∧ W.cell? ⟨w.heap.size,2,none⟩ = some (.func (.func a.g2) #[] a.l2) ∧
      W.cell? ⟨w.heap.size,3,none⟩ = some (.func (.func a.g3) #[] a.l3) ∧ W.cell? ⟨w.heap.size,4,none⟩ = some (.func (.func a.g4) #[] a.l4) ∧ W.cell? ⟨w.heap.size,5,none⟩ = some (.func (.func a.g5) #[] a.l5) ∧
      W.cell? ⟨w.heap.size,6,none⟩ = some (.func (.func a.g6) #[] a.l6) ∧ W.cell? ⟨w.heap.size,7,none⟩ = some (.func (.func a.g7) #[] a.l7) ∧ W.cell? ⟨w.heap.size,8,none⟩ = some (.string s):=by
  have hb : Below w.heap.size w (w.alloc (Obj.cells #[.func (.func a.g0) #[] a.l0,.func (.func a.g1) #[] a.l1,.func (.func a.g2) #[] a.l2,.func (.func a.g3) #[] a.l3,.func (.func a.g4) #[] a.l4,.func (.func a.g5) #[] a.l5,.func (.func a.g6) #[] a.l6,.func (.func a.g7) #[] a.l7,.string s] 79)):=(Below.refl _ _).alloc (Nat.le_refl _) _
  refine ⟨_,rfl,hA.later (Same.of_below hb),hb,?_,?_,?_,?_,?_,?_,?_,?_,?_,?_⟩ <;> simp
set_option maxRecDepth 20000 in
set_option maxHeartbeats 1000000 in
theorem skip_any (a : AB) (B : Nat) (w : World) (hA : Alpha a B w) (s : ByteArray) (hs : s.size ≤ maxLen) (k : Nat) (hkm : k ≤ s.size) :
    Calls Tryz.prog 56 #[a.rd s,.int .i64 k] w fun e w' => e = .returned (.int .i64 (skipTo s.data.toList k)) ∧ Below w.heap.size w w':=by
  have hs':=hs
  unfold maxLen at hs'
  have hll : s.data.toList.length = s.size:=by simp
  have HL : Hid (s.data.toList.length = s.size):=hll
  clear hll
  go_enter Tryz.func56,Tryz.ntmps56
  go_wp2
  obtain ⟨W,hWq,hA',hb,hz,c0,c1,_,_,_,_,_,_,c8⟩:=boxRd a s B w hA
  rw [hWq]
  clear hWq hz hA
  go_loopw [1] (fun i wr => ∃ j q : Nat,j ≤ s.size ∧ i = .int .i64 j ∧ wr = W.drewN q ∧ Hid (skipTo s.data.toList j = skipTo s.data.toList k)) (fun i _ => s.size - (intOf i).toNat)
  case atStart => exact ⟨k,0,hkm,rfl,rfl,rfl⟩
  case round =>
   obtain ⟨j,q,hj,rfl,rfl,HE⟩:=hrel
   have cE:=end_any a.g0 a.l0 blankP B W (W.drewN q) hA'.e0 hA'.blank ((Same.refl _ _).drewN q) s hs j hj
   have h1:=endOf_ge blankP s.data.toList j
   have h2:=endOf_le blankP s.data.toList j (by have:=HL.out; omega)
   rw [HL.out] at h2
   have H3 : Hid (skipTo s.data.toList (endOf blankP s.data.toList j) = skipTo s.data.toList k):=(skipTo_blank _ _).trans HE.out
   have H4 : Hid (atP blankP s.data.toList (endOf blankP s.data.toList j) = false):=at_endOf _ _ _
   generalize endOf blankP s.data.toList j = e1 at *
   go_wp2_with fail
   refine cE.mono ?_
   rintro e w' ⟨rfl,q2,rfl⟩
   go_wp2_with fail
   have cP : Calls Tryz.prog 90 #[.string (s.extract e1 s.size),.string ⟨#[47,47]⟩] (W.drewN (q + q2)) fun e w' => e = .returned (.bool (Lib.hasPrefix (s.data.toList.drop e1) [47,47])) ∧ w' = W.drewN (q + q2):=by
    have h:=Tryz.strings_HasPrefix (s.extract e1 s.size) ⟨#[47,47]⟩ (W.drewN (q + q2))
    rw [Lib.extract_to_end] at h
    exact h
   cases hp : Lib.hasPrefix (s.data.toList.drop e1) [47,47] <;> rw [hp] at cP
   · have HF : Hid (skipTo s.data.toList e1 = e1):=skipTo_end _ _ H4.out hp
     clear hp
     refine cP.mono ?_
     rintro e w' ⟨rfl,rfl⟩
     go_wp2
     go_ret
     exact ⟨by rw [← H3.out,HF.out]; rfl,below_drewN hb _⟩
   · obtain ⟨hr,hrl⟩:=skipTo_remark _ _ hp
     have HR : Hid (skipTo s.data.toList (endOf remarkP s.data.toList e1) = skipTo s.data.toList k):=hr.trans H3.out
     have h5:=endOf_le remarkP s.data.toList e1 (by have:=HL.out; omega)
     rw [HL.out] at h5
     clear hp hr
     have cR:=end_any a.g1 a.l1 remarkP B W (W.drewN (q + q2)) hA'.e1 hA'.remark ((Same.refl _ _).drewN _) s hs e1 h2
     generalize endOf remarkP s.data.toList e1 = e2 at *
     refine cP.mono ?_
     rintro e w' ⟨rfl,rfl⟩
     go_wp2_with fail
     refine cR.mono ?_
     rintro e w' ⟨rfl,q3,rfl⟩
     go_wp2
     go_roundw
     case rel => exact ⟨e2,_,h5,rfl,rfl,HR⟩
     case measure => simp [intOf]; omega
end Go.Proofs.YtffnaknidofobaaGreatDoor

namespace Go.Proofs.YtffnaknidofobaaGreatDoor
open Go.RowKit
def pairs : List (List UInt8):=[[58,61],[61,61],[33,61],[60,61],[62,61],[38,38],[124,124]]
def words : List (List UInt8):=[[116,121,112,101],[115,116,114,117,99,116],[105,110,116,101,114,102,97,99,101],[102,117,110,99],[118,97,114],[105,102],[101,108,115,101],[102,111,114],[114,101,116,117,114,110],[98,114,101,97,107],[99,111,110,116,105,110,117,101],[116,114,117,101],[102,97,108,115,101],[110,105,108]]
def pairP (l : List UInt8) : Bool:=pairs.contains l
def wordP (l : List UInt8) : Bool:=words.contains l
set_option maxRecDepth 20000 in
set_option maxHeartbeats 1000000 in
theorem isPair_any (s : ByteArray) (w : World) :
    Calls Tryz.prog 137 #[.string s] w fun e w' => e = .returned (.bool (pairP s.toList)) ∧ w' = w:=by
  cases hP : pairP s.toList
  · have hn : (s.toList == [58,61]) = false ∧ (s.toList == [61,61]) = false ∧ (s.toList == [33,61]) = false ∧ (s.toList == [60,61]) = false ∧ (s.toList == [62,61]) = false ∧ (s.toList == [38,38]) = false ∧ (s.toList == [124,124]) = false:=by
     simpa [pairP,pairs] using hP
    obtain ⟨h0,h1,h2,h3,h4,h5,h6⟩:=hn
    clear hP
    go_enter Tryz.func137,Tryz.ntmps137
    go_wp2
    go_ret
    exact ⟨rfl,rfl⟩
  · have hm : s.toList = [58,61] ∨ s.toList = [61,61] ∨ s.toList = [33,61] ∨ s.toList = [60,61] ∨ s.toList = [62,61] ∨ s.toList = [38,38] ∨ s.toList = [124,124]:=by
     simpa [pairP,pairs] using hP
    clear hP
    rcases hm with h | h | h | h | h | h | h
    all_goals
     go_enter Tryz.func137,Tryz.ntmps137
     go_wp2
     go_ret
     exact ⟨rfl,rfl⟩
set_option maxRecDepth 20000 in
set_option maxHeartbeats 1000000 in
theorem isWord_any (s : ByteArray) (w : World) :
    Calls Tryz.prog 134 #[.string s] w fun e w' => e = .returned (.bool (wordP s.toList)) ∧ w' = w:=by
  cases hP : wordP s.toList
  · have hn : (s.toList == [116,121,112,101]) = false ∧ (s.toList == [115,116,114,117,99,116]) = false ∧ (s.toList == [105,110,116,101,114,102,97,99,101]) = false ∧ (s.toList == [102,117,110,99]) = false ∧ (s.toList == [118,97,114]) = false ∧ (s.toList == [105,102]) = false ∧ (s.toList == [101,108,115,101]) = false ∧ (s.toList == [102,111,114]) = false ∧ (s.toList == [114,101,116,117,114,110]) = false ∧ (s.toList == [98,114,101,97,107]) = false ∧ (s.toList == [99,111,110,116,105,110,117,101]) = false ∧ (s.toList == [116,114,117,101]) = false ∧ (s.toList == [102,97,108,115,101]) = false ∧ (s.toList == [110,105,108]) = false:=by
     simpa [wordP,words] using hP
    obtain ⟨h0,h1,h2,h3,h4,h5,h6,h7,h8,h9,h10,h11,h12,h13⟩:=hn
    clear hP
    go_enter Tryz.func134,Tryz.ntmps134
    go_wp2
    go_ret
    exact ⟨rfl,rfl⟩
  · have hm : s.toList = [116,121,112,101] ∨ s.toList = [115,116,114,117,99,116] ∨ s.toList = [105,110,116,101,114,102,97,99,101] ∨ s.toList = [102,117,110,99] ∨ s.toList = [118,97,114] ∨ s.toList = [105,102] ∨ s.toList = [101,108,115,101] ∨ s.toList = [102,111,114] ∨ s.toList = [114,101,116,117,114,110] ∨ s.toList = [98,114,101,97,107] ∨ s.toList = [99,111,110,116,105,110,117,101] ∨ s.toList = [116,114,117,101] ∨ s.toList = [102,97,108,115,101] ∨ s.toList = [110,105,108]:=by
     simpa [wordP,words] using hP
    clear hP
    rcases hm with h | h | h | h | h | h | h | h | h | h | h | h | h | h
    all_goals
     go_enter Tryz.func134,Tryz.ntmps134
     go_wp2
     go_ret
     exact ⟨rfl,rfl⟩
set_option maxRecDepth 20000 in
set_option maxHeartbeats 400000 in
theorem clone_any (s : ByteArray) (w : World) (hlim : s.size ≤ 281474976710656) :
    Calls Tryz.prog 133 #[.string s] w fun e w' => e = .returned (.string s) ∧ Below w.heap.size w w':=by
  go_enter Tryz.func133,Tryz.ntmps133
  go_wp2_with (go_at_call 162; refine (Tryz.stringslite_Clone _ _ hlim).mono ?_; rintro e w' ⟨rfl,hb⟩)
  go_ret
  exact ⟨rfl,hb⟩
end Go.Proofs.YtffnaknidofobaaGreatDoor
