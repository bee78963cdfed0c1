/- Quote. -/
import Derived.Test.YtffnaknidofobaaGreatDoorIsNameJt
import Derived.Laws.IdiomStrings
import Derived.Test.YtffnaknidofobaaGreatDoorTokenJt
namespace Go.Proofs.YtffnaknidofobaaGreatDoor
open Go.RowKit
def quoteL (l : List UInt8) : List UInt8:=34 :: (l.flatMap quoteB ++ [34])
def quoteTo (l : List UInt8) (k : Nat) : List UInt8:=34 :: (l.take k).flatMap quoteB
set_option maxRecDepth 20000 in
theorem quoteB_le (b : UInt8) : (quoteB b).length ≤ 4 ∧ 1 ≤ (quoteB b).length:=by
 unfold quoteB
 repeat' split
 all_goals simp
set_option maxRecDepth 20000 in
theorem quoteTo_len (l : List UInt8) (k : Nat) : (quoteTo l k).length ≤ 4 * k + 1:=by
 unfold quoteTo
 have h : ∀ m : List UInt8,(m.flatMap quoteB).length ≤ 4 * m.length:=by
  intro m
  induction m with
  | nil => simp
  | cons c r ih => have:=(quoteB_le c).1; simp at ih ⊢; omega
 have:=h (l.take k)
 simp at this ⊢
 omega
set_option maxRecDepth 20000 in
theorem quoteTo_succ (s : ByteArray) (k : Nat) (h : k < s.size) : quoteTo s.data.toList (k + 1) = quoteTo s.data.toList k ++ quoteB s[k]:=by
 unfold quoteTo
 rw [List.take_succ_eq_append_getElem (by simpa using h)]
 simp
 rfl
set_option maxRecDepth 20000 in
theorem quoteTo_all (s : ByteArray) (k : Nat) (h : ¬ k < s.size) : quoteTo s.data.toList k ++ [34] = quoteL s.data.toList:=by
 unfold quoteTo quoteL
 rw [List.take_of_length_le (by simp; omega)]
 simp
set_option maxRecDepth 20000 in
set_option maxHeartbeats 2000000 in
theorem quote_any (s : ByteArray) (hs : s.size ≤ 20000000) (w : World) : Calls Tryz.prog 76 #[.string s] w fun e w' => e = .returned (.string ⟨(quoteL s.data.toList).toArray⟩) ∧ Below w.heap.size w w':=by
 go_enter Tryz.func76,Tryz.ntmps76
 go_wp2_with fail
 refine (between_any _ _ w.heap.size _ (Nat.le_refl _)).mono ?_
 rintro e w1 ⟨g,lb,rfl,he,hk,b1⟩
 have hz1:=b1.size
 go_wp2_with fail
 have hown0 : (w1.alloc (.cells #[.int .u8 34] 5)).ownsRow w1.heap.size 5 1 (.slice (some ⟨w1.heap.size,0,none⟩) 1 1) 1 (Lib.byteCells [34]) :=
   ⟨rfl,.inr ⟨w1.heap.size,1,#[.int .u8 34],rfl,Nat.le_refl _,heap_alloc_new w1 _,Nat.le_refl _,by unfold maxLen; decide,rfl,rfl⟩⟩
 have hb0 : Below w1.heap.size w1 (w1.alloc (.cells #[.int .u8 34] 5)):=(Below.refl _ _).alloc (Nat.le_refl _) _
 go_loopw [4,10] (fun v i wr => ∃ (k : Nat) (ao : Option Addr) (cv : Nat),k ≤ s.size ∧ i = .int .i64 k ∧ v = .slice ao (quoteTo s.data.toList k).length cv ∧ wr.ownsRow w1.heap.size 5 1 (.slice ao (quoteTo s.data.toList k).length cv) (quoteTo s.data.toList k).length (Lib.byteCells (quoteTo s.data.toList k)) ∧ Below w1.heap.size w1 wr) (fun _ i _ => s.size - (intOf i).toNat)
 case atStart => exact ⟨0,_,1,Nat.zero_le _,rfl,rfl,hown0,hb0⟩
 case round =>
  obtain ⟨k,ao,cv,hkk,rfl,rfl,hown,hbr⟩:=hrel
  clear hown0 hb0
  have hql:=quoteTo_len s.data.toList k
  have hzr:=hbr.size
  by_cases hlt : k < s.size
  · have HQ:=Lib.hid (quoteTo_succ s k hlt)
    have cA:=aq_any w1.heap.size _ (quoteTo s.data.toList k) s[k] g lb wr hown hzr (by omega) he (hk wr s[k] (Same.of_below hbr))
    rw [← HQ.out] at cA
    generalize quoteTo s.data.toList k = out at *
    go_wp2_with fail
    refine cA.mono ?_
    rintro e w2 ⟨v2,rfl,hown2,hb2⟩
    obtain ⟨ao2,cv2,hv2⟩:=owns_form hown2
    subst hv2
    clear cA
    go_wp2
    go_roundw
    case rel => exact ⟨k + 1,ao2,cv2,hlt,by go_num,rfl,hown2,hbr.trans hb2⟩
    case measure => simp [intOf]; omega
  · have HQ:=Lib.hid (quoteTo_all s k hlt)
    generalize quoteTo s.data.toList k = out at *
    obtain ⟨i0,hi,hz0,hz1',hz2⟩:=info_parts Tryz.info5
    have hown2:=hown.alloc (.cells #[.int .u8 34] 5)
    have hltR:=hown2.lt
    have hb2 : Below w1.heap.size w1 (wr.alloc (.cells #[.int .u8 34] 5)):=hbr.alloc hzr _
    clear hown
    go_wp2_with (at_builtin; refine wpList_append_own _ rfl _ _ 37 rfl w1.heap.size 5 i0 _ 1 1 Tryz.underlying37 hi hz0 hz1' hz2 rfl (by decide) _ _ _ rfl hown2 ⟨wr.heap.size,0,none⟩ 1 1 [.int .u8 34] rfl rfl ?c1 ?c2 ?c3 ?c4 ?c5 ?_)
    case c1 =>
     intro j u hj
     match j,hj with
     | 0,hj => simp at hj; subst hj; simp [Addr.add]
    case c2 => intro u hu; simp at hu; subst hu; rfl
    case c3 => unfold maxLen; omega
    case c4 => omega
    case c5 => simp; omega
    intro v5 w5 hown5 hgr5 _
    have hb5 : Below w1.heap.size w1 w5:=hb2.grown hgr5 (by simp; omega) (fun k hk => (hltR k hk).1)
    have hown6 : w5.ownsRow w1.heap.size 5 1 v5 (out ++ [34]).length (Lib.byteCells (out ++ [34])):=by
     rw [← byteCells_append,List.length_append]; exact hown5
    rw [HQ.out] at hown6
    clear hown5 hown2 hgr5 hltR hb2 hi hz0 hz1' hz2
    obtain ⟨g5,cap5,hv5⟩ : ∃ g5 cap5,v5 = .slice (some ⟨g5,0,none⟩) (quoteL s.data.toList).length cap5:=by
     rcases hown6.2 with ⟨_,h0⟩ | ⟨g5,cap5,_,h5,_⟩
     · cases h0
     · exact ⟨g5,cap5,h5⟩
    subst hv5
    have hcv : (convert 37 9 (.slice (some ⟨g5,0,none⟩) (quoteL s.data.toList).length cap5)).run Tryz.prog w5 = .ok (.string ⟨(quoteL s.data.toList).toArray⟩) w5 :=
      run_convert_bytes_back w5 37 9 5 ⟨g5,0,none⟩ cap5 _ Tryz.underlying37 Tryz.underlying5 Tryz.underlying9 (fun j hj => hown6.cells (g:=g5) rfl j _ (by simp [Lib.byteCells,List.getElem?_eq_getElem hj]))
    generalize (quoteL s.data.toList).length = ql at *
    go_wp2
    go_ret
    exact ⟨rfl,b1.trans (hb5.mono hz1)⟩
end Go.Proofs.YtffnaknidofobaaGreatDoor

namespace Go.Proofs.YtffnaknidofobaaGreatDoor
open Go.RowKit
theorem hex_back : ∀ b : UInt8,hexFrom 0 [hexC (b.toNat / 16),hexC (b.toNat % 16)] = some b.toNat:=byte_all (by decide +kernel)
theorem plain_shown : ∀ b : UInt8,¬ b = 34 → ¬ b = 92 → (32 ≤ b.toNat ∧ b.toNat ≤ 126) → plainP b = true:=byte_all (by decide +kernel)
theorem bs_quote : quoteP 92 = false:=by decide +kernel
theorem bs_plain : plainP 92 = false:=by decide +kernel
theorem q34 : quoteP 34 = true:=by decide +kernel
theorem strL_bs (d : UInt8) (r : List UInt8) (b : UInt8) (n : Nat) (h : escL (92 :: d :: r) = some (b,n)) : strL (92 :: d :: r) = shiftS [b] n (strL ((92 :: d :: r).drop n)):=by
 rw [strL_cons]; simp [bs_quote,bs_plain,h]
theorem strL_quoteB (b : UInt8) (r : List UInt8) : strL (quoteB b ++ r) = shiftS [b] (quoteB b).length (strL r):=by
 unfold quoteB
 by_cases h10 : b = 10
 · subst h10; rw [if_pos rfl]; exact strL_bs 110 r 10 2 rfl
 rw [if_neg h10]
 by_cases h9 : b = 9
 · subst h9; rw [if_pos rfl]; exact strL_bs 116 r 9 2 rfl
 rw [if_neg h9]
 by_cases h3 : b = 34 ∨ b = 92
 · rw [if_pos h3]
   rcases h3 with rfl | rfl
   · exact strL_bs 34 r 34 2 rfl
   · exact strL_bs 92 r 92 2 rfl
 rw [if_neg h3]
 by_cases hs : 32 ≤ b.toNat ∧ b.toNat ≤ 126
 · rw [if_pos hs]
   have hp:=plain_shown b (fun h => h3 (Or.inl h)) (fun h => h3 (Or.inr h)) hs
   show strL (b :: r) = _
   rw [strL_cons,plain_not_quote b hp]
   simp [hp]
 · rw [if_neg hs]
   have he : escL (92 :: 120 :: hexC (b.toNat / 16) :: hexC (b.toNat % 16) :: r) = some (b,4):=by
    simp only [escL]
    rw [hex_back]
    simp
   have:=strL_bs 120 (hexC (b.toNat / 16) :: hexC (b.toNat % 16) :: r) b 4 he
   exact this
theorem strL_quoted (l : List UInt8) : strL (l.flatMap quoteB ++ [34]) = some (l,(l.flatMap quoteB).length + 1):=by
 induction l with
 | nil => rfl
 | cons b r ih =>
  rw [List.flatMap_cons,List.append_assoc,strL_quoteB,ih]
  simp [shiftS]
  omega
theorem quoteL_len (l : List UInt8) : (quoteL l).length = (l.flatMap quoteB).length + 2:=by simp [quoteL]
theorem quoteL_le (l : List UInt8) : (quoteL l).length ≤ 4 * l.length + 2:=by
 rw [quoteL_len]
 have h : ∀ m : List UInt8,(m.flatMap quoteB).length ≤ 4 * m.length:=by
  intro m
  induction m with
  | nil => simp
  | cons c r ih => have:=(quoteB_le c).1; simp at ih ⊢; omega
 have:=h l
 omega
theorem textRes_quoted (l : List UInt8) : textRes (quoteL l) 0 = if l.length ≤ 1024 then some (l,(quoteL l).length) else none:=by
 unfold textRes
 rw [show (quoteL l).drop (0 + 1) = l.flatMap quoteB ++ [34] from rfl,strL_quoted]
 show (if l.length ≤ 1024 then some (l,0 + 1 + ((l.flatMap quoteB).length + 1)) else none) = _
 rw [quoteL_len]
 by_cases h : l.length ≤ 1024
 · rw [if_pos h,if_pos h]; congr 2; omega
 · rw [if_neg h,if_neg h]
theorem tokL_quoted (l : List UInt8) : tokL (quoteL l) 0 = if l.length ≤ 1024 then some (3,l,0,(quoteL l).length) else none:=by
 unfold tokL
 have h1 : atP firstP (quoteL l) 0 = false:=by show firstP 34 = false; decide +kernel
 have h2 : atP digitP (quoteL l) 0 = false:=by show digitP 34 = false; decide +kernel
 have h3 : atP quoteP (quoteL l) 0 = true:=q34
 rw [h1,h2,h3]
 simp only [if_true,Bool.false_eq_true,if_false]
 unfold textL
 rw [textRes_quoted]
 by_cases h : l.length ≤ 1024
 · rw [if_pos h,if_pos h]
 · rw [if_neg h,if_neg h]
theorem skip_quoted (l : List UInt8) : skipTo (quoteL l) 0 = 0:=by
 unfold skipTo
 have hb : blankP 34 = false:=by decide +kernel
 show 0 + skipN false (34 :: _) = 0
 simp [skipN,hb]
theorem skip_all (l : List UInt8) : skipTo l l.length = l.length:=by
 unfold skipTo
 rw [List.drop_length]
 rfl
theorem scan_quoted (l : List UInt8) : scanRes (quoteL l) = if 65536 < (quoteL l).length then ([],0,13) else if l.length ≤ 1024 then ([(3,l,0,0)],0,0) else ([],0,3):=by
 unfold scanRes
 by_cases hL : 65536 < (quoteL l).length
 · rw [if_pos hL,if_pos hL]
 rw [if_neg hL,if_neg hL,skip_quoted]
 have hpos : 0 < (quoteL l).length:=by rw [quoteL_len]; omega
 by_cases h : l.length ≤ 1024
 · rw [if_pos h,scanF_step hpos (by simp) (by rw [tokL_quoted,if_pos h]),skip_all,scanF_end (by omega) (by omega)]
   rfl
 · rw [if_neg h,scanF_fault (by omega) hpos (by simp) (by rw [tokL_quoted,if_neg h])]
end Go.Proofs.YtffnaknidofobaaGreatDoor

namespace Go.Proofs.YtffnaknidofobaaGreatDoor
open Go.RowKit
theorem takeWhile_app (p : UInt8 → Bool) (ds : List UInt8) (c : UInt8) (r : List UInt8) (h : ds.all p = true) (hc : p c = false) : (ds ++ c :: r).takeWhile p = ds:=by
 induction ds with
 | nil => simp [hc]
 | cons d t ih =>
  rw [List.all_cons,Bool.and_eq_true] at h
  rw [List.cons_append,List.takeWhile_cons_of_pos h.1,ih h.2]
theorem takeWhile_all (p : UInt8 → Bool) (ds : List UInt8) (h : ds.all p = true) : ds.takeWhile p = ds:=by
 induction ds with
 | nil => rfl
 | cons d t ih =>
  rw [List.all_cons,Bool.and_eq_true] at h
  rw [List.takeWhile_cons_of_pos h.1,ih h.2]
/-- Digits that spell a number as it is written. -/
structure Spelt (n : Nat) (ds : List UInt8) : Prop where
  all : ds.all digitP = true
  num : numOf ds = n
  ne : ds ≠ []
  lead : ds.head? ≠ some 48 ∨ ds = [48]
  len : ds.length ≤ 19
theorem Spelt.first {n : Nat} {ds : List UInt8} (h : Spelt n ds) (r : List UInt8) : atP firstP (ds ++ r) 0 = false ∧ atP digitP (ds ++ r) 0 = true:=by
 obtain ⟨hall,_,hne,_,_⟩:=h
 match ds,hne,hall with
 | d :: t,_,hall =>
  rw [List.all_cons,Bool.and_eq_true] at hall
  exact ⟨digit_first d hall.1,hall.1⟩
where
  digit_first : ∀ b : UInt8,digitP b = true → firstP b = false:=byte_all (by decide +kernel)
theorem Spelt.not_nought {n : Nat} {ds : List UInt8} (h : Spelt n ds) (c : UInt8) (r : List UInt8) : ¬ ((ds ++ c :: r)[0]? = some 48 ∧ 0 + 1 < ds.length):=by
 obtain ⟨_,_,hne,hl,_⟩:=h
 match ds,hne,hl with
 | d :: t,_,hl =>
  rintro ⟨h1,h2⟩
  rcases hl with hl | hl
  · exact hl (by simpa using h1)
  · rw [hl] at h2; simp at h2
theorem endOf_spelt {ds : List UInt8} (h : ds.all digitP = true) {c : UInt8} (hc : digitP c = false) (r : List UInt8) : endOf digitP (ds ++ c :: r) 0 = ds.length:=by
 unfold endOf
 rw [List.drop_zero,takeWhile_app digitP ds c r h hc,Nat.zero_add]
theorem at_len (p : UInt8 → Bool) (ds : List UInt8) (c : UInt8) (r : List UInt8) : atP p (ds ++ c :: r) ds.length = p c:=by
 unfold atP
 rw [List.getElem?_append_right (Nat.le_refl _),Nat.sub_self]
 rfl
theorem tok_num {n : Nat} {ds : List UInt8} (h : Spelt n ds) (hn : n < 9223372036854775808) : tokL (ds ++ [43]) 0 = some (2,[],(n : Int),ds.length):=by
 unfold tokL
 rw [(h.first _).1,(h.first _).2]
 simp only [Bool.false_eq_true,if_false,if_true]
 have he : endOf digitP (ds ++ [43]) 0 = ds.length:=endOf_spelt h.all (by decide +kernel) []
 have hs : seg (ds ++ [43]) 0 ds.length = ds:=by simp [seg]
 unfold numL
 rw [he,hs,h.num,at_len]
 rw [if_neg (h.not_nought 43 []),if_neg (by decide +kernel),if_neg (by omega)]
theorem tok_letter {n : Nat} {ds : List UInt8} (h : Spelt n ds) : tokL (ds ++ [120]) 0 = none:=by
 unfold tokL
 rw [(h.first _).1,(h.first _).2]
 simp only [Bool.false_eq_true,if_false,if_true]
 have he : endOf digitP (ds ++ [120]) 0 = ds.length:=endOf_spelt h.all (by decide +kernel) []
 unfold numL
 rw [he,at_len]
 rw [if_neg (h.not_nought 120 []),if_pos (by decide +kernel)]
theorem tok_plus (ds : List UInt8) : tokL (ds ++ [43]) ds.length = some (4,[43],0,ds.length + 1):=by
 unfold tokL
 rw [at_len,at_len,at_len]
 rw [if_neg (by decide +kernel),if_neg (by decide +kernel),if_neg (by decide +kernel)]
 unfold markL
 rw [if_neg (by simp),at_len,if_pos (by decide +kernel)]
 have : seg (ds ++ [43]) ds.length (ds.length + 1) = [43]:=by simp [seg]
 rw [this]
theorem skip_at (l : List UInt8) (k : Nat) (c : UInt8) (h : l[k]? = some c) (hb : blankP c = false) (hc : ¬ c = 47) : skipTo l k = k:=by
 unfold skipTo
 obtain ⟨hl,rfl⟩:=List.getElem?_eq_some_iff.1 h
 rw [List.drop_eq_getElem_cons hl]
 simp [skipN,hb,hc]
theorem scan_plus {n : Nat} {ds : List UInt8} (h : Spelt n ds) (hn : n < 9223372036854775808) : scanRes (ds ++ [43]) = ([(2,[],(n : Int),0),(4,[43],0,ds.length)],0,0):=by
 unfold scanRes
 have hlen:=h.len
 have hlp : 0 < ds.length:=List.length_pos_iff.2 h.ne
 rw [if_neg (by simp; omega)]
 have h0 : skipTo (ds ++ [43]) 0 = 0:=by
  obtain ⟨hall,_,hne,_,_⟩:=h
  match ds,hne,hall with
  | d :: t,_,hall =>
   rw [List.all_cons,Bool.and_eq_true] at hall
   exact skip_at _ 0 d rfl (dig_blank d hall.1) (dig_slash d hall.1)
 have hfu : (ds ++ [43]).length + 1 = ds.length + 1 + 1:=by simp
 rw [h0,hfu]
 rw [scanF_step (by simp) (by simp) (tok_num h hn)]
 rw [skip_at _ ds.length 43 (by rw [List.getElem?_append_right (Nat.le_refl _),Nat.sub_self]; rfl) (by decide +kernel) (by decide +kernel)]
 rw [scanF_step (by simp) (by simp) (tok_plus ds)]
 have he : skipTo (ds ++ [43]) (ds.length + 1) = ds.length + 1:=by
  have:=skip_all (ds ++ [43])
  simpa using this
 rw [he,scanF_end (by omega) (by simp)]
 rfl
where
  dig_blank : ∀ b : UInt8,digitP b = true → blankP b = false:=byte_all (by decide +kernel)
  dig_slash : ∀ b : UInt8,digitP b = true → ¬ b = 47:=byte_all (by decide +kernel)
theorem scan_letter {n : Nat} {ds : List UInt8} (h : Spelt n ds) : scanRes (ds ++ [120]) = ([],0,3):=by
 unfold scanRes
 have hlen:=h.len
 have hlp : 0 < ds.length:=List.length_pos_iff.2 h.ne
 rw [if_neg (by simp; omega)]
 have h0 : skipTo (ds ++ [120]) 0 = 0:=by
  obtain ⟨hall,_,hne,_,_⟩:=h
  match ds,hne,hall with
  | d :: t,_,hall =>
   rw [List.all_cons,Bool.and_eq_true] at hall
   exact skip_at _ 0 d rfl (scan_plus.dig_blank d hall.1) (scan_plus.dig_slash d hall.1)
 rw [h0]
 rw [scanF_fault (by omega) (by simp) (by simp) (tok_letter h)]
theorem scan_nought {n : Nat} {ds : List UInt8} (h : Spelt n ds) : scanRes (97 :: 32 :: 48 :: ds) = ([],2,3):=by
 unfold scanRes
 have hlen:=h.len
 have hlp : 0 < ds.length:=List.length_pos_iff.2 h.ne
 rw [if_neg (by simp; omega)]
 rw [skip_at _ 0 97 rfl (by decide +kernel) (by decide +kernel)]
 have ht : tokL (97 :: 32 :: 48 :: ds) 0 = some (1,[97],0,1):=by
  unfold tokL
  rw [show atP firstP (97 :: 32 :: 48 :: ds) 0 = true from (by show firstP 97 = true; decide +kernel)]
  simp only [if_true]
  have he : endOf innerP (97 :: 32 :: 48 :: ds) 0 = 1:=by
   unfold endOf
   rw [List.drop_zero,List.takeWhile_cons_of_pos (by decide +kernel),List.takeWhile_cons_of_neg (by decide +kernel)]
   rfl
  unfold nameL
  rw [he,if_neg (by omega)]
  have : seg (97 :: 32 :: 48 :: ds) 0 1 = [97]:=by simp [seg]
  rw [this]
  rfl
 have hf : (97 :: 32 :: 48 :: ds).length + 1 = ds.length + 2 + 1 + 1:=by simp
 rw [hf,scanF_step (by simp) (by simp) ht]
 have hsk : skipTo (97 :: 32 :: 48 :: ds) 1 = 2:=by
  unfold skipTo
  have hb : blankP 32 = true:=by decide +kernel
  have hb2 : blankP 48 = false:=by decide +kernel
  show 1 + skipN false (32 :: 48 :: ds) = 2
  simp [skipN,hb,hb2]
 rw [hsk]
 have ht2 : tokL (97 :: 32 :: 48 :: ds) 2 = none:=by
  unfold tokL
  rw [show atP firstP (97 :: 32 :: 48 :: ds) 2 = false from (by show firstP 48 = false; decide +kernel),show atP digitP (97 :: 32 :: 48 :: ds) 2 = true from (by show digitP 48 = true; decide +kernel)]
  simp only [Bool.false_eq_true,if_false,if_true]
  have he : endOf digitP (97 :: 32 :: 48 :: ds) 2 = 3 + ds.length:=by
   unfold endOf
   show 2 + ((48 :: ds).takeWhile digitP).length = _
   rw [takeWhile_all digitP (48 :: ds) (by rw [List.all_cons,h.all]; decide +kernel)]
   simp; omega
  unfold numL
  rw [he,if_pos ⟨rfl,by omega⟩]
 rw [scanF_fault (by omega) (by simp) (by simp) ht2]
theorem scan_greatest : scanRes [57,50,50,51,51,55,50,48,51,54,56,53,52,55,55,53,56,48,56] = ([],0,3):=by decide +kernel
end Go.Proofs.YtffnaknidofobaaGreatDoor
