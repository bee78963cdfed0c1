/- The document's marks. -/
import Derived.Test.YtnkphlkjhgngkaaGreatDoorRef1Jt
namespace Go.Proofs.YtnkphlkjhgngkaaGreatDoor
open Go.RowKit
def singles : List (List UInt8):=[[40],[41],[123],[125],[91],[93],[44],[59],[46],[58],[61],[60],[62],[43],[45],[42],[47],[37],[38],[33]]
set_option maxRecDepth 20000 in
theorem single_eq : ∀ c : UInt8,singleP c = singles.contains [c]:=byte_all (by decide +kernel)
/-- The text of the mark at place k; none: nothing. -/
def markT (l : List UInt8) (k : Nat) : List UInt8:=match markL l k with
  | some (_,t,_,_) => t
  | none => []
set_option maxRecDepth 20000 in
theorem pairCells (W : World) (k : Nat) (x : List UInt8) (hx : pairs[k]? = some x) : (W.alloc (.cells #[.string ⟨#[58,61]⟩,.string ⟨#[61,61]⟩,.string ⟨#[33,61]⟩,.string ⟨#[60,61]⟩,.string ⟨#[62,61]⟩,.string ⟨#[38,38]⟩,.string ⟨#[124,124]⟩] 9)).cell? ⟨W.heap.size,k,none⟩ = some (.string ⟨x.toArray⟩):=by
 match k,hx with
 | 0,hx => cases hx; simp
 | 1,hx => cases hx; simp
 | 2,hx => cases hx; simp
 | 3,hx => cases hx; simp
 | 4,hx => cases hx; simp
 | 5,hx => cases hx; simp
 | 6,hx => cases hx; simp
 | n + 7,hx => cases hx
set_option maxRecDepth 20000 in
theorem singleCells (W : World) (k : Nat) (x : List UInt8) (hx : singles[k]? = some x) : (W.alloc (.cells #[.string ⟨#[40]⟩,.string ⟨#[41]⟩,.string ⟨#[123]⟩,.string ⟨#[125]⟩,.string ⟨#[91]⟩,.string ⟨#[93]⟩,.string ⟨#[44]⟩,.string ⟨#[59]⟩,.string ⟨#[46]⟩,.string ⟨#[58]⟩,.string ⟨#[61]⟩,.string ⟨#[60]⟩,.string ⟨#[62]⟩,.string ⟨#[43]⟩,.string ⟨#[45]⟩,.string ⟨#[42]⟩,.string ⟨#[47]⟩,.string ⟨#[37]⟩,.string ⟨#[38]⟩,.string ⟨#[33]⟩] 9)).cell? ⟨W.heap.size,k,none⟩ = some (.string ⟨x.toArray⟩):=by
 match k,hx with
 | 0,hx => cases hx; simp
 | 1,hx => cases hx; simp
 | 2,hx => cases hx; simp
 | 3,hx => cases hx; simp
 | 4,hx => cases hx; simp
 | 5,hx => cases hx; simp
 | 6,hx => cases hx; simp
 | 7,hx => cases hx; simp
 | 8,hx => cases hx; simp
 | 9,hx => cases hx; simp
 | 10,hx => cases hx; simp
 | 11,hx => cases hx; simp
 | 12,hx => cases hx; simp
 | 13,hx => cases hx; simp
 | 14,hx => cases hx; simp
 | 15,hx => cases hx; simp
 | 16,hx => cases hx; simp
 | 17,hx => cases hx; simp
 | 18,hx => cases hx; simp
 | 19,hx => cases hx; simp
 | n + 20,hx => cases hx
set_option maxRecDepth 20000 in
theorem seg_one (l : List UInt8) (k : Nat) (hk : k < l.length) : seg l k (k + 1) = [l[k]]:=by
 unfold seg
 rw [List.drop_eq_getElem_cons hk,show k + 1 - k = 1 by omega]
 rfl
set_option maxRecDepth 20000 in
theorem markT_pair (l : List UInt8) (k j : Nat) (x : List UInt8) (hx : pairs[j]? = some x) (h2 : k + 2 ≤ l.length) (he : seg l k (k + 2) = x) : markT l k = x:=by
 unfold markT markL
 rw [if_pos ⟨h2,by unfold pairP; rw [List.contains_iff_mem,he]; exact List.mem_of_getElem? hx⟩]
 exact he
set_option maxRecDepth 20000 in
theorem markT_single (l : List UInt8) (k j : Nat) (x : List UInt8) (hx : singles[j]? = some x) (hk : k < l.length) (hp : k + 2 ≤ l.length → ∀ (j : Nat) (x : List UInt8),pairs[j]? = some x → ¬ seg l k (k + 2) = x) (he : seg l k (k + 1) = x) : markT l k = x:=by
 have h1 : atP singleP l k = true:=by
  have : seg l k (k + 1) = [l[k]]:=by rw [seg_one l k hk]
  unfold atP
  rw [List.getElem?_eq_getElem hk]
  show singleP l[k] = true
  rw [single_eq,List.contains_iff_mem,← this,he]
  exact List.mem_of_getElem? hx
 unfold markT markL
 rw [if_neg,if_pos h1]
 · exact he
 · rintro ⟨h2,h3⟩
   unfold pairP at h3
   rw [List.contains_iff_mem] at h3
   obtain ⟨j,hj⟩:=List.mem_iff_getElem?.1 h3
   exact hp h2 j _ hj rfl
set_option maxRecDepth 20000 in
theorem markT_none (l : List UInt8) (k : Nat) (hk : k < l.length) (hp : k + 2 ≤ l.length → ∀ (j : Nat) (x : List UInt8),pairs[j]? = some x → ¬ seg l k (k + 2) = x) (hs : ∀ (j : Nat) (x : List UInt8),singles[j]? = some x → ¬ seg l k (k + 1) = x) : markT l k = []:=by
 have h1 : ¬ atP singleP l k = true:=by
  have : seg l k (k + 1) = [l[k]]:=by rw [seg_one l k hk]
  unfold atP
  rw [List.getElem?_eq_getElem hk]
  show ¬ singleP l[k] = true
  rw [single_eq,List.contains_iff_mem,← this]
  intro hm
  obtain ⟨j,hj⟩:=List.mem_iff_getElem?.1 hm
  exact hs j _ hj rfl
 unfold markT markL
 rw [if_neg,if_neg h1]
 rintro ⟨h2,h3⟩
 unfold pairP at h3
 rw [List.contains_iff_mem] at h3
 obtain ⟨j,hj⟩:=List.mem_iff_getElem?.1 h3
 exact hp h2 j _ hj rfl
/-- No pair before the j-th stands at place k. -/
def NoPair (s : ByteArray) (k n : Nat) : Prop:=k + 2 ≤ s.size → ∀ (j : Nat) (x : List UInt8),j < n → pairs[j]? = some x → ¬ seg s.data.toList k (k + 2) = x
def NoSingle (s : ByteArray) (k n : Nat) : Prop:=∀ (j : Nat) (x : List UInt8),j < n → singles[j]? = some x → ¬ seg s.data.toList k (k + 1) = x
set_option maxRecDepth 20000 in
theorem NoPair.start (s : ByteArray) (k : Nat) : NoPair s k 0:=fun _ _ _ h => absurd h (Nat.not_lt_zero _)
set_option maxRecDepth 20000 in
theorem NoSingle.start (s : ByteArray) (k : Nat) : NoSingle s k 0:=fun _ _ h => absurd h (Nat.not_lt_zero _)
set_option maxRecDepth 20000 in
theorem NoPair.short (s : ByteArray) (k n : Nat) (h : ¬ k + 2 ≤ s.size) : NoPair s k n:=fun h2 => absurd h2 h
set_option maxRecDepth 20000 in
theorem NoPair.step {s : ByteArray} {k n : Nat} {x : List UInt8} (h : NoPair s k n) (hx : pairs[n]? = some x) (he : ((s.extract k (k + 2)).toList == x) = false) : NoPair s k (n + 1):=by
 intro h2 j y hj hy e
 rcases Nat.lt_succ_iff_lt_or_eq.1 hj with hj | hj
 · exact h h2 j y hj hy e
 · subst hj
   rw [hy] at hx
   cases hx
   rw [extract_toList,e] at he
   simp at he
set_option maxRecDepth 20000 in
theorem NoSingle.step {s : ByteArray} {k n : Nat} {x : List UInt8} (h : NoSingle s k n) (hx : singles[n]? = some x) (he : ((s.extract k (k + 1)).toList == x) = false) : NoSingle s k (n + 1):=by
 intro j y hj hy e
 rcases Nat.lt_succ_iff_lt_or_eq.1 hj with hj | hj
 · exact h j y hj hy e
 · subst hj
   rw [hy] at hx
   cases hx
   rw [extract_toList,e] at he
   simp at he
set_option maxRecDepth 20000 in
set_option maxHeartbeats 2000000 in
theorem markR_any (s : ByteArray) (hs : s.size ≤ 65536) (k : Nat) (hk : k < s.size) (w : World) :
    Calls Tryz.prog 72 #[.string s,.int .i64 k] w fun e w' => e = .returned (.string ⟨(markT s.data.toList k).toArray⟩) ∧ Below w.heap.size w w':=by
  go_enter Tryz.func72,Tryz.ntmps72
  go_wp2_with fail
  have hb1 : Below w.heap.size w (w.alloc (.cells #[.string ⟨#[58,61]⟩,.string ⟨#[61,61]⟩,.string ⟨#[33,61]⟩,.string ⟨#[60,61]⟩,.string ⟨#[62,61]⟩,.string ⟨#[38,38]⟩,.string ⟨#[124,124]⟩] 9)):=(Below.refl _ _).alloc (Nat.le_refl _) _
  have HC1:=Lib.hid (pairCells w)
  generalize w.alloc (.cells #[.string ⟨#[58,61]⟩,.string ⟨#[61,61]⟩,.string ⟨#[33,61]⟩,.string ⟨#[60,61]⟩,.string ⟨#[62,61]⟩,.string ⟨#[38,38]⟩,.string ⟨#[124,124]⟩] 9) = W at *
  go_loop [11] (fun i => ∃ n : Nat,n ≤ 7 ∧ i = .int .i64 n ∧ Hid (NoPair s k n)) (fun i => 7 - (intOf i).toNat)
  case atStart => exact ⟨0,Nat.zero_le _,rfl,NoPair.start _ _⟩
  case round =>
   obtain ⟨n,hn,rfl,HZ⟩:=hrel
   by_cases hlt : n < 7
   · obtain ⟨x,hx⟩ : ∃ x,pairs[n]? = some x:=⟨pairs[n]'(by exact hlt),List.getElem?_eq_getElem _⟩
     have hc:=HC1.out n x hx
     have HX:=Lib.hid hx
     clear hx
     generalize hxs : (⟨x.toArray⟩ : ByteArray) = t at *
     have HT : Hid (t.toList = x):=by show t.toList = x; rw [← hxs,Lib.toList_data]
     have HT2:=Lib.hid hxs
     clear hxs
     by_cases h2 : k + 2 ≤ s.size
     · cases he : ((s.extract k (k + 2)).toList == t.toList)
       · have HN : Hid (NoPair s k (n + 1)):=HZ.out.step HX.out (by rw [← HT.out]; exact he)
         go_wp2
         go_round
         case rel => exact ⟨n + 1,by omega,by go_num,HN⟩
         case measure => simp [intOf]; omega
       · have HM : Hid (markT s.data.toList k = x):=markT_pair _ _ _ _ HX.out (by simpa using h2) (by rw [← extract_toList,← HT.out]; simpa using he)
         go_wp2
         go_ret
         exact ⟨by rw [HM.out,HT2.out]; rfl,hb1⟩
     · have HN : Hid (NoPair s k (n + 1)):=NoPair.short _ _ _ h2
       go_wp2
       go_round
       case rel => exact ⟨n + 1,by omega,by go_num,HN⟩
       case measure => simp [intOf]; omega
   · have HP : Hid (NoPair s k 7):=by have : n = 7:=by omega
                                      subst this; exact HZ.out
     clear HC1
     go_wp2_with fail
     have hb2 : Below w.heap.size w (W.alloc (.cells #[.string ⟨#[40]⟩,.string ⟨#[41]⟩,.string ⟨#[123]⟩,.string ⟨#[125]⟩,.string ⟨#[91]⟩,.string ⟨#[93]⟩,.string ⟨#[44]⟩,.string ⟨#[59]⟩,.string ⟨#[46]⟩,.string ⟨#[58]⟩,.string ⟨#[61]⟩,.string ⟨#[60]⟩,.string ⟨#[62]⟩,.string ⟨#[43]⟩,.string ⟨#[45]⟩,.string ⟨#[42]⟩,.string ⟨#[47]⟩,.string ⟨#[37]⟩,.string ⟨#[38]⟩,.string ⟨#[33]⟩] 9)):=hb1.alloc hb1.size _
     have HC2:=Lib.hid (singleCells W)
     generalize W.alloc (.cells #[.string ⟨#[40]⟩,.string ⟨#[41]⟩,.string ⟨#[123]⟩,.string ⟨#[125]⟩,.string ⟨#[91]⟩,.string ⟨#[93]⟩,.string ⟨#[44]⟩,.string ⟨#[59]⟩,.string ⟨#[46]⟩,.string ⟨#[58]⟩,.string ⟨#[61]⟩,.string ⟨#[60]⟩,.string ⟨#[62]⟩,.string ⟨#[43]⟩,.string ⟨#[45]⟩,.string ⟨#[42]⟩,.string ⟨#[47]⟩,.string ⟨#[37]⟩,.string ⟨#[38]⟩,.string ⟨#[33]⟩] 9) = W2 at *
     go_loop [33] (fun i => ∃ n : Nat,n ≤ 20 ∧ i = .int .i64 n ∧ Hid (NoSingle s k n)) (fun i => 20 - (intOf i).toNat)
     case atStart => exact ⟨0,Nat.zero_le _,rfl,NoSingle.start _ _⟩
     case round =>
      obtain ⟨n2,hn2,rfl,HZ2⟩:=hrel
      have HPP : Hid (k + 2 ≤ s.data.toList.length → ∀ (j : Nat) (x : List UInt8),pairs[j]? = some x → ¬ seg s.data.toList k (k + 2) = x):=fun h2 j x hx => HP.out (by simpa using h2) j x (by have:=(List.getElem?_eq_some_iff.1 hx).1; have e : pairs.length = 7:=rfl; omega) hx
      by_cases hlt2 : n2 < 20
      · obtain ⟨x,hx⟩ : ∃ x,singles[n2]? = some x:=⟨singles[n2]'(by exact hlt2),List.getElem?_eq_getElem _⟩
        have hc:=HC2.out n2 x hx
        have HX:=Lib.hid hx
        clear hx
        generalize hxs : (⟨x.toArray⟩ : ByteArray) = t at *
        have HT : Hid (t.toList = x):=by show t.toList = x; rw [← hxs,Lib.toList_data]
        have HT2:=Lib.hid hxs
        clear hxs
        cases he : ((s.extract k (k + 1)).toList == t.toList)
        · have HN : Hid (NoSingle s k (n2 + 1)):=HZ2.out.step HX.out (by rw [← HT.out]; exact he)
          go_wp2
          go_round
          case rel => exact ⟨n2 + 1,by omega,by go_num,HN⟩
          case measure => simp [intOf]; omega
        · have HM : Hid (markT s.data.toList k = x):=markT_single _ _ _ _ HX.out (by simpa using hk) HPP.out (by rw [← extract_toList,← HT.out]; simpa using he)
          go_wp2
          go_ret
          exact ⟨by rw [HM.out,HT2.out]; rfl,hb2⟩
      · have HM : Hid (markT s.data.toList k = []):=markT_none _ _ (by simpa using hk) HPP.out (fun j x hx => HZ2.out j x (by have:=(List.getElem?_eq_some_iff.1 hx).1; have e : singles.length = 20:=rfl; omega) hx)
        go_wp2
        go_ret
        exact ⟨by rw [HM.out]; rfl,hb2⟩
end Go.Proofs.YtnkphlkjhgngkaaGreatDoor

namespace Go.Proofs.YtnkphlkjhgngkaaGreatDoor
open Go.RowKit
/-- What the document's str answers. -/
def strRV : Option (List UInt8 × Nat) → Value
  | some (t,e) => .tuple #[.string ⟨t.toArray⟩,.int .i64 e]
  | none => .tuple #[.string ⟨#[]⟩,.int .i64 (-1)]
/-- What the loop keeps: what is read so far, and what is left. -/
structure StrTo (l : List UInt8) (k i : Nat) (out : List UInt8) : Prop where
  low : k + 1 ≤ i
  eq : strL (l.drop (k + 1)) = shiftS out (i - (k + 1)) (strL (l.drop i))
set_option maxRecDepth 20000 in
theorem StrTo.start (l : List UInt8) (k : Nat) : StrTo l k (k + 1) []:=⟨Nat.le_refl _,by rw [Nat.sub_self,shiftS_nil]⟩
set_option maxRecDepth 20000 in
theorem StrTo.step {l : List UInt8} {k i : Nat} {out bs : List UInt8} {n : Nat} (h : StrTo l k i out) (hs : strL (l.drop i) = shiftS bs n (strL (l.drop (i + n)))) : StrTo l k (i + n) (out ++ bs):=by
 have hl:=h.low
 refine ⟨by omega,?_⟩
 rw [h.eq,hs,shiftS_shiftS]
 congr 1
 omega
set_option maxRecDepth 20000 in
theorem StrTo.none {l : List UInt8} {k i : Nat} {out : List UInt8} (h : StrTo l k i out) (hn : strL (l.drop i) = .none) : textRes l k = .none:=textRes_none h.eq hn
set_option maxRecDepth 20000 in
theorem drop_at (s : ByteArray) (i : Nat) (h : i < s.size) : s.data.toList.drop i = s[i] :: s.data.toList.drop (i + 1):=by
 have hl : i < s.data.toList.length:=by simpa using h
 rw [List.drop_eq_getElem_cons hl]
 rfl
set_option maxRecDepth 20000 in
theorem plain_of : ∀ c : UInt8,¬ c = 34 → ¬ c = 10 → ¬ c = 92 → plainP c = true:=byte_all (by decide +kernel)
set_option maxRecDepth 20000 in
theorem quoteP34 : quoteP 34 = true:=by decide
set_option maxRecDepth 20000 in
theorem strL_pl (c : UInt8) (r : List UInt8) (h : plainP c = true) : strL (c :: r) = shiftS [c] 1 (strL r):=by
 rw [strL_cons,plain_not_quote c h,if_neg (by decide),if_pos h]
set_option maxRecDepth 20000 in
theorem strL_nl (r : List UInt8) : strL (10 :: r) = none:=by
 rw [strL_cons,if_neg (by decide),if_neg (by decide)]
 cases r <;> rfl
set_option maxRecDepth 20000 in
theorem strL_92 (r : List UInt8) : strL (92 :: r) = match escL (92 :: r) with
    | some (b,n) => shiftS [b] n (strL ((92 :: r).drop n))
    | none => none:=by
  rw [strL_cons,if_neg (by decide),if_neg (by decide)]
  cases escL (92 :: r) <;> rfl
set_option maxRecDepth 20000 in
theorem strL_92nil : strL [92] = none:=by rw [strL_92]; rfl
set_option maxRecDepth 20000 in
theorem strL_n (r : List UInt8) : strL (92 :: 110 :: r) = shiftS [10] 2 (strL r):=by rw [strL_92]; rfl
set_option maxRecDepth 20000 in
theorem strL_t (r : List UInt8) : strL (92 :: 116 :: r) = shiftS [9] 2 (strL r):=by rw [strL_92]; rfl
set_option maxRecDepth 20000 in
theorem strL_self (d : UInt8) (r : List UInt8) (h : d = 34 ∨ d = 92) : strL (92 :: d :: r) = shiftS [d] 2 (strL r):=by
 rcases h with rfl | rfl
 · rw [strL_92]; rfl
 · rw [strL_92]; rfl
set_option maxRecDepth 20000 in
theorem strL_other (d : UInt8) (r : List UInt8) (h1 : ¬ d = 110) (h2 : ¬ d = 116) (h3 : ¬ d = 34) (h4 : ¬ d = 92) (h5 : ¬ d = 120) : strL (92 :: d :: r) = none:=by
 have he : escL (92 :: d :: r) = none:=by
  unfold escL
  dsimp only
  rw [if_pos rfl,if_neg h1,if_neg h2,if_neg (by rintro (h | h) <;> contradiction),if_neg h5]
 rw [strL_92,he]
set_option maxRecDepth 20000 in
theorem strL_hexShort (r : List UInt8) (h : r.length < 2) : strL (92 :: 120 :: r) = none:=by
 rw [strL_92]
 match r,h with
 | [],_ => rfl
 | [x],_ => rfl
set_option maxRecDepth 20000 in
theorem strL_hex (x y : UInt8) (r : List UInt8) : strL (92 :: 120 :: x :: y :: r) = match hexFrom 0 [x,y] with
    | some v => shiftS [UInt8.ofNat v] 4 (strL r)
    | none => none:=by
  rw [strL_92]
  cases hx : hexFrom 0 [x,y] with
  | none =>
   have he : escL (92 :: 120 :: x :: y :: r) = none:=by
    unfold escL
    dsimp only
    rw [if_pos rfl,if_neg (by decide),if_neg (by decide),if_neg (by decide),if_pos rfl,hx]
   rw [he]
  | some v =>
   have he : escL (92 :: 120 :: x :: y :: r) = some (UInt8.ofNat v,4):=by
    unfold escL
    dsimp only
    rw [if_pos rfl,if_neg (by decide),if_neg (by decide),if_neg (by decide),if_pos rfl,hx]
   rw [he]
   rfl
set_option maxRecDepth 20000 in
theorem hexI_some {c : UInt8} (h : 0 ≤ hexI c) : ∃ v : Nat,hexV c = some v ∧ hexI c = v ∧ v ≤ 15:=by
 unfold hexI at h ⊢
 cases hv : hexV c with
 | none => rw [hv] at h; exact absurd h (by decide)
 | some v => exact ⟨v,rfl,rfl,hexV_le c v hv⟩
set_option maxRecDepth 20000 in
theorem hexI_none {c : UInt8} (h : hexI c < 0) : hexV c = none ∧ hexI c = -1:=by
 unfold hexI at h ⊢
 cases hv : hexV c with
 | none => exact ⟨rfl,rfl⟩
 | some v => rw [hv] at h; dsimp only at h; omega
set_option maxRecDepth 20000 in
theorem StrTo.fin {s : ByteArray} {k i : Nat} {out : List UInt8} (h : StrTo s.data.toList k i out) (hi : ¬ i < s.size) : textRes s.data.toList k = .none:=by
 refine h.none ?_
 rw [List.drop_of_length_le (by simp; omega)]
 rfl
set_option maxRecDepth 20000 in
theorem StrTo.long {s : ByteArray} {k i : Nat} {out : List UInt8} (h : StrTo s.data.toList k i out) (hl : 1024 < out.length) : textRes s.data.toList k = .none:=textRes_long h.eq hl
set_option maxRecDepth 20000 in
theorem StrTo.shut {s : ByteArray} {k i : Nat} {out : List UInt8} (h : StrTo s.data.toList k i out) (hi : i < s.size) (hc : s[i] = 34) (hl : ¬ 1024 < out.length) : textRes s.data.toList k = some (out,i + 1) :=
  textRes_quote h.eq h.low (by rw [atP_lt hi,hc]; rfl) hl
set_option maxRecDepth 20000 in
theorem StrTo.nl {s : ByteArray} {k i : Nat} {out : List UInt8} (h : StrTo s.data.toList k i out) (hi : i < s.size) (hc : s[i] = 10) : textRes s.data.toList k = .none:=by
 refine h.none ?_
 rw [drop_at s i hi,hc,strL_nl]
set_option maxRecDepth 20000 in
theorem StrTo.plain {s : ByteArray} {k i : Nat} {out : List UInt8} (h : StrTo s.data.toList k i out) (hi : i < s.size) (h1 : ¬ s[i] = 34) (h2 : ¬ s[i] = 10) (h3 : ¬ s[i] = 92) : StrTo s.data.toList k (i + 1) (out ++ [s[i]]):=by
 refine h.step ?_
 rw [drop_at s i hi,strL_pl _ _ (plain_of _ h1 h2 h3)]
set_option maxRecDepth 20000 in
theorem StrTo.short {s : ByteArray} {k i : Nat} {out : List UInt8} (h : StrTo s.data.toList k i out) (hi : i < s.size) (hc : s[i] = 92) (hi1 : i + 1 = s.size) : textRes s.data.toList k = .none:=by
 refine h.none ?_
 rw [drop_at s i hi,hc,List.drop_of_length_le (by simp; omega),strL_92nil]
set_option maxRecDepth 20000 in
theorem drop2 {s : ByteArray} {i : Nat} (hi : i < s.size) (hi1 : i + 1 < s.size) (hc : s[i] = 92) : s.data.toList.drop i = 92 :: s[i + 1] :: s.data.toList.drop (i + 2):=by
 rw [drop_at s i hi,drop_at s (i + 1) hi1,hc]
set_option maxRecDepth 20000 in
theorem StrTo.n {s : ByteArray} {k i : Nat} {out : List UInt8} (h : StrTo s.data.toList k i out) (hi : i < s.size) (hi1 : i + 1 < s.size) (hc : s[i] = 92) (hd : s[i + 1] = 110) : StrTo s.data.toList k (i + 2) (out ++ [10]):=by
 refine h.step ?_
 rw [drop2 hi hi1 hc,hd,strL_n]
set_option maxRecDepth 20000 in
theorem StrTo.t {s : ByteArray} {k i : Nat} {out : List UInt8} (h : StrTo s.data.toList k i out) (hi : i < s.size) (hi1 : i + 1 < s.size) (hc : s[i] = 92) (hd : s[i + 1] = 116) : StrTo s.data.toList k (i + 2) (out ++ [9]):=by
 refine h.step ?_
 rw [drop2 hi hi1 hc,hd,strL_t]
set_option maxRecDepth 20000 in
theorem StrTo.self {s : ByteArray} {k i : Nat} {out : List UInt8} (h : StrTo s.data.toList k i out) (hi : i < s.size) (hi1 : i + 1 < s.size) (hc : s[i] = 92) (hd : s[i + 1] = 34 ∨ s[i + 1] = 92) : StrTo s.data.toList k (i + 2) (out ++ [s[i + 1]]):=by
 refine h.step ?_
 rw [drop2 hi hi1 hc,strL_self _ _ hd]
set_option maxRecDepth 20000 in
theorem StrTo.other {s : ByteArray} {k i : Nat} {out : List UInt8} (h : StrTo s.data.toList k i out) (hi : i < s.size) (hi1 : i + 1 < s.size) (hc : s[i] = 92) (h1 : ¬ s[i + 1] = 110) (h2 : ¬ s[i + 1] = 116) (h3 : ¬ s[i + 1] = 34) (h4 : ¬ s[i + 1] = 92) (h5 : ¬ s[i + 1] = 120) : textRes s.data.toList k = .none:=by
 refine h.none ?_
 rw [drop2 hi hi1 hc,strL_other _ _ h1 h2 h3 h4 h5]
set_option maxRecDepth 20000 in
theorem StrTo.hexShort {s : ByteArray} {k i : Nat} {out : List UInt8} (h : StrTo s.data.toList k i out) (hi : i < s.size) (hi1 : i + 1 < s.size) (hc : s[i] = 92) (hd : s[i + 1] = 120) (hs : s.size ≤ i + 3) : textRes s.data.toList k = .none:=by
 refine h.none ?_
 rw [drop2 hi hi1 hc,hd,strL_hexShort _ (by rw [List.length_drop]; simp; omega)]
set_option maxRecDepth 20000 in
theorem drop4 {s : ByteArray} {i : Nat} (hi : i < s.size) (hi1 : i + 1 < s.size) (hi3 : i + 3 < s.size) (hc : s[i] = 92) (hd : s[i + 1] = 120) : s.data.toList.drop i = 92 :: 120 :: s[i + 2] :: s[i + 3] :: s.data.toList.drop (i + 4):=by
 rw [drop2 hi hi1 hc,hd,drop_at s (i + 2) (by omega),drop_at s (i + 3) hi3]
set_option maxRecDepth 20000 in
theorem StrTo.hexNone {s : ByteArray} {k i : Nat} {out : List UInt8} (h : StrTo s.data.toList k i out) (hi : i < s.size) (hi1 : i + 1 < s.size) (hi3 : i + 3 < s.size) (hc : s[i] = 92) (hd : s[i + 1] = 120) (hx : hexI s[i + 2] < 0 ∨ hexI s[i + 3] < 0) : textRes s.data.toList k = .none:=by
 refine h.none ?_
 have hn : hexFrom 0 [s[i + 2],s[i + 3]] = .none:=by
  show (match hexV s[i + 2] with | some v => hexFrom (0 * 16 + v) [s[i + 3]] | .none => .none) = .none
  rcases hx with hx | hx
  · rw [(hexI_none hx).1]
  · cases hexV s[i + 2] with
    | none => rfl
    | some v =>
     show (match hexV s[i + 3] with | some u => hexFrom ((0 * 16 + v) * 16 + u) [] | .none => .none) = .none
     rw [(hexI_none hx).1]
 rw [drop4 hi hi1 hi3 hc hd,strL_hex,hn]
set_option maxRecDepth 20000 in
theorem StrTo.hexSome {s : ByteArray} {k i : Nat} {out : List UInt8} (h : StrTo s.data.toList k i out) (hi : i < s.size) (hi1 : i + 1 < s.size) (hi3 : i + 3 < s.size) (hc : s[i] = 92) (hd : s[i + 1] = 120) (u v : Nat) (hu : hexV s[i + 2] = some u) (hv : hexV s[i + 3] = some v) : StrTo s.data.toList k (i + 4) (out ++ [UInt8.ofNat (u * 16 + v)]):=by
 refine h.step ?_
 have hn : hexFrom 0 [s[i + 2],s[i + 3]] = some (u * 16 + v):=by
  show (match hexV s[i + 2] with | some v => hexFrom (0 * 16 + v) [s[i + 3]] | .none => .none) = _
  rw [hu]
  show (match hexV s[i + 3] with | some v => hexFrom ((0 * 16 + u) * 16 + v) [] | .none => .none) = _
  rw [hv]
  show some ((0 * 16 + u) * 16 + v) = _
  congr 1
  omega
 rw [drop4 hi hi1 hi3 hc hd,strL_hex,hn]
end Go.Proofs.YtnkphlkjhgngkaaGreatDoor
