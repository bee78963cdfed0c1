/- Two hexadecimal digits by strconv.ParseUint, and the escapes. -/
import Derived.Test.YtffnaknidofobaaGreatDoorNumJt
import Derived.Lib.Strings
import Derived.Lib.Walk
import Derived.Lib.ConvBytes
import Derived.Lib.ParseIntBMem
import Derived.Lib.Hide
import Derived.Laws.Strings3
import Derived.Laws.Closers25
import Derived.Laws.Closers25b
import Derived.BigCall
import Derived.BigGuard
namespace Go.Proofs.YtffnaknidofobaaGreatDoor
open Go.RowKit
/-- The value of a hexadecimal digit. -/
def hexV (c : UInt8) : Option Nat :=
  if 48 ≤ c.toNat ∧ c.toNat ≤ 57 then some (c.toNat - 48)
  else if 97 ≤ c.toNat ∧ c.toNat ≤ 102 then some (c.toNat - 87)
  else if 65 ≤ c.toNat ∧ c.toNat ≤ 70 then some (c.toNat - 55)
  else none
def hexFrom (acc : Nat) : List UInt8 → Option Nat
  | [] => some acc
  | c :: r => match hexV c with
    | some v => hexFrom (acc * 16 + v) r
    | none => none
set_option maxRecDepth 20000 in
theorem hex_dig (c : UInt8) (h : 48 ≤ c.toNat ∧ c.toNat ≤ 57) : hexV c = some (c.toNat - 48):=by simp [hexV,h]
set_option maxRecDepth 20000 in
theorem hex_low : ∀ c : UInt8,¬ (48 ≤ c.toNat ∧ c.toNat ≤ 57) → (97 ≤ bits .or .u8 (c.toNat : Int) 32 ∧ bits .or .u8 (c.toNat : Int) 32 ≤ 102) → hexV c = some (bits .or .u8 (c.toNat : Int) 32 - 87).toNat :=
  byte_all (by decide +kernel)
set_option maxRecDepth 20000 in
theorem hex_bad : ∀ c : UInt8,¬ (48 ≤ c.toNat ∧ c.toNat ≤ 57) → ¬ (97 ≤ bits .or .u8 (c.toNat : Int) 32 ∧ bits .or .u8 (c.toNat : Int) 32 ≤ 102) → hexV c = none :=
  byte_all (by decide +kernel)
def hexTuple : Option Nat → Value
  | some v => .tuple #[.int .u64 v,.nilIface]
  | none => .tuple #[.int .u64 0,.iface 150 (.int .i64 2)]
set_option maxRecDepth 20000 in
set_option maxHeartbeats 8000000 in
set_option maxRecDepth 100000 in
theorem parseUint16 (t : ByteArray) (h2 : t.size = 2) (w : World) :
    Calls Tryz.prog 185 #[.string t,.int .i64 16,.int .i64 8] w fun e w' => e = .returned (hexTuple (hexFrom 0 t.data.toList)) ∧ w' = Lib.bytesWorld w 5 t:=by
  have hemp : t.toList.isEmpty = false:=by
   rw [← decide_eq_emptyBytes]
   exact decide_eq_false (fun h => by rw [h] at h2; cases h2)
  have hcv:=Lib.run_convert_string_bytes (P:=Tryz.prog) w 9 37 5 t (u:=.string) Tryz.underlying9 Tryz.underlying37 Tryz.underlying5
  have hB : ∀ j,j < t.size → (Lib.bytesWorld w 5 t).cell? ⟨w.heap.size,j,none⟩ = some (.int .u8 (t.data.toList.getD j 0).toNat):=fun j hj => Lib.bytesWorld_cell w 5 t j hj
  obtain ⟨W1,hW1⟩ : ∃ W1,W1 = Lib.bytesWorld w 5 t:=⟨_,rfl⟩
  rw [← hW1] at hcv hB ⊢
  clear hW1
  obtain ⟨bs,hL⟩ : ∃ bs,bs = t.data.toList:=⟨_,rfl⟩
  have hLn : bs.length = t.size:=by rw [hL,Lib.size_eq]
  rw [← hL] at hB ⊢
  clear hL
  have hmv : IntKind.u64.wrap (IntKind.u64.wrap 256 - 1) = 255:=by
   rw [IntKind.wrap_u64,IntKind.wrap_u64]
   decide
  have hts : t.size ≤ 2:=by omega
  have HT : Hid (t.size = 2):=h2
  clear h2
  go_enter Tryz.func185,Tryz.ntmps185
  go_wp2
  go_loop [12,13,101] (fun vu vn vi => ∃ (k acc : Nat) (a : Int),vu = .bool false ∧ vn = .int .u64 a ∧ vi = .int .i64 k ∧ k ≤ t.size ∧ Hid (a = (acc : Int) ∧ (k < 2 → acc ≤ 15) ∧ acc ≤ 255 ∧ (k = 0 → acc = 0) ∧ hexFrom 0 bs = hexFrom acc (bs.drop k)))
    (fun _ _ vi => t.size - (intOf vi).toNat)
  case atStart => exact ⟨0,0,0,rfl,rfl,rfl,by omega,rfl,by omega,by omega,by omega,rfl⟩
  case round =>
   obtain ⟨k,acc,a,rfl,rfl,rfl,hk,hh⟩:=hrel
   obtain ⟨ha,hac,hacc,hz,hdec⟩:=hh.out
   clear hh
   have a0 : 0 ≤ a:=by omega
   by_cases hkn : k < t.size
   · have hc:=hB k hkn
     have hdrop : bs.drop k = bs[k]'(by omega) :: bs.drop (k + 1):=List.drop_eq_getElem_cons (by omega)
     have hget : bs.getD k 0 = bs[k]'(by omega):=by simp [List.getD,List.getElem?_eq_getElem (show k < bs.length by omega)]
     rw [hdrop] at hdec
     rw [hget] at hc
     generalize bs[k]'(by omega) = c at hc hdec
     have hc256 : c.toNat < 256:=c.toNat_lt
     have a1 : a ≤ 15:=by have:=hac (by omega); omega
     clear hB hdrop hget
     have hz' : k + 1 < 2 → acc = 0:=fun h => hz (by omega)
     by_cases hdig : 48 ≤ c.toNat ∧ c.toNat ≤ 57
     · have hF : hexFrom acc (c :: bs.drop (k + 1)) = hexFrom (acc * 16 + (c.toNat - 48)) (bs.drop (k + 1)):=by simp only [hexFrom,hex_dig c hdig]
       obtain ⟨hd0,hd1⟩:=hdig
       have HN : Hid (a * 16 + ((c.toNat : Int) - 48) = ((acc * 16 + (c.toNat - 48) : Nat) : Int) ∧ (k + 1 < 2 → acc * 16 + (c.toNat - 48) ≤ 15) ∧ acc * 16 + (c.toNat - 48) ≤ 255 ∧ (k + 1 = 0 → acc * 16 + (c.toNat - 48) = 0) ∧ hexFrom 0 bs = hexFrom (acc * 16 + (c.toNat - 48)) (bs.drop (k + 1))) :=
         Lib.hid ⟨by omega,fun h => by have:=hz' h; omega,by omega,fun h => by omega,hdec.trans hF⟩
       have iov : a * 16 + ((c.toNat : Int) - 48) ≤ 255:=by omega
       clear hacc hF hdec ha hac hz hz'
       go_wp2
       refine ⟨⟨k + 1,acc * 16 + (c.toNat - 48),a * 16 + ((c.toNat : Int) - 48),rfl,(by first | rfl | (congr 1; omega)),(by first | rfl | (congr 1; omega)),by omega,HN⟩,by simp [intOf]; omega⟩
     · by_cases hc95 : c = 95
       · subst hc95
         have hF : hexFrom acc (95 :: bs.drop (k + 1)) = none:=rfl
         rw [hF] at hdec
         have HD : Hid (hexFrom 0 bs = none):=hdec
         have cL:=Tryz.internal_strconv_lower 95
         have hv : bits .or .u8 95 32 = 127:=by decide +kernel
         rw [hv] at cL
         have hc' : W1.cell? ⟨w.heap.size,k,none⟩ = some (.int .u8 95):=hc
         clear hacc hF hdec ha hac hz hz' hc hc256 hdig hv
         go_wp2_with (go_at_call 206; refine (cL _).mono ?_; rintro e w' ⟨rfl,rfl⟩)
         all_goals first | (exfalso; omega) | (go_ret2; exact ⟨by rw [HD.out]; rfl,rfl⟩)
       have h95 : ((c.toNat : Int) == 95) = false:=by
        rw [beq_eq_false_iff_ne]
        intro h
        exact hc95 (UInt8.toNat_inj.1 (by rw [show (95 : UInt8).toNat = 95 from rfl]; omega))
       clear hc95
       have cL:=Tryz.internal_strconv_lower (c.toNat : Int)
       have hv0:=bits_lo_u8 .or (c.toNat : Int) 32
       have hv1:=bits_hi_u8 .or (c.toNat : Int) 32
       have hlow:=hex_low c hdig
       have hbad:=hex_bad c hdig
       generalize bits .or .u8 (c.toNat : Int) 32 = m at *
       by_cases hm : 97 ≤ m ∧ m ≤ 102
       · have hF : hexFrom acc (c :: bs.drop (k + 1)) = hexFrom (acc * 16 + (m - 87).toNat) (bs.drop (k + 1)):=by simp only [hexFrom,hlow hm]
         obtain ⟨hm0,hm1⟩:=hm
         have HN : Hid (a * 16 + (m - 97 + 10) = ((acc * 16 + (m - 87).toNat : Nat) : Int) ∧ (k + 1 < 2 → acc * 16 + (m - 87).toNat ≤ 15) ∧ acc * 16 + (m - 87).toNat ≤ 255 ∧ (k + 1 = 0 → acc * 16 + (m - 87).toNat = 0) ∧ hexFrom 0 bs = hexFrom (acc * 16 + (m - 87).toNat) (bs.drop (k + 1))) :=
           Lib.hid ⟨by omega,fun h => by have:=hz' h; omega,by omega,fun h => by omega,hdec.trans hF⟩
         have iov : a * 16 + (m - 97 + 10) ≤ 255:=by omega
         clear hacc hF hdec ha hac hz hz' hlow hbad
         go_wp2_with (go_at_call 206; refine (cL _).mono ?_; rintro e w' ⟨rfl,rfl⟩)
         all_goals first | (exfalso; omega) | exact ⟨⟨k + 1,acc * 16 + (m - 87).toNat,a * 16 + (m - 97 + 10),rfl,(by first | rfl | (congr 1; omega)),(by first | rfl | (congr 1; omega)),by omega,HN⟩,by simp [intOf]; omega⟩
       · have hF : hexFrom acc (c :: bs.drop (k + 1)) = none:=by simp only [hexFrom,hbad hm]
         rw [hF] at hdec
         have HD : Hid (hexFrom 0 bs = none):=hdec
         clear hacc hF hdec ha hac hz hz' hlow hbad
         go_wp2_with (go_at_call 206; refine (cL _).mono ?_; rintro e w' ⟨rfl,rfl⟩)
         all_goals first | (exfalso; omega) | (go_ret2; exact ⟨by rw [HD.out]; rfl,rfl⟩)
   · have hkk : k = t.size:=by omega
     subst hkk
     have hF : hexFrom acc (bs.drop t.size) = some acc:=by rw [List.drop_eq_nil_of_le (by omega)]; rfl
     rw [hF] at hdec
     subst ha
     clear hacc hF a0 hac hz
     go_wp2
     go_ret2
     exact ⟨rfl,rfl⟩
end Go.Proofs.YtffnaknidofobaaGreatDoor

namespace Go.Proofs.YtffnaknidofobaaGreatDoor
open Go.RowKit
set_option maxRecDepth 20000 in
set_option maxHeartbeats 1000000 in
theorem pub16_some (t : ByteArray) (h2 : t.size = 2) (v : Nat) (hv : hexFrom 0 t.data.toList = some v) (w : World) :
    Calls Tryz.prog 190 #[.string t,.int .i64 16,.int .i64 8] w fun e w' => e = .returned (.tuple #[.int .u64 v,.nilIface]) ∧ Below w.heap.size w w':=by
  have c:=parseUint16 t h2 w
  rw [hv] at c
  change Calls Tryz.prog 185 _ _ (fun e w' => e = .returned (.tuple #[.int .u64 v,.nilIface]) ∧ _) at c
  have hb:=Lib.bytesWorld_below w 5 t
  generalize Lib.bytesWorld w 5 t = W1 at *
  clear hv h2
  go_enter Tryz.func190,Tryz.ntmps190
  go_wp2_with (go_at_call 185; refine c.mono ?_; rintro e w' ⟨rfl,rfl⟩)
  go_ret2
  exact ⟨rfl,hb⟩
set_option maxRecDepth 20000 in
set_option maxHeartbeats 1000000 in
theorem pub16_none (t : ByteArray) (h2 : t.size = 2) (hv : hexFrom 0 t.data.toList = none) (w : World) (hG : Gl w) :
    Calls Tryz.prog 190 #[.string t,.int .i64 16,.int .i64 8] w fun e w' => ∃ N,e = .returned (.tuple #[.int .u64 0,.iface 153 (.pointer (some ⟨N,0,none⟩))]) ∧ Below w.heap.size w w':=by
  have c:=parseUint16 t h2 w
  rw [hv] at c
  change Calls Tryz.prog 185 _ _ (fun e w' => e = .returned (.tuple #[.int .u64 0,.iface 150 (.int .i64 2)]) ∧ _) at c
  have hb:=Lib.bytesWorld_below w 5 t
  generalize Lib.bytesWorld w 5 t = W1 at *
  have ht : t.size ≤ 281474976710656:=by omega
  clear hv h2
  obtain ⟨te,pe,hg⟩:=(hG.later hb).syn
  have cE:=Tryz.strconv_toError_syntax ⟨#[80,97,114,115,101,85,105,110,116]⟩ t 16 8 (.iface te pe) W1 ht hg (Or.inr ⟨te,pe,rfl⟩)
  clear hg
  go_enter Tryz.func190,Tryz.ntmps190
  go_wp2_with fail
  refine c.mono ?_
  rintro e w' ⟨rfl,rfl⟩
  go_wp2_with fail
  refine cE.mono ?_
  rintro e w2 ⟨N,rfl,_,_,hb2⟩
  go_wp2
  go_ret2
  exact ⟨N,rfl,hb.trans (hb2.mono hb.size)⟩
/-- The escape that the bytes begin with, and how long it is. -/
def escL : List UInt8 → Option (UInt8 × Nat)
  | c :: d :: r => if c = 92 then
      if d = 110 then some (10,2)
      else if d = 116 then some (9,2)
      else if d = 34 ∨ d = 92 then some (d,2)
      else if d = 120 then (match r with
        | x :: y :: _ => (match hexFrom 0 [x,y] with
          | some v => some (UInt8.ofNat v,4)
          | none => none)
        | _ => none)
      else none
    else none
  | _ => none
def escTuple : Option (UInt8 × Nat) → Value
  | some (b,n) => .tuple #[.int .u8 b.toNat,.int .i64 n]
  | none => .tuple #[.int .u8 0,.int .i64 0]
def hexEsc : List UInt8 → Option (UInt8 × Nat)
  | _ :: _ :: x :: y :: _ => (match hexFrom 0 [x,y] with
      | some v => some (UInt8.ofNat v,4)
      | none => none)
  | _ => none
set_option maxRecDepth 20000 in
theorem hexV_le (c : UInt8) (v : Nat) (h : hexV c = some v) : v ≤ 15:=by
 unfold hexV at h
 split at h
 · cases h; omega
 · split at h
   · cases h; omega
   · split at h
     · cases h; omega
     · cases h
set_option maxRecDepth 20000 in
theorem hexFrom_le (x y : UInt8) (v : Nat) (h : hexFrom 0 [x,y] = some v) : v ≤ 255:=by
 simp only [hexFrom] at h
 cases hx : hexV x with
 | none => rw [hx] at h; cases h
 | some a =>
  rw [hx] at h
  cases hy : hexV y with
  | none => rw [hy] at h; cases h
  | some b =>
   rw [hy] at h
   have:=hexV_le x a hx
   have:=hexV_le y b hy
   cases h; omega
set_option maxRecDepth 20000 in
theorem cut4 (s : ByteArray) (h : 4 ≤ s.size) : ∃ a b x y r,s.data.toList = a :: b :: x :: y :: r ∧ (s.extract 2 4).data.toList = [x,y]:=by
 have hl : 4 ≤ s.data.toList.length:=by simpa using h
 match hs : s.data.toList,hl with
 | a :: b :: x :: y :: r,_ => exact ⟨a,b,x,y,r,rfl,by rw [Lib.extract_data,hs]; rfl⟩
set_option maxRecDepth 20000 in
theorem short4 (s : ByteArray) (h : s.size < 4) : hexEsc s.data.toList = none:=by
 have hl : s.data.toList.length < 4:=by simpa using h
 match hs : s.data.toList,hl with
 | [],_ => rfl
 | [_],_ => rfl
 | [_,_],_ => rfl
 | [_,_,_],_ => rfl
set_option maxRecDepth 20000 in
set_option maxHeartbeats 1000000 in
theorem hexEscape_any (s : ByteArray) (hs : s.size ≤ 65536) (w : World) (hG : Gl w) :
    Calls Tryz.prog 165 #[.string s] w fun e w' => e = .returned (escTuple (hexEsc s.data.toList)) ∧ Below w.heap.size w w':=by
  by_cases h4 : s.size < 4
  · rw [short4 s h4]
    go_enter Tryz.func165,Tryz.ntmps165
    go_wp2
    go_ret2
    exact ⟨rfl,Below.refl _ _⟩
  · obtain ⟨a,b,x,y,r,hl,hx⟩:=cut4 s (by omega)
    rw [hl]
    have hz : (s.extract 2 4).size = 2:=by simp; omega
    cases hv : hexFrom 0 [x,y] with
    | none =>
     have HS : Hid (hexEsc (a :: b :: x :: y :: r) = none):=by simp only [Hid,hexEsc,hv]
     have cP:=pub16_none (s.extract 2 4) hz (by rw [hx]; exact hv) w hG
     clear hv hz hx hl
     go_enter Tryz.func165,Tryz.ntmps165
     go_wp2_with fail
     refine cP.mono ?_
     rintro e w2 ⟨N,rfl,hb⟩
     go_wp2
     go_ret2
     exact ⟨by rw [HS.out]; rfl,hb⟩
    | some v =>
     have HS : Hid (hexEsc (a :: b :: x :: y :: r) = some (UInt8.ofNat v,4)):=by simp only [Hid,hexEsc,hv]
     have cP:=pub16_some (s.extract 2 4) hz v (by rw [hx]; exact hv) w
     have hv255:=hexFrom_le x y v hv
     clear hv hz hx hl
     go_enter Tryz.func165,Tryz.ntmps165
     go_wp2_with fail
     refine cP.mono ?_
     rintro e w2 ⟨rfl,hb⟩
     go_wp2
     go_ret2
     exact ⟨by rw [HS.out]; simp [escTuple]; omega,hb⟩
set_option maxRecDepth 20000 in
theorem bne92 {c : UInt8} (h : ¬ c = 92) : ((c.toNat : Int) != 92) = true:=by
 rw [bne_iff_ne]; intro e; exact h (UInt8.toNat_inj.1 (by rw [show (92 : UInt8).toNat = 92 from rfl]; omega))
set_option maxRecDepth 20000 in
theorem beqF {c d : UInt8} {n : Int} (hn : (d.toNat : Int) = n) (h : ¬ c = d) : ((c.toNat : Int) == n) = false:=by
 rw [beq_eq_false_iff_ne]; intro e; exact h (UInt8.toNat_inj.1 (by omega))
set_option maxRecDepth 20000 in
theorem cut2 (s : ByteArray) (h : 2 ≤ s.size) : ∃ r,s.data.toList = (s[0]'(by omega)) :: (s[1]'(by omega)) :: r:=by
 have hl : 2 ≤ s.data.toList.length:=by simpa using h
 match hs : s.data.toList,hl with
 | a :: b :: r,_ =>
  have h0 : s[0]'(by omega) = a:=by
   have : s.data.toList[0]? = some a:=by rw [hs]; rfl
   rw [List.getElem?_eq_getElem (by omega)] at this
   exact Option.some.inj this
  have h1 : s[1]'(by omega) = b:=by
   have : s.data.toList[1]? = some b:=by rw [hs]; rfl
   rw [List.getElem?_eq_getElem (by omega)] at this
   exact Option.some.inj this
  exact ⟨r,by rw [h0,h1]⟩
set_option maxRecDepth 20000 in
theorem escL_hex (c d : UInt8) (r : List UInt8) (hc : c = 92) (hd : d = 120) : escL (c :: d :: r) = hexEsc (c :: d :: r):=by
 subst hc; subst hd
 match r with
 | [] => rfl
 | [_] => rfl
 | x :: y :: r => rfl
set_option maxRecDepth 20000 in
set_option maxHeartbeats 2000000 in
theorem escape_any (s : ByteArray) (hs : s.size ≤ 65536) (w : World) (hG : Gl w) :
    Calls Tryz.prog 136 #[.string s] w fun e w' => e = .returned (escTuple (escL s.data.toList)) ∧ Below w.heap.size w w':=by
  by_cases h2 : s.size < 2
  · have HS : Hid (escL s.data.toList = none):=by
     have hl : s.data.toList.length < 2:=by simpa using h2
     match hs : s.data.toList,hl with
     | [],_ => rfl
     | [_],_ => rfl
    go_enter Tryz.func136,Tryz.ntmps136
    go_wp2
    go_ret2
    exact ⟨by rw [HS.out]; rfl,Below.refl _ _⟩
  · obtain ⟨r,hl⟩:=cut2 s (by omega)
    have cH:=hexEscape_any s hs w hG
    rw [hl] at cH ⊢
    have b1:=(s[1]'(by omega)).toNat_lt
    generalize hc : s[0]'(by omega) = c at *
    generalize hd : s[1]'(by omega) = d at *
    have hc' : s[0]'(by omega) = c:=hc
    have hd' : s[1]'(by omega) = d:=hd
    clear hl hc hd
    by_cases h92 : c = 92
    · have c92 : ((c.toNat : Int) != 92) = false:=by subst h92; rfl
      by_cases d110 : d = 110
      · have HS : Hid (escL (c :: d :: r) = some (10,2)):=by subst h92; subst d110; rfl
        have e1 : ((d.toNat : Int) == 110) = true:=by subst d110; rfl
        clear h92 d110
        go_enter Tryz.func136,Tryz.ntmps136
        go_wp2
        go_ret2
        exact ⟨by rw [HS.out]; rfl,Below.refl _ _⟩
      have e1:=beqF (n:=110) rfl d110
      by_cases d116 : d = 116
      · have HS : Hid (escL (c :: d :: r) = some (9,2)):=by subst h92; subst d116; rfl
        have e2 : ((d.toNat : Int) == 116) = true:=by subst d116; rfl
        clear h92 d110 d116
        go_enter Tryz.func136,Tryz.ntmps136
        go_wp2
        go_ret2
        exact ⟨by rw [HS.out]; rfl,Below.refl _ _⟩
      have e2:=beqF (n:=116) rfl d116
      by_cases d34 : d = 34
      · have HS : Hid (escL (c :: d :: r) = some (d,2)):=by subst h92; subst d34; rfl
        have e3 : ((d.toNat : Int) == 34) = true:=by subst d34; rfl
        clear h92 d110 d116 d34
        go_enter Tryz.func136,Tryz.ntmps136
        go_wp2
        go_ret2
        exact ⟨by rw [HS.out]; rfl,Below.refl _ _⟩
      have e3:=beqF (n:=34) rfl d34
      by_cases d92 : d = 92
      · have HS : Hid (escL (c :: d :: r) = some (d,2)):=by subst h92; subst d92; rfl
        have e4 : ((d.toNat : Int) == 92) = true:=by subst d92; rfl
        clear h92 d110 d116 d34 d92
        go_enter Tryz.func136,Tryz.ntmps136
        go_wp2
        go_ret2
        exact ⟨by rw [HS.out]; rfl,Below.refl _ _⟩
      have e4:=beqF (n:=92) rfl d92
      by_cases d120 : d = 120
      · have HS : Hid (escL (c :: d :: r) = hexEsc (c :: d :: r)):=escL_hex c d r h92 d120
        have e5 : ((d.toNat : Int) == 120) = true:=by subst d120; rfl
        clear h92 d110 d116 d34 d92 d120
        cases hx : hexEsc (c :: d :: r) with
        | none =>
         rw [hx] at cH
         have HX : Hid (hexEsc (c :: d :: r) = none):=hx
         clear hx
         change Calls Tryz.prog 165 _ _ (fun e w' => e = .returned (.tuple #[.int .u8 0,.int .i64 0]) ∧ _) at cH
         go_enter Tryz.func136,Tryz.ntmps136
         go_wp2_with (go_at_call 165; refine cH.mono ?_; rintro e w2 ⟨rfl,hb⟩)
         go_ret2
         exact ⟨by rw [HS.out,HX.out]; rfl,hb⟩
        | some bn =>
         obtain ⟨b,n⟩:=bn
         rw [hx] at cH
         have HX : Hid (hexEsc (c :: d :: r) = some (b,n)):=hx
         clear hx
         change Calls Tryz.prog 165 _ _ (fun e w' => e = .returned (.tuple #[.int .u8 b.toNat,.int .i64 n]) ∧ _) at cH
         go_enter Tryz.func136,Tryz.ntmps136
         go_wp2_with (go_at_call 165; refine cH.mono ?_; rintro e w2 ⟨rfl,hb⟩)
         go_ret2
         exact ⟨by rw [HS.out,HX.out]; rfl,hb⟩
      have e5:=beqF (n:=120) rfl d120
      have HS : Hid (escL (c :: d :: r) = none):=by
       subst h92
       simp [Hid,escL,d110,d116,d34,d92,d120]
      clear h92 d110 d116 d34 d92 d120 cH
      go_enter Tryz.func136,Tryz.ntmps136
      go_wp2
      go_ret2
      exact ⟨by rw [HS.out]; rfl,Below.refl _ _⟩
    · have c92:=bne92 h92
      have HS : Hid (escL (c :: d :: r) = none):=by simp [Hid,escL,h92]
      clear h92 cH
      go_enter Tryz.func136,Tryz.ntmps136
      go_wp2
      go_ret2
      exact ⟨by rw [HS.out]; rfl,Below.refl _ _⟩
end Go.Proofs.YtffnaknidofobaaGreatDoor

namespace Go.Proofs.YtffnaknidofobaaGreatDoor
open Go.RowKit
def shiftS (out : List UInt8) (m : Nat) : Option (List UInt8 × Nat) → Option (List UInt8 × Nat)
  | some (t,n) => some (out ++ t,m + n)
  | none => none
/-- The string behind an opening quote: what it means, and how many bytes it takes, the closing quote too. -/
def strF : Nat → List UInt8 → Option (List UInt8 × Nat)
  | 0,_ => none
  | _ + 1,[] => none
  | f + 1,c :: r => if quoteP c then some ([],1) else if plainP c then shiftS [c] 1 (strF f r)
    else match escL (c :: r) with
      | some (b,n) => shiftS [b] n (strF f ((c :: r).drop n))
      | none => none
def strL (l : List UInt8) : Option (List UInt8 × Nat):=strF l.length l
set_option maxRecDepth 20000 in
theorem escL_len (l : List UInt8) (b : UInt8) (n : Nat) (h : escL l = some (b,n)) : 2 ≤ n ∧ n ≤ l.length:=by
 unfold escL at h
 split at h
 · rename_i c d r
   split at h
   · split at h
     · cases h; simp
     · split at h
       · cases h; simp
       · split at h
         · cases h; simp
         · split at h
           · split at h
             · split at h
               · cases h; simp
               · cases h
             · cases h
           · cases h
   · cases h
 · cases h
set_option maxRecDepth 20000 in
theorem strF_fuel : ∀ (f : Nat) (l : List UInt8),l.length ≤ f → ∀ g,l.length ≤ g → strF f l = strF g l:=by
 intro f
 induction f with
 | zero =>
  intro l hl g _
  match l,hl with
  | [],_ => cases g <;> rfl
 | succ f ih =>
  intro l hl g hg
  match l,hl,hg with
  | [],_,_ => cases g <;> rfl
  | c :: r,hl,hg =>
   match g,hg with
   | g + 1,hg =>
    have hl' : r.length ≤ f:=by simpa using hl
    have hg' : r.length ≤ g:=by simpa using hg
    simp only [strF]
    rw [ih r hl' g hg']
    cases he : escL (c :: r) with
    | none => rfl
    | some x =>
     obtain ⟨b,n⟩:=x
     have hn:=escL_len _ b n he
     have h1 : ((c :: r).drop n).length ≤ f:=by simp at hn ⊢; omega
     have h2 : ((c :: r).drop n).length ≤ g:=by simp at hn ⊢; omega
     simp only [ih _ h1 g h2]
set_option maxRecDepth 20000 in
theorem strL_cons (c : UInt8) (r : List UInt8) : strL (c :: r) = if quoteP c then some ([],1) else if plainP c then shiftS [c] 1 (strL r)
    else match escL (c :: r) with
      | some (b,n) => shiftS [b] n (strL ((c :: r).drop n))
      | none => none:=by
  show strF (r.length + 1) (c :: r) = _
  simp only [strF]
  cases he : escL (c :: r) with
  | none => rfl
  | some x =>
   obtain ⟨b,n⟩:=x
   have hn:=escL_len _ b n he
   have h1 : ((c :: r).drop n).length ≤ r.length:=by simp at hn ⊢; omega
   simp only [strL]
   rw [strF_fuel r.length ((c :: r).drop n) h1 _ (Nat.le_refl _)]
set_option maxRecDepth 20000 in
theorem shiftS_shiftS (a b : List UInt8) (m n : Nat) (o : Option (List UInt8 × Nat)) : shiftS a m (shiftS b n o) = shiftS (a ++ b) (m + n) o:=by
 cases o with
 | none => rfl
 | some x => simp [shiftS,Nat.add_assoc]
set_option maxRecDepth 20000 in
theorem shiftS_nil (o : Option (List UInt8 × Nat)) : shiftS [] 0 o = o:=by
 cases o with
 | none => rfl
 | some x => simp [shiftS]
set_option maxRecDepth 20000 in
theorem plain_not_quote : ∀ c : UInt8,plainP c = true → quoteP c = false:=byte_all (by decide +kernel)
set_option maxRecDepth 20000 in
theorem quote34 : ∀ c : UInt8,quoteP c = true → c = 34:=byte_all (by decide +kernel)
set_option maxRecDepth 20000 in
theorem not_plain : ∀ c : UInt8,plainP c = false → quoteP c = false → ¬ c = 92 → c = 10:=byte_all (by decide +kernel)
set_option maxRecDepth 20000 in
theorem strL_plain (l : List UInt8) : strL l = shiftS (l.takeWhile plainP) (l.takeWhile plainP).length (strL (l.dropWhile plainP)):=by
 induction l with
 | nil => rfl
 | cons c r ih =>
  by_cases h : plainP c
  · have hq:=plain_not_quote c h
    rw [List.takeWhile_cons_of_pos h,List.dropWhile_cons_of_pos h]
    rw [show strL (c :: r) = shiftS [c] 1 (strL r) by rw [strL_cons]; simp [hq,h]]
    rw [ih,shiftS_shiftS]
    simp [Nat.add_comm]
  · rw [List.takeWhile_cons_of_neg h,List.dropWhile_cons_of_neg h]
    exact (shiftS_nil _).symm
set_option maxRecDepth 20000 in
theorem strL_quote (c : UInt8) (r : List UInt8) (h : quoteP c = true) : strL (c :: r) = some ([],1):=by
 rw [strL_cons]; simp [h]
set_option maxRecDepth 20000 in
theorem strL_esc (l : List UInt8) (hp : atP plainP l 0 = false) (hq : atP quoteP l 0 = false) :
    (escL l = none → strL l = none) ∧ (∀ b n,escL l = some (b,n) → strL l = shiftS [b] n (strL (l.drop n)) ∧ n ≤ l.length ∧ 2 ≤ n):=by
  match l with
  | [] => exact ⟨fun _ => rfl,fun b n h => by cases h⟩
  | c :: r =>
   have hp' : plainP c = false:=hp
   have hq' : quoteP c = false:=hq
   refine ⟨fun h => ?_,fun b n h => ⟨?_,(escL_len _ b n h).2,(escL_len _ b n h).1⟩⟩
   · rw [strL_cons]; simp [hp',hq',h]
   · rw [strL_cons]; simp [hp',hq',h]
end Go.Proofs.YtffnaknidofobaaGreatDoor
