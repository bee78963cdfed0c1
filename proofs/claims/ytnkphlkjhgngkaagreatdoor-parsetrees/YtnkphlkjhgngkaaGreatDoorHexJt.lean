/- Two hexadecimal digits by strconv.ParseUint, and the escapes. -/
import Derived.Test.YtnkphlkjhgngkaaGreatDoorNumJt
import Derived.Lib.Strings
import Derived.Lib.Walk
import Derived.Lib.ConvBytes
import Derived.Lib.ParseIntBMem
import Derived.Lib.Hide
import Derived.Laws.Strings3
import Derived.Laws.Closers25
import Derived.Laws.Closers25b
import Derived.BigCall
import Derived.BigGuard
namespace Go.Proofs.YtnkphlkjhgngkaaGreatDoor
open Go.RowKit
/-- The value of a hexadecimal digit. -/
def hexV (c : UInt8) : Option Nat :=
  if 48 ≤ c.toNat ∧ c.toNat ≤ 57 then some (c.toNat - 48)
  else if 97 ≤ c.toNat ∧ c.toNat ≤ 102 then some (c.toNat - 87)
  else if 65 ≤ c.toNat ∧ c.toNat ≤ 70 then some (c.toNat - 55)
  else none
def hexFrom (acc : Nat) : List UInt8 → Option Nat
  | [] => some acc
  | c :: r => match hexV c with
    | some v => hexFrom (acc * 16 + v) r
    | none => none
set_option maxRecDepth 20000 in
theorem hex_dig (c : UInt8) (h : 48 ≤ c.toNat ∧ c.toNat ≤ 57) : hexV c = some (c.toNat - 48):=by simp [hexV,h]
set_option maxRecDepth 20000 in
theorem hex_low : ∀ c : UInt8,¬ (48 ≤ c.toNat ∧ c.toNat ≤ 57) → (97 ≤ bits .or .u8 (c.toNat : Int) 32 ∧ bits .or .u8 (c.toNat : Int) 32 ≤ 102) → hexV c = some (bits .or .u8 (c.toNat : Int) 32 - 87).toNat :=
  byte_all (by decide +kernel)
set_option maxRecDepth 20000 in
theorem hex_bad : ∀ c : UInt8,¬ (48 ≤ c.toNat ∧ c.toNat ≤ 57) → ¬ (97 ≤ bits .or .u8 (c.toNat : Int) 32 ∧ bits .or .u8 (c.toNat : Int) 32 ≤ 102) → hexV c = none :=
  byte_all (by decide +kernel)
def hexTuple : Option Nat → Value
  | some v => .tuple #[.int .u64 v,.nilIface]
  | none => .tuple #[.int .u64 0,.iface 127 (.int .i64 2)]
set_option maxRecDepth 20000 in
set_option maxHeartbeats 8000000 in
set_option maxRecDepth 100000 in
theorem parseUint16 (t : ByteArray) (h2 : t.size = 2) (w : World) :
    Calls Tryz.prog 147 #[.string t,.int .i64 16,.int .i64 8] w fun e w' => e = .returned (hexTuple (hexFrom 0 t.data.toList)) ∧ w' = Lib.bytesWorld w 5 t:=by
  have hemp : t.toList.isEmpty = false:=by
   rw [← decide_eq_emptyBytes]
   exact decide_eq_false (fun h => by rw [h] at h2; cases h2)
  have hcv:=Lib.run_convert_string_bytes (P:=Tryz.prog) w 9 105 5 t (u:=.string) Tryz.underlying9 Tryz.underlying105 Tryz.underlying5
  have hB : ∀ j,j < t.size → (Lib.bytesWorld w 5 t).cell? ⟨w.heap.size,j,none⟩ = some (.int .u8 (t.data.toList.getD j 0).toNat):=fun j hj => Lib.bytesWorld_cell w 5 t j hj
  obtain ⟨W1,hW1⟩ : ∃ W1,W1 = Lib.bytesWorld w 5 t:=⟨_,rfl⟩
  rw [← hW1] at hcv hB ⊢
  clear hW1
  obtain ⟨bs,hL⟩ : ∃ bs,bs = t.data.toList:=⟨_,rfl⟩
  have hLn : bs.length = t.size:=by rw [hL,Lib.size_eq]
  rw [← hL] at hB ⊢
  clear hL
  have hmv : IntKind.u64.wrap (IntKind.u64.wrap 256 - 1) = 255:=by
   rw [IntKind.wrap_u64,IntKind.wrap_u64]
   decide
  have hts : t.size ≤ 2:=by omega
  have HT : Hid (t.size = 2):=h2
  clear h2
  go_enter Tryz.func147,Tryz.ntmps147
  go_wp2
  go_loop [12,13,101] (fun vu vn vi => ∃ (k acc : Nat) (a : Int),vu = .bool false ∧ vn = .int .u64 a ∧ vi = .int .i64 k ∧ k ≤ t.size ∧ Hid (a = (acc : Int) ∧ (k < 2 → acc ≤ 15) ∧ acc ≤ 255 ∧ (k = 0 → acc = 0) ∧ hexFrom 0 bs = hexFrom acc (bs.drop k)))
    (fun _ _ vi => t.size - (intOf vi).toNat)
  case atStart => exact ⟨0,0,0,rfl,rfl,rfl,by omega,rfl,by omega,by omega,by omega,rfl⟩
  case round =>
   obtain ⟨k,acc,a,rfl,rfl,rfl,hk,hh⟩:=hrel
   obtain ⟨ha,hac,hacc,hz,hdec⟩:=hh.out
   clear hh
   have a0 : 0 ≤ a:=by omega
   by_cases hkn : k < t.size
   · have hc:=hB k hkn
     have hdrop : bs.drop k = bs[k]'(by omega) :: bs.drop (k + 1):=List.drop_eq_getElem_cons (by omega)
     have hget : bs.getD k 0 = bs[k]'(by omega):=by simp [List.getD,List.getElem?_eq_getElem (show k < bs.length by omega)]
     rw [hdrop] at hdec
     rw [hget] at hc
     generalize bs[k]'(by omega) = c at hc hdec
     have hc256 : c.toNat < 256:=c.toNat_lt
     have a1 : a ≤ 15:=by have:=hac (by omega); omega
     clear hB hdrop hget
     have hz' : k + 1 < 2 → acc = 0:=fun h => hz (by omega)
     by_cases hdig : 48 ≤ c.toNat ∧ c.toNat ≤ 57
     · have hF : hexFrom acc (c :: bs.drop (k + 1)) = hexFrom (acc * 16 + (c.toNat - 48)) (bs.drop (k + 1)):=by simp only [hexFrom,hex_dig c hdig]
       obtain ⟨hd0,hd1⟩:=hdig
       have HN : Hid (a * 16 + ((c.toNat : Int) - 48) = ((acc * 16 + (c.toNat - 48) : Nat) : Int) ∧ (k + 1 < 2 → acc * 16 + (c.toNat - 48) ≤ 15) ∧ acc * 16 + (c.toNat - 48) ≤ 255 ∧ (k + 1 = 0 → acc * 16 + (c.toNat - 48) = 0) ∧ hexFrom 0 bs = hexFrom (acc * 16 + (c.toNat - 48)) (bs.drop (k + 1))) :=
         Lib.hid ⟨by omega,fun h => by have:=hz' h; omega,by omega,fun h => by omega,hdec.trans hF⟩
       have iov : a * 16 + ((c.toNat : Int) - 48) ≤ 255:=by omega
       clear hacc hF hdec ha hac hz hz'
       go_wp2
       refine ⟨⟨k + 1,acc * 16 + (c.toNat - 48),a * 16 + ((c.toNat : Int) - 48),rfl,(by first | rfl | (congr 1; omega)),(by first | rfl | (congr 1; omega)),by omega,HN⟩,by simp [intOf]; omega⟩
     · by_cases hc95 : c = 95
       · subst hc95
         have hF : hexFrom acc (95 :: bs.drop (k + 1)) = none:=rfl
         rw [hF] at hdec
         have HD : Hid (hexFrom 0 bs = none):=hdec
         have cL:=Tryz.internal_strconv_lower 95
         have hv : bits .or .u8 95 32 = 127:=by decide +kernel
         rw [hv] at cL
         have hc' : W1.cell? ⟨w.heap.size,k,none⟩ = some (.int .u8 95):=hc
         clear hacc hF hdec ha hac hz hz' hc hc256 hdig hv
         go_wp2_with (go_at_call 170; refine (cL _).mono ?_; rintro e w' ⟨rfl,rfl⟩)
         all_goals first | (exfalso; omega) | (go_ret2; exact ⟨by rw [HD.out]; rfl,rfl⟩)
       have h95 : ((c.toNat : Int) == 95) = false:=by
        rw [beq_eq_false_iff_ne]
        intro h
        exact hc95 (UInt8.toNat_inj.1 (by rw [show (95 : UInt8).toNat = 95 from rfl]; omega))
       clear hc95
       have cL:=Tryz.internal_strconv_lower (c.toNat : Int)
       have hv0:=bits_lo_u8 .or (c.toNat : Int) 32
       have hv1:=bits_hi_u8 .or (c.toNat : Int) 32
       have hlow:=hex_low c hdig
       have hbad:=hex_bad c hdig
       generalize bits .or .u8 (c.toNat : Int) 32 = m at *
       by_cases hm : 97 ≤ m ∧ m ≤ 102
       · have hF : hexFrom acc (c :: bs.drop (k + 1)) = hexFrom (acc * 16 + (m - 87).toNat) (bs.drop (k + 1)):=by simp only [hexFrom,hlow hm]
         obtain ⟨hm0,hm1⟩:=hm
         have HN : Hid (a * 16 + (m - 97 + 10) = ((acc * 16 + (m - 87).toNat : Nat) : Int) ∧ (k + 1 < 2 → acc * 16 + (m - 87).toNat ≤ 15) ∧ acc * 16 + (m - 87).toNat ≤ 255 ∧ (k + 1 = 0 → acc * 16 + (m - 87).toNat = 0) ∧ hexFrom 0 bs = hexFrom (acc * 16 + (m - 87).toNat) (bs.drop (k + 1))) :=
           Lib.hid ⟨by omega,fun h => by have:=hz' h; omega,by omega,fun h => by omega,hdec.trans hF⟩
         have iov : a * 16 + (m - 97 + 10) ≤ 255:=by omega
         clear hacc hF hdec ha hac hz hz' hlow hbad
         go_wp2_with (go_at_call 170; refine (cL _).mono ?_; rintro e w' ⟨rfl,rfl⟩)
         all_goals first | (exfalso; omega) | exact ⟨⟨k + 1,acc * 16 + (m - 87).toNat,a * 16 + (m - 97 + 10),rfl,(by first | rfl | (congr 1; omega)),(by first | rfl | (congr 1; omega)),by omega,HN⟩,by simp [intOf]; omega⟩
       · have hF : hexFrom acc (c :: bs.drop (k + 1)) = none:=by simp only [hexFrom,hbad hm]
         rw [hF] at hdec
         have HD : Hid (hexFrom 0 bs = none):=hdec
         clear hacc hF hdec ha hac hz hz' hlow hbad
         go_wp2_with (go_at_call 170; refine (cL _).mono ?_; rintro e w' ⟨rfl,rfl⟩)
         all_goals first | (exfalso; omega) | (go_ret2; exact ⟨by rw [HD.out]; rfl,rfl⟩)
   · have hkk : k = t.size:=by omega
     subst hkk
     have hF : hexFrom acc (bs.drop t.size) = some acc:=by rw [List.drop_eq_nil_of_le (by omega)]; rfl
     rw [hF] at hdec
     subst ha
     clear hacc hF a0 hac hz
     go_wp2
     go_ret2
     exact ⟨rfl,rfl⟩
end Go.Proofs.YtnkphlkjhgngkaaGreatDoor

namespace Go.Proofs.YtnkphlkjhgngkaaGreatDoor
open Go.RowKit
set_option maxRecDepth 20000 in
set_option maxHeartbeats 1000000 in
theorem pub16_some (t : ByteArray) (h2 : t.size = 2) (v : Nat) (hv : hexFrom 0 t.data.toList = some v) (w : World) :
    Calls Tryz.prog 153 #[.string t,.int .i64 16,.int .i64 8] w fun e w' => e = .returned (.tuple #[.int .u64 v,.nilIface]) ∧ Below w.heap.size w w':=by
  have c:=parseUint16 t h2 w
  rw [hv] at c
  change Calls Tryz.prog 147 _ _ (fun e w' => e = .returned (.tuple #[.int .u64 v,.nilIface]) ∧ _) at c
  have hb:=Lib.bytesWorld_below w 5 t
  generalize Lib.bytesWorld w 5 t = W1 at *
  clear hv h2
  go_enter Tryz.func153,Tryz.ntmps153
  go_wp2_with (go_at_call 147; refine c.mono ?_; rintro e w' ⟨rfl,rfl⟩)
  go_ret2
  exact ⟨rfl,hb⟩
set_option maxRecDepth 20000 in
set_option maxHeartbeats 1000000 in
theorem pub16_none (t : ByteArray) (h2 : t.size = 2) (hv : hexFrom 0 t.data.toList = none) (w : World) (hG : Gl w) :
    Calls Tryz.prog 153 #[.string t,.int .i64 16,.int .i64 8] w fun e w' => ∃ N,e = .returned (.tuple #[.int .u64 0,.iface 131 (.pointer (some ⟨N,0,none⟩))]) ∧ Below w.heap.size w w':=by
  have c:=parseUint16 t h2 w
  rw [hv] at c
  change Calls Tryz.prog 147 _ _ (fun e w' => e = .returned (.tuple #[.int .u64 0,.iface 127 (.int .i64 2)]) ∧ _) at c
  have hb:=Lib.bytesWorld_below w 5 t
  generalize Lib.bytesWorld w 5 t = W1 at *
  have ht : t.size ≤ 281474976710656:=by omega
  clear hv h2
  obtain ⟨te,pe,hg⟩:=(hG.later hb).syn
  have cE:=Tryz.strconv_toError_syntax ⟨#[80,97,114,115,101,85,105,110,116]⟩ t 16 8 (.iface te pe) W1 ht hg (Or.inr ⟨te,pe,rfl⟩)
  clear hg
  go_enter Tryz.func153,Tryz.ntmps153
  go_wp2_with fail
  refine c.mono ?_
  rintro e w' ⟨rfl,rfl⟩
  go_wp2_with fail
  refine cE.mono ?_
  rintro e w2 ⟨N,rfl,_,_,hb2⟩
  go_wp2
  go_ret2
  exact ⟨N,rfl,hb.trans (hb2.mono hb.size)⟩
/-- The escape that the bytes begin with, and how long it is. -/
def escL : List UInt8 → Option (UInt8 × Nat)
  | c :: d :: r => if c = 92 then
      if d = 110 then some (10,2)
      else if d = 116 then some (9,2)
      else if d = 34 ∨ d = 92 then some (d,2)
      else if d = 120 then (match r with
        | x :: y :: _ => (match hexFrom 0 [x,y] with
          | some v => some (UInt8.ofNat v,4)
          | none => none)
        | _ => none)
      else none
    else none
  | _ => none
def escTuple : Option (UInt8 × Nat) → Value
  | some (b,n) => .tuple #[.int .u8 b.toNat,.int .i64 n]
  | none => .tuple #[.int .u8 0,.int .i64 0]
def hexEsc : List UInt8 → Option (UInt8 × Nat)
  | _ :: _ :: x :: y :: _ => (match hexFrom 0 [x,y] with
      | some v => some (UInt8.ofNat v,4)
      | none => none)
  | _ => none
set_option maxRecDepth 20000 in
theorem hexV_le (c : UInt8) (v : Nat) (h : hexV c = some v) : v ≤ 15:=by
 unfold hexV at h
 split at h
 · cases h; omega
 · split at h
   · cases h; omega
   · split at h
     · cases h; omega
     · cases h
set_option maxRecDepth 20000 in
theorem hexFrom_le (x y : UInt8) (v : Nat) (h : hexFrom 0 [x,y] = some v) : v ≤ 255:=by
 simp only [hexFrom] at h
 cases hx : hexV x with
 | none => rw [hx] at h; cases h
 | some a =>
  rw [hx] at h
  cases hy : hexV y with
  | none => rw [hy] at h; cases h
  | some b =>
   rw [hy] at h
   have:=hexV_le x a hx
   have:=hexV_le y b hy
   cases h; omega
set_option maxRecDepth 20000 in
theorem cut4 (s : ByteArray) (h : 4 ≤ s.size) : ∃ a b x y r,s.data.toList = a :: b :: x :: y :: r ∧ (s.extract 2 4).data.toList = [x,y]:=by
 have hl : 4 ≤ s.data.toList.length:=by simpa using h
 match hs : s.data.toList,hl with
 | a :: b :: x :: y :: r,_ => exact ⟨a,b,x,y,r,rfl,by rw [Lib.extract_data,hs]; rfl⟩
set_option maxRecDepth 20000 in
theorem short4 (s : ByteArray) (h : s.size < 4) : hexEsc s.data.toList = none:=by
 have hl : s.data.toList.length < 4:=by simpa using h
 match hs : s.data.toList,hl with
 | [],_ => rfl
 | [_],_ => rfl
 | [_,_],_ => rfl
 | [_,_,_],_ => rfl
set_option maxRecDepth 20000 in
set_option maxHeartbeats 1000000 in
theorem hexEscape_any (s : ByteArray) (hs : s.size ≤ 65536) (w : World) (hG : Gl w) :
    Calls Tryz.prog 129 #[.string s] w fun e w' => e = .returned (escTuple (hexEsc s.data.toList)) ∧ Below w.heap.size w w':=by
  by_cases h4 : s.size < 4
  · rw [short4 s h4]
    go_enter Tryz.func129,Tryz.ntmps129
    go_wp2
    go_ret2
    exact ⟨rfl,Below.refl _ _⟩
  · obtain ⟨a,b,x,y,r,hl,hx⟩:=cut4 s (by omega)
    rw [hl]
    have hz : (s.extract 2 4).size = 2:=by simp; omega
    cases hv : hexFrom 0 [x,y] with
    | none =>
     have HS : Hid (hexEsc (a :: b :: x :: y :: r) = none):=by simp only [Hid,hexEsc,hv]
     have cP:=pub16_none (s.extract 2 4) hz (by rw [hx]; exact hv) w hG
     clear hv hz hx hl
     go_enter Tryz.func129,Tryz.ntmps129
     go_wp2_with fail
     refine cP.mono ?_
     rintro e w2 ⟨N,rfl,hb⟩
     go_wp2
     go_ret2
     exact ⟨by rw [HS.out]; rfl,hb⟩
    | some v =>
     have HS : Hid (hexEsc (a :: b :: x :: y :: r) = some (UInt8.ofNat v,4)):=by simp only [Hid,hexEsc,hv]
     have cP:=pub16_some (s.extract 2 4) hz v (by rw [hx]; exact hv) w
     have hv255:=hexFrom_le x y v hv
     clear hv hz hx hl
     go_enter Tryz.func129,Tryz.ntmps129
     go_wp2_with fail
     refine cP.mono ?_
     rintro e w2 ⟨rfl,hb⟩
     go_wp2
     go_ret2
     exact ⟨by rw [HS.out]; simp [escTuple]; omega,hb⟩
set_option maxRecDepth 20000 in
theorem bne92 {c : UInt8} (h : ¬ c = 92) : ((c.toNat : Int) != 92) = true:=by
 rw [bne_iff_ne]; intro e; exact h (UInt8.toNat_inj.1 (by rw [show (92 : UInt8).toNat = 92 from rfl]; omega))
set_option maxRecDepth 20000 in
theorem beqF {c d : UInt8} {n : Int} (hn : (d.toNat : Int) = n) (h : ¬ c = d) : ((c.toNat : Int) == n) = false:=by
 rw [beq_eq_false_iff_ne]; intro e; exact h (UInt8.toNat_inj.1 (by omega))
set_option maxRecDepth 20000 in
theorem cut2 (s : ByteArray) (h : 2 ≤ s.size) : ∃ r,s.data.toList = (s[0]'(by omega)) :: (s[1]'(by omega)) :: r:=by
 have hl : 2 ≤ s.data.toList.length:=by simpa using h
 match hs : s.data.toList,hl with
 | a :: b :: r,_ =>
  have h0 : s[0]'(by omega) = a:=by
   have : s.data.toList[0]? = some a:=by rw [hs]; rfl
   rw [List.getElem?_eq_getElem (by omega)] at this
   exact Option.some.inj this
  have h1 : s[1]'(by omega) = b:=by
   have : s.data.toList[1]? = some b:=by rw [hs]; rfl
   rw [List.getElem?_eq_getElem (by omega)] at this
   exact Option.some.inj this
  exact ⟨r,by rw [h0,h1]⟩
set_option maxRecDepth 20000 in
theorem escL_hex (c d : UInt8) (r : List UInt8) (hc : c = 92) (hd : d = 120) : escL (c :: d :: r) = hexEsc (c :: d :: r):=by
 subst hc; subst hd
 match r with
 | [] => rfl
 | [_] => rfl
 | x :: y :: r => rfl
set_option maxRecDepth 20000 in
set_option maxHeartbeats 2000000 in
theorem escape_any (s : ByteArray) (hs : s.size ≤ 65536) (w : World) (hG : Gl w) :
    Calls Tryz.prog 100 #[.string s] w fun e w' => e = .returned (escTuple (escL s.data.toList)) ∧ Below w.heap.size w w':=by
  by_cases h2 : s.size < 2
  · have HS : Hid (escL s.data.toList = none):=by
     have hl : s.data.toList.length < 2:=by simpa using h2
     match hs : s.data.toList,hl with
     | [],_ => rfl
     | [_],_ => rfl
    go_enter Tryz.func100,Tryz.ntmps100
    go_wp2
    go_ret2
    exact ⟨by rw [HS.out]; rfl,Below.refl _ _⟩
  · obtain ⟨r,hl⟩:=cut2 s (by omega)
    have cH:=hexEscape_any s hs w hG
    rw [hl] at cH ⊢
    have b1:=(s[1]'(by omega)).toNat_lt
    generalize hc : s[0]'(by omega) = c at *
    generalize hd : s[1]'(by omega) = d at *
    have hc' : s[0]'(by omega) = c:=hc
    have hd' : s[1]'(by omega) = d:=hd
    clear hl hc hd
    by_cases h92 : c = 92
    · have c92 : ((c.toNat : Int) != 92) = false:=by subst h92; rfl
      by_cases d110 : d = 110
      · have HS : Hid (escL (c :: d :: r) = some (10,2)):=by subst h92; subst d110; rfl
        have e1 : ((d.toNat : Int) == 110) = true:=by subst d110; rfl
        clear h92 d110
        go_enter Tryz.func100,Tryz.ntmps100
        go_wp2
        go_ret2
        exact ⟨by rw [HS.out]; rfl,Below.refl _ _⟩
      have e1:=beqF (n:=110) rfl d110
      by_cases d116 : d = 116
      · have HS : Hid (escL (c :: d :: r) = some (9,2)):=by subst h92; subst d116; rfl
        have e2 : ((d.toNat : Int) == 116) = true:=by subst d116; rfl
        clear h92 d110 d116
        go_enter Tryz.func100,Tryz.ntmps100
        go_wp2
        go_ret2
        exact ⟨by rw [HS.out]; rfl,Below.refl _ _⟩
      have e2:=beqF (n:=116) rfl d116
      by_cases d34 : d = 34
      · have HS : Hid (escL (c :: d :: r) = some (d,2)):=by subst h92; subst d34; rfl
        have e3 : ((d.toNat : Int) == 34) = true:=by subst d34; rfl
        clear h92 d110 d116 d34
        go_enter Tryz.func100,Tryz.ntmps100
        go_wp2
        go_ret2
        exact ⟨by rw [HS.out]; rfl,Below.refl _ _⟩
      have e3:=beqF (n:=34) rfl d34
      by_cases d92 : d = 92
      · have HS : Hid (escL (c :: d :: r) = some (d,2)):=by subst h92; subst d92; rfl
        have e4 : ((d.toNat : Int) == 92) = true:=by subst d92; rfl
        clear h92 d110 d116 d34 d92
        go_enter Tryz.func100,Tryz.ntmps100
        go_wp2
        go_ret2
        exact ⟨by rw [HS.out]; rfl,Below.refl _ _⟩
      have e4:=beqF (n:=92) rfl d92
      by_cases d120 : d = 120
      · have HS : Hid (escL (c :: d :: r) = hexEsc (c :: d :: r)):=escL_hex c d r h92 d120
        have e5 : ((d.toNat : Int) == 120) = true:=by subst d120; rfl
        clear h92 d110 d116 d34 d92 d120
        cases hx : hexEsc (c :: d :: r) with
        | none =>
         rw [hx] at cH
         have HX : Hid (hexEsc (c :: d :: r) = none):=hx
         clear hx
         change Calls Tryz.prog 129 _ _ (fun e w' => e = .returned (.tuple #[.int .u8 0,.int .i64 0]) ∧ _) at cH
         go_enter Tryz.func100,Tryz.ntmps100
         go_wp2_with (go_at_call 129; refine cH.mono ?_; rintro e w2 ⟨rfl,hb⟩)
         go_ret2
         exact ⟨by rw [HS.out,HX.out]; rfl,hb⟩
        | some bn =>
         obtain ⟨b,n⟩:=bn
         rw [hx] at cH
         have HX : Hid (hexEsc (c :: d :: r) = some (b,n)):=hx
         clear hx
         change Calls Tryz.prog 129 _ _ (fun e w' => e = .returned (.tuple #[.int .u8 b.toNat,.int .i64 n]) ∧ _) at cH
         go_enter Tryz.func100,Tryz.ntmps100
         go_wp2_with (go_at_call 129; refine cH.mono ?_; rintro e w2 ⟨rfl,hb⟩)
         go_ret2
         exact ⟨by rw [HS.out,HX.out]; rfl,hb⟩
      have e5:=beqF (n:=120) rfl d120
      have HS : Hid (escL (c :: d :: r) = none):=by
       subst h92
       simp [Hid,escL,d110,d116,d34,d92,d120]
      clear h92 d110 d116 d34 d92 d120 cH
      go_enter Tryz.func100,Tryz.ntmps100
      go_wp2
      go_ret2
      exact ⟨by rw [HS.out]; rfl,Below.refl _ _⟩
    · have c92:=bne92 h92
      have HS : Hid (escL (c :: d :: r) = none):=by simp [Hid,escL,h92]
      clear h92 cH
      go_enter Tryz.func100,Tryz.ntmps100
      go_wp2
      go_ret2
      exact ⟨by rw [HS.out]; rfl,Below.refl _ _⟩
end Go.Proofs.YtnkphlkjhgngkaaGreatDoor

namespace Go.Proofs.YtnkphlkjhgngkaaGreatDoor
open Go.RowKit
def shiftS (out : List UInt8) (m : Nat) : Option (List UInt8 × Nat) → Option (List UInt8 × Nat)
  | some (t,n) => some (out ++ t,m + n)
  | none => none
/-- The string behind an opening quote: what it means, and how many bytes it takes, the closing quote too. -/
def strF : Nat → List UInt8 → Option (List UInt8 × Nat)
  | 0,_ => none
  | _ + 1,[] => none
  | f + 1,c :: r => if quoteP c then some ([],1) else if plainP c then shiftS [c] 1 (strF f r)
    else match escL (c :: r) with
      | some (b,n) => shiftS [b] n (strF f ((c :: r).drop n))
      | none => none
def strL (l : List UInt8) : Option (List UInt8 × Nat):=strF l.length l
set_option maxRecDepth 20000 in
theorem escL_len (l : List UInt8) (b : UInt8) (n : Nat) (h : escL l = some (b,n)) : 2 ≤ n ∧ n ≤ l.length:=by
 unfold escL at h
 split at h
 · rename_i c d r
   split at h
   · split at h
     · cases h; simp
     · split at h
       · cases h; simp
       · split at h
         · cases h; simp
         · split at h
           · split at h
             · split at h
               · cases h; simp
               · cases h
             · cases h
           · cases h
   · cases h
 · cases h
set_option maxRecDepth 20000 in
theorem strF_fuel : ∀ (f : Nat) (l : List UInt8),l.length ≤ f → ∀ g,l.length ≤ g → strF f l = strF g l:=by
 intro f
 induction f with
 | zero =>
  intro l hl g _
  match l,hl with
  | [],_ => cases g <;> rfl
 | succ f ih =>
  intro l hl g hg
  match l,hl,hg with
  | [],_,_ => cases g <;> rfl
  | c :: r,hl,hg =>
   match g,hg with
   | g + 1,hg =>
    have hl' : r.length ≤ f:=by simpa using hl
    have hg' : r.length ≤ g:=by simpa using hg
    simp only [strF]
    rw [ih r hl' g hg']
    cases he : escL (c :: r) with
    | none => rfl
    | some x =>
     obtain ⟨b,n⟩:=x
     have hn:=escL_len _ b n he
     have h1 : ((c :: r).drop n).length ≤ f:=by simp at hn ⊢; omega
     have h2 : ((c :: r).drop n).length ≤ g:=by simp at hn ⊢; omega
     simp only [ih _ h1 g h2]
set_option maxRecDepth 20000 in
theorem strL_cons (c : UInt8) (r : List UInt8) : strL (c :: r) = if quoteP c then some ([],1) else if plainP c then shiftS [c] 1 (strL r)
    else match escL (c :: r) with
      | some (b,n) => shiftS [b] n (strL ((c :: r).drop n))
      | none => none:=by
  show strF (r.length + 1) (c :: r) = _
  simp only [strF]
  cases he : escL (c :: r) with
  | none => rfl
  | some x =>
   obtain ⟨b,n⟩:=x
   have hn:=escL_len _ b n he
   have h1 : ((c :: r).drop n).length ≤ r.length:=by simp at hn ⊢; omega
   simp only [strL]
   rw [strF_fuel r.length ((c :: r).drop n) h1 _ (Nat.le_refl _)]
set_option maxRecDepth 20000 in
theorem shiftS_shiftS (a b : List UInt8) (m n : Nat) (o : Option (List UInt8 × Nat)) : shiftS a m (shiftS b n o) = shiftS (a ++ b) (m + n) o:=by
 cases o with
 | none => rfl
 | some x => simp [shiftS,Nat.add_assoc]
set_option maxRecDepth 20000 in
theorem shiftS_nil (o : Option (List UInt8 × Nat)) : shiftS [] 0 o = o:=by
 cases o with
 | none => rfl
 | some x => simp [shiftS]
set_option maxRecDepth 20000 in
theorem plain_not_quote : ∀ c : UInt8,plainP c = true → quoteP c = false:=byte_all (by decide +kernel)
set_option maxRecDepth 20000 in
theorem quote34 : ∀ c : UInt8,quoteP c = true → c = 34:=byte_all (by decide +kernel)
set_option maxRecDepth 20000 in
theorem not_plain : ∀ c : UInt8,plainP c = false → quoteP c = false → ¬ c = 92 → c = 10:=byte_all (by decide +kernel)
set_option maxRecDepth 20000 in
theorem strL_plain (l : List UInt8) : strL l = shiftS (l.takeWhile plainP) (l.takeWhile plainP).length (strL (l.dropWhile plainP)):=by
 induction l with
 | nil => rfl
 | cons c r ih =>
  by_cases h : plainP c
  · have hq:=plain_not_quote c h
    rw [List.takeWhile_cons_of_pos h,List.dropWhile_cons_of_pos h]
    rw [show strL (c :: r) = shiftS [c] 1 (strL r) by rw [strL_cons]; simp [hq,h]]
    rw [ih,shiftS_shiftS]
    simp [Nat.add_comm]
  · rw [List.takeWhile_cons_of_neg h,List.dropWhile_cons_of_neg h]
    exact (shiftS_nil _).symm
set_option maxRecDepth 20000 in
theorem strL_quote (c : UInt8) (r : List UInt8) (h : quoteP c = true) : strL (c :: r) = some ([],1):=by
 rw [strL_cons]; simp [h]
set_option maxRecDepth 20000 in
theorem strL_esc (l : List UInt8) (hp : atP plainP l 0 = false) (hq : atP quoteP l 0 = false) :
    (escL l = none → strL l = none) ∧ (∀ b n,escL l = some (b,n) → strL l = shiftS [b] n (strL (l.drop n)) ∧ n ≤ l.length ∧ 2 ≤ n):=by
  match l with
  | [] => exact ⟨fun _ => rfl,fun b n h => by cases h⟩
  | c :: r =>
   have hp' : plainP c = false:=hp
   have hq' : quoteP c = false:=hq
   refine ⟨fun h => ?_,fun b n h => ⟨?_,(escL_len _ b n h).2,(escL_len _ b n h).1⟩⟩
   · rw [strL_cons]; simp [hp',hq',h]
   · rw [strL_cons]; simp [hp',hq',h]
end Go.Proofs.YtnkphlkjhgngkaaGreatDoor

namespace Go.Proofs.YtnkphlkjhgngkaaGreatDoor
open Go.RowKit
def textRes (l : List UInt8) (k : Nat) : Option (List UInt8 × Nat):=match strL (l.drop (k + 1)) with
  | some (t,n) => if t.length ≤ 1024 then some (t,k + 1 + n) else none
  | none => none
def textV (k : Nat) : Option (List UInt8 × Nat) → Value
  | some (t,e) => .tuple #[tokV 3 ⟨t.toArray⟩ 0 k,.int .i64 e,.bool true]
  | none => noTok
set_option maxRecDepth 20000 in
theorem textRes_long {l out : List UInt8} {k m j : Nat} (h : strL (l.drop (k + 1)) = shiftS out m (strL (l.drop j))) (hl : 1024 < out.length) : textRes l k = none:=by
 unfold textRes
 rw [h]
 cases strL (l.drop j) with
 | none => rfl
 | some x => simp [shiftS]; omega
set_option maxRecDepth 20000 in
theorem textRes_quote {l out : List UInt8} {k j : Nat} (h : strL (l.drop (k + 1)) = shiftS out (j - (k + 1)) (strL (l.drop j))) (hj : k + 1 ≤ j) (hq : atP quoteP l j = true) (hl : ¬ 1024 < out.length) : textRes l k = some (out,j + 1):=by
 unfold textRes
 rw [h]
 unfold atP at hq
 cases hk : l[j]? with
 | none => rw [hk] at hq; cases hq
 | some c =>
  rw [hk] at hq
  obtain ⟨hjl,rfl⟩:=List.getElem?_eq_some_iff.1 hk
  rw [List.drop_eq_getElem_cons hjl,strL_quote _ _ hq]
  simp [shiftS]
  exact ⟨by omega,by omega⟩
set_option maxRecDepth 20000 in
theorem textRes_none {l out : List UInt8} {k m j : Nat} (h : strL (l.drop (k + 1)) = shiftS out m (strL (l.drop j))) (hn : strL (l.drop j) = none) : textRes l k = none:=by
 unfold textRes
 rw [h,hn]; rfl
set_option maxRecDepth 20000 in
theorem atP_drop (p : UInt8 → Bool) (l : List UInt8) (j : Nat) : atP p (l.drop j) 0 = atP p l j:=by
 simp [atP,List.getElem?_drop]
set_option maxRecDepth 20000 in
theorem strL_seg (l : List UInt8) (k j : Nat) (out : List UInt8) (hj : k + 1 ≤ j) (h : strL (l.drop (k + 1)) = shiftS out (j - (k + 1)) (strL (l.drop j))) :
    strL (l.drop (k + 1)) = shiftS (out ++ (l.drop j).takeWhile plainP) (endOf plainP l j - (k + 1)) (strL (l.drop (endOf plainP l j))):=by
  rw [h,strL_plain (l.drop j),shiftS_shiftS,drop_endOf]
  congr 1
  unfold endOf; omega
set_option maxRecDepth 20000 in
theorem extract_seg (s : ByteArray) (j : Nat) : (s.extract j (endOf plainP s.data.toList j)).data.toList = (s.data.toList.drop j).takeWhile plainP:=by
 rw [Lib.extract_data]
 unfold endOf
 rw [Nat.add_sub_cancel_left]
 have h : ∀ m : List UInt8,m.take (m.takeWhile plainP).length = m.takeWhile plainP:=by
  intro m
  induction m with
  | nil => rfl
  | cons c r ih => by_cases hc : plainP c <;> simp [hc,ih]
 exact h _
set_option maxRecDepth 20000 in
theorem byteCells_append (a b : List UInt8) : Lib.byteCells a ++ Lib.byteCells b = Lib.byteCells (a ++ b):=by simp [Lib.byteCells]
set_option maxRecDepth 20000 in
theorem ownsRow_later {w w' : World} {base : Nat} {e : TypeId} {size : Nat} {v : Value} {n : Nat} {xs : List Value} (hb : Below w.heap.size w w') (h : w.ownsRow base e size v n xs) : w'.ownsRow base e size v n xs:=by
 obtain ⟨h1,h2⟩:=h
 refine ⟨h1,?_⟩
 rcases h2 with h2 | ⟨g,cap,cur,rfl,hg,hh,r⟩
 · exact Or.inl h2
 · have hl : g < w.heap.size:=by
    rcases Nat.lt_or_ge g w.heap.size with hl | hl
    · exact hl
    · rw [Array.getElem?_eq_none hl] at hh; cases hh
   exact Or.inr ⟨g,cap,cur,rfl,hg,(hb.block g hl).trans hh,r⟩
set_option maxRecDepth 20000 in
theorem builderAt_later {T e : TypeId} {B b : Nat} {p : Value} {bs : List Value} {w w' : World} (hb : Below w.heap.size w w') (h : Lib.BuilderAt T e B b p bs w) : Lib.BuilderAt T e B b p bs w':=by
 obtain ⟨h0,v,h1,h2,h3⟩:=h
 have hl : b < w.heap.size:=by
  rcases Nat.lt_or_ge b w.heap.size with hl | hl
  · exact hl
  · rw [Array.getElem?_eq_none hl] at h1; cases h1
 exact ⟨h0,v,(hb.block b hl).trans h1,ownsRow_later hb h2,h3⟩
set_option maxRecDepth 20000 in
theorem isBuilder_later {T e : TypeId} {B b : Nat} {bs : List Value} {w w' : World} (hb : Below w.heap.size w w') (h : Lib.IsBuilder T e B b bs w) : Lib.IsBuilder T e B b bs w':=by
 rcases h with h | h
 · exact Or.inl (builderAt_later hb h)
 · exact Or.inr (builderAt_later hb h)
/-- The facts on the boxes of a string's call carry over to a later world. -/
theorem laterT {a : AB} {n : Nat} {s : ByteArray} {W w' : World} (hz : W.heap.size = n + 2) (hb : Below W.heap.size W w') (c5 : W.cell? ⟨n,5,none⟩ = some (.func (.func a.g5) #[] a.l5)) (c6 : W.cell? ⟨n,6,none⟩ = some (.func (.func a.g6) #[] a.l6)) (c8 : W.cell? ⟨n,8,none⟩ = some (.string s)) :
    w'.cell? ⟨n,5,none⟩ = some (.func (.func a.g5) #[] a.l5) ∧ w'.cell? ⟨n,6,none⟩ = some (.func (.func a.g6) #[] a.l6) ∧ w'.cell? ⟨n,8,none⟩ = some (.string s):=by
  have a1 : n < W.heap.size:=by omega
  exact ⟨(hb.cell (p:=⟨n,5,none⟩) a1).trans c5,(hb.cell (p:=⟨n,6,none⟩) a1).trans c6,(hb.cell (p:=⟨n,8,none⟩) a1).trans c8⟩
set_option maxRecDepth 20000 in
set_option maxHeartbeats 4000000 in
theorem text_any (a : AB) (B : Nat) (w : World) (hA : Alpha a B w) (hG : Gl w) (s : ByteArray) (hs : s.size ≤ 65536) (k : Nat) (hk : k < s.size) :
    Calls Tryz.prog 56 #[a.rd s,.int .i64 k] w fun e w' => e = .returned (textV k (textRes s.data.toList k)) ∧ Below w.heap.size w w':=by
  have hll : s.data.toList.length = s.size:=by simp
  have HL : Hid (s.data.toList.length = s.size):=hll
  clear hll
  go_enter Tryz.func56,Tryz.ntmps56
  go_wp2
  obtain ⟨W,hWq,hA',hb,hz,⟨_,_,_,_,_,c5,c6,_,c8⟩,⟨t0,t1,t2,t3⟩,tf⟩:=boxRd2 a s B w hA
  have hG' : Gl W:=hG.later hb
  rw [hWq]
  clear hWq hA hG
  have hnew : Lib.IsBuilder 107 5 (w.heap.size + 2) (w.heap.size + 2) [] (W.alloc (.cells #[.pointer none,.slice none 0 0] 107)):=by
   have:=Lib.fresh_isBuilder 107 5 W
   rw [hz] at this
   exact this
  have hnb : Below W.heap.size W (W.alloc (.cells #[.pointer none,.slice none 0 0] 107)):=(Below.refl _ _).alloc (Nat.le_refl _) _
  generalize W.alloc (.cells #[.pointer none,.slice none 0 0] 107) = W0 at *
  go_loopw [8] (fun p wr => ∃ (j : Nat) (out : List UInt8),k + 1 ≤ j ∧ j ≤ s.size ∧ p = .int .i64 j ∧ Lib.IsBuilder 107 5 (w.heap.size + 2) (w.heap.size + 2) (Lib.byteCells out) wr ∧ Below W.heap.size W wr ∧ Hid (out.length ≤ j ∧ strL (s.data.toList.drop (k + 1)) = shiftS out (j - (k + 1)) (strL (s.data.toList.drop j)))) (fun p _ => s.size - (intOf p).toNat)
  case atStart => exact ⟨k + 1,[],Nat.le_refl _,hk,by go_num,hnew,hnb,Nat.zero_le _,by rw [Nat.sub_self,shiftS_nil]⟩
  case round =>
   obtain ⟨j,out,hj1,hj2,rfl,hB,hbr,HE⟩:=hrel
   clear hnew hnb
   have hzr : w.heap.size + 2 ≤ wr.heap.size:=by have:=hbr.size; omega
   obtain ⟨r5,r6,r8⟩:=laterT hz hbr c5 c6 c8
   have cE:=end_any a.g6 a.l6 plainP B W wr hA'.e6 hA'.plain (Same.of_below hbr) s (by unfold maxLen; omega) j hj2
   have h1:=endOf_ge plainP s.data.toList j
   have h2:=endOf_le plainP s.data.toList j (by have:=HL.out; omega)
   rw [HL.out] at h2
   have H3 : Hid (strL (s.data.toList.drop (k + 1)) = shiftS (out ++ (s.data.toList.drop j).takeWhile plainP) (endOf plainP s.data.toList j - (k + 1)) (strL (s.data.toList.drop (endOf plainP s.data.toList j)))):=strL_seg _ _ _ _ hj1 HE.out.2
   have H4 : Hid (atP plainP s.data.toList (endOf plainP s.data.toList j) = false):=at_endOf _ _ _
   have H5 : Hid (Lib.byteCells out ++ Lib.strCells (s.extract j (endOf plainP s.data.toList j)) = Lib.byteCells (out ++ (s.data.toList.drop j).takeWhile plainP)):=by
    show Lib.byteCells out ++ Lib.byteCells (s.extract j (endOf plainP s.data.toList j)).data.toList = _
    rw [extract_seg,byteCells_append]
   have H6 : Hid ((out ++ (s.data.toList.drop j).takeWhile plainP).length ≤ endOf plainP s.data.toList j):=by
    have:=HE.out.1
    show _ ≤ _
    unfold endOf
    simp; omega
   generalize endOf plainP s.data.toList j = e1 at *
   generalize out ++ (s.data.toList.drop j).takeWhile plainP = out2 at *
   go_wp2_with fail
   refine cE.mono ?_
   rintro e w' ⟨rfl,q,rfl⟩
   go_wp2_with fail
   have hlen : (Lib.byteCells out).length + (s.extract j e1).size ≤ 140737488355328:=by
    have:=HE.out.1
    rw [Lib.byteCells_length]; simp; omega
   refine (Tryz.Builder_WriteString (w.heap.size + 2) (w.heap.size + 2) (Lib.byteCells out) (s.extract j e1) (wr.drewN q) hB hlen hzr).mono ?_
   rintro e w3 ⟨rfl,hB3',hb3'⟩
   have hB3 : Lib.IsBuilder 107 5 (w.heap.size + 2) (w.heap.size + 2) (Lib.byteCells out2) w3:=Or.inr (by rw [← H5.out]; exact hB3')
   have hb3 : Below W.heap.size W w3:=hbr.trans (by rw [hz]; exact ⟨hb3'.os,hb3'.tape,hb3'.output,hb3'.size,hb3'.block⟩)
   clear hB3' hb3' hlen cE H5 r5 r6 r8 hB hbr
   obtain ⟨r5,r6,r8⟩:=laterT hz hb3 c5 c6 c8
   have hz3 : w.heap.size + 2 ≤ w3.heap.size:=by have:=hb3.size; omega
   have cLen:=Tryz.Builder_Len (w.heap.size + 2) (w.heap.size + 2) (Lib.byteCells out2) w3 hB3
   rw [Lib.byteCells_length] at cLen
   go_wp2_with fail
   refine cLen.mono ?_
   rintro e w' ⟨rfl,hw'⟩
   subst hw'
   by_cases hlong : 1024 < out2.length
   · have HT : Hid (textRes s.data.toList k = none):=textRes_long H3.out hlong
     obtain ⟨_,s0,s1,s2,s3,sf⟩:=later4 hz hb3 c8 t0 t1 t2 t3 tf
     go_wp2
     generalize hWf : (((((w').setCell ⟨w.heap.size + 1,0,none⟩ (.int .i64 0)).setCell ⟨w.heap.size + 1,1,none⟩ (.string ⟨#[]⟩)).setCell ⟨w.heap.size + 1,2,none⟩ (.int .i64 0)).setCell ⟨w.heap.size + 1,3,none⟩ (.int .i64 0)) = Wf
     obtain ⟨_,hw4,d0,d1,d2,d3⟩:=put4 (w.heap.size + 1) (w') _ _ _ _ Wf s0 s1 s2 s3 hWf
     clear hWf
     exact bodyPost_ret (v:=.tuple #[.agg #[.int .i64 0,.string ⟨#[]⟩,.int .i64 0,.int .i64 0],.int .i64 0,.bool false]) (by simp [results,Tryz.results56,go_sem,d0,d1,d2,d3]) rfl ⟨by rw [HT.out]; rfl,hw4 _ _ (Nat.le_succ _) (hb.trans (hb3.mono (by omega)))⟩
   · have cQ:=at_any a.g5 a.l5 quoteP B W w' hA'.e5 hA'.quote (Same.of_below hb3) s (by unfold maxLen; omega) e1 h2
     cases hq : atP quoteP s.data.toList e1 <;> rw [hq] at cQ
     · have hG3 : Gl w':=hG'.later hb3
       have hesc:=strL_esc (s.data.toList.drop e1) (by rw [atP_drop]; exact H4.out) (by rw [atP_drop]; exact hq)
       clear hq
       cases hx : escL (s.data.toList.drop e1) with
       | none =>
        have HT : Hid (textRes s.data.toList k = none):=textRes_none H3.out (hesc.1 hx)
        go_wp2_with fail
        refine cQ.mono ?_
        rintro e w2 ⟨rfl,q2,rfl⟩
        go_wp2_with fail
        have cX:=escape_any (s.extract e1 s.size) (by simp; omega) (w'.drewN q2) ⟨hG3.syn,hG3.rng,hG3.size⟩
        rw [Lib.extract_to_end,hx] at cX
        change Calls Tryz.prog 100 _ _ (fun e w' => e = .returned (.tuple #[.int .u8 0,.int .i64 0]) ∧ _) at cX
        clear hx hesc
        refine cX.mono ?_
        rintro e w5 ⟨rfl,hb5'⟩
        have hb5 : Below W.heap.size W w5:=hb3.trans (Below.mono (B:=w'.heap.size) ⟨hb5'.os,hb5'.tape,hb5'.output,hb5'.size,hb5'.block⟩ (by omega))
        obtain ⟨_,s0,s1,s2,s3,sf⟩:=later4 hz hb5 c8 t0 t1 t2 t3 tf
        clear cX hb5' cQ cLen
        go_wp2
        generalize hWf : (((((w5).setCell ⟨w.heap.size + 1,0,none⟩ (.int .i64 0)).setCell ⟨w.heap.size + 1,1,none⟩ (.string ⟨#[]⟩)).setCell ⟨w.heap.size + 1,2,none⟩ (.int .i64 0)).setCell ⟨w.heap.size + 1,3,none⟩ (.int .i64 0)) = Wf
        obtain ⟨_,hw4,d0,d1,d2,d3⟩:=put4 (w.heap.size + 1) (w5) _ _ _ _ Wf s0 s1 s2 s3 hWf
        clear hWf
        exact bodyPost_ret (v:=.tuple #[.agg #[.int .i64 0,.string ⟨#[]⟩,.int .i64 0,.int .i64 0],.int .i64 0,.bool false]) (by simp [results,Tryz.results56,go_sem,d0,d1,d2,d3]) rfl ⟨by rw [HT.out]; rfl,hw4 _ _ (Nat.le_succ _) (hb.trans (hb5.mono (by omega)))⟩
       | some bn =>
        obtain ⟨b,n⟩:=bn
        obtain ⟨hsp,hn1,hn2⟩:=hesc.2 b n hx
        have hn3 : e1 + n ≤ s.size:=by
         have:=HL.out
         rw [List.length_drop] at hn1
         omega
        have HN : Hid ((out2 ++ [b]).length ≤ e1 + n ∧ strL (s.data.toList.drop (k + 1)) = shiftS (out2 ++ [b]) (e1 + n - (k + 1)) (strL (s.data.toList.drop (e1 + n)))):=by
         refine ⟨by have:=H6.out; simp; omega,?_⟩
         rw [H3.out,hsp,shiftS_shiftS,List.drop_drop]
         congr 1
         omega
        have hno : ((n : Int) == 0) = false:=by rw [beq_eq_false_iff_ne]; omega
        go_wp2_with fail
        refine cQ.mono ?_
        rintro e w2 ⟨rfl,q2,rfl⟩
        go_wp2_with fail
        have cX:=escape_any (s.extract e1 s.size) (by simp; omega) (w'.drewN q2) ⟨hG3.syn,hG3.rng,hG3.size⟩
        rw [Lib.extract_to_end,hx] at cX
        change Calls Tryz.prog 100 _ _ (fun e w' => e = .returned (.tuple #[.int .u8 b.toNat,.int .i64 n]) ∧ _) at cX
        clear hx hesc hsp
        refine cX.mono ?_
        rintro e w5 ⟨rfl,hb5'⟩
        have hb5w : Below w'.heap.size w' w5:=⟨hb5'.os,hb5'.tape,hb5'.output,hb5'.size,hb5'.block⟩
        have hb5 : Below W.heap.size W w5:=hb3.trans (hb5w.mono (by omega))
        have hB5:=isBuilder_later hb5w hB3
        clear cX hb5' cQ cLen
        have hz5 : w.heap.size + 2 ≤ w5.heap.size:=by have:=hb5.size; omega
        have hlen5 : (Lib.byteCells out2).length + 1 ≤ 140737488355328:=by rw [Lib.byteCells_length]; omega
        go_wp2_with fail
        refine (Tryz.Builder_WriteByte (w.heap.size + 2) (w.heap.size + 2) (Lib.byteCells out2) b.toNat w5 hB5 hlen5 hz5).mono ?_
        rintro e w6 ⟨rfl,hB6',hb6'⟩
        have hB6 : Lib.IsBuilder 107 5 (w.heap.size + 2) (w.heap.size + 2) (Lib.byteCells (out2 ++ [b])) w6:=Or.inr (by rw [← byteCells_append]; exact hB6')
        have hb6 : Below W.heap.size W w6:=hb5.trans (by rw [hz]; exact hb6')
        clear hB6' hb6' hlen5
        go_wp2
        go_roundw
        case rel => exact ⟨e1 + n,out2 ++ [b],by omega,hn3,by go_num,hB6,hb6,HN⟩
        case measure => simp [intOf]; omega
     · have HT : Hid (textRes s.data.toList k = some (out2,e1 + 1)):=textRes_quote H3.out (by omega) hq hlong
       clear hq
       have cS:=Tryz.Builder_String_any (w.heap.size + 2) (w.heap.size + 2) out2
       go_wp2_with fail
       refine cQ.mono ?_
       rintro e w2 ⟨rfl,q2,rfl⟩
       go_wp2_with fail
       refine (cS (w'.drewN q2) hB3 hz3).mono ?_
       rintro e w4 ⟨rfl,hb4'⟩
       have hb4 : Below W.heap.size W w4:=hb3.trans (by rw [hz]; exact ⟨hb4'.os,hb4'.tape,hb4'.output,hb4'.size,hb4'.block⟩)
       obtain ⟨_,s0,s1,s2,s3,sf⟩:=later4 hz hb4 c8 t0 t1 t2 t3 tf
       clear hb4' cQ cLen cS
       go_wp2
       generalize hWf : (((((w4).setCell ⟨w.heap.size + 1,0,none⟩ (.int .i64 3)).setCell ⟨w.heap.size + 1,1,none⟩ (.string ⟨out2.toArray⟩)).setCell ⟨w.heap.size + 1,2,none⟩ (.int .i64 0)).setCell ⟨w.heap.size + 1,3,none⟩ (.int .i64 k)) = Wf
       obtain ⟨_,hw4,d0,d1,d2,d3⟩:=put4 (w.heap.size + 1) (w4) _ _ _ _ Wf s0 s1 s2 s3 hWf
       clear hWf
       exact bodyPost_ret (v:=.tuple #[.agg #[.int .i64 3,.string ⟨out2.toArray⟩,.int .i64 0,.int .i64 k],.int .i64 (e1 + 1),.bool true]) (by simp [results,Tryz.results56,go_sem,d0,d1,d2,d3]) rfl ⟨by rw [HT.out]; rfl,hw4 _ _ (Nat.le_succ _) (hb.trans (hb4.mono (by omega)))⟩
end Go.Proofs.YtnkphlkjhgngkaaGreatDoor

namespace Go.Proofs.YtnkphlkjhgngkaaGreatDoor
open Go.RowKit
/-- Kind, text, number, and where the token ends. -/
abbrev Tok:=Int × List UInt8 × Int × Nat
def seg (l : List UInt8) (k e : Nat) : List UInt8:=(l.drop k).take (e - k)
def nameL (l : List UInt8) (k : Nat) : Option Tok :=
  if 64 < endOf innerP l k - k then none else some (kindOf (seg l k (endOf innerP l k)),seg l k (endOf innerP l k),0,endOf innerP l k)
def numL (l : List UInt8) (k : Nat) : Option Tok :=
  if l[k]? = some 48 ∧ k + 1 < endOf digitP l k then none
  else if atP firstP l (endOf digitP l k) = true then none
  else if 9223372036854775808 ≤ numOf (seg l k (endOf digitP l k)) then none
  else some (2,[],numOf (seg l k (endOf digitP l k)),endOf digitP l k)
def textL (l : List UInt8) (k : Nat) : Option Tok:=match textRes l k with
  | some (t,e) => some (3,t,0,e)
  | none => none
def markL (l : List UInt8) (k : Nat) : Option Tok :=
  if k + 2 ≤ l.length ∧ pairP (seg l k (k + 2)) = true then some (4,seg l k (k + 2),0,k + 2)
  else if atP singleP l k = true then some (4,seg l k (k + 1),0,k + 1)
  else none
def tokL (l : List UInt8) (k : Nat) : Option Tok :=
  if atP firstP l k = true then nameL l k
  else if atP digitP l k = true then numL l k
  else if atP quoteP l k = true then textL l k
  else markL l k
def tokVal (k : Nat) : Option Tok → Value
  | some (kd,t,n,e) => .tuple #[tokV kd ⟨t.toArray⟩ n k,.int .i64 e,.bool true]
  | none => noTok
set_option maxRecDepth 20000 in
theorem extract_eq (s : ByteArray) (k e : Nat) : s.extract k e = ⟨(seg s.data.toList k e).toArray⟩:=by
 have h:=Lib.extract_data s k e
 unfold seg
 rw [← h]
set_option maxRecDepth 20000 in
theorem extract_toList (s : ByteArray) (k e : Nat) : (s.extract k e).toList = seg s.data.toList k e:=by
 rw [Lib.toList_data,Lib.extract_data]; rfl
set_option maxRecDepth 20000 in
theorem name_all (a : AB) (B : Nat) (w : World) (hA : Alpha a B w) (s : ByteArray) (hs : s.size ≤ 65536) (k : Nat) (hk : k < s.size) :
    Calls Tryz.prog 54 #[a.rd s,.int .i64 k] w fun e w' => e = .returned (tokVal k (nameL s.data.toList k)) ∧ Below w.heap.size w w':=by
  unfold nameL
  by_cases h : 64 < endOf innerP s.data.toList k - k
  · rw [if_pos h]; exact name_long a B w hA s hs k hk h
  · rw [if_neg h]
    have:=name_ok a B w hA s hs k hk _ rfl h
    rw [extract_toList,extract_eq] at this
    exact this
set_option maxRecDepth 20000 in
theorem getElem_list (s : ByteArray) (k : Nat) (hk : k < s.size) : s.data.toList[k]? = some s[k]:=by
 rw [List.getElem?_eq_getElem (by simpa using hk)]; rfl
set_option maxRecDepth 20000 in
theorem mark_all (a : AB) (B : Nat) (w : World) (hA : Alpha a B w) (s : ByteArray) (hs : s.size ≤ 65536) (k : Nat) (hk : k < s.size) :
    Calls Tryz.prog 57 #[a.rd s,.int .i64 k] w fun e w' => e = .returned (tokVal k (markL s.data.toList k)) ∧ Below w.heap.size w w':=by
  unfold markL
  have hll : s.data.toList.length = s.size:=by simp
  rw [hll,atP_lt hk]
  by_cases h2 : k + 2 ≤ s.size
  · cases hp : pairP (seg s.data.toList k (k + 2))
    · rw [if_neg (by simp)]
      cases hg : singleP s[k]
      · rw [if_neg (by simp)]
        exact mark_s0_no a B w hA s hs k hk hg h2 (by rw [extract_toList]; exact hp)
      · rw [if_pos rfl]
        have:=mark_s1_no a B w hA s hs k hk hg h2 (by rw [extract_toList]; exact hp)
        rw [extract_eq] at this
        exact this
    · rw [if_pos ⟨h2,rfl⟩]
      cases hg : singleP s[k]
      · have:=mark_s0_yes a B w hA s hs k hk hg h2 (by rw [extract_toList]; exact hp)
        rw [extract_eq] at this
        exact this
      · have:=mark_s1_yes a B w hA s hs k hk hg h2 (by rw [extract_toList]; exact hp)
        rw [extract_eq] at this
        exact this
  · rw [if_neg (by omega)]
    cases hg : singleP s[k]
    · rw [if_neg (by simp)]
      exact mark_s0_end a B w hA s hs k hk hg h2
    · rw [if_pos rfl]
      have:=mark_s1_end a B w hA s hs k hk hg h2
      rw [extract_eq] at this
      exact this
set_option maxRecDepth 20000 in
theorem seg_takeWhile (p : UInt8 → Bool) (l : List UInt8) (k : Nat) : seg l k (endOf p l k) = (l.drop k).takeWhile p:=by
 unfold seg endOf
 rw [Nat.add_sub_cancel_left]
 have h : ∀ m : List UInt8,m.take (m.takeWhile p).length = m.takeWhile p:=by
  intro m
  induction m with
  | nil => rfl
  | cons c r ih => by_cases hc : p c <;> simp [hc,ih]
 exact h _
set_option maxRecDepth 20000 in
theorem all_takeWhile (p : UInt8 → Bool) (m : List UInt8) : (m.takeWhile p).all p = true:=by
 induction m with
 | nil => rfl
 | cons c r ih => by_cases hc : p c <;> simp [hc]
set_option maxRecDepth 20000 in
theorem number_all (a : AB) (B : Nat) (w : World) (hA : Alpha a B w) (hG : Gl w) (s : ByteArray) (hs : s.size ≤ 65536) (k : Nat) (hk : k < s.size) (hd : digitP s[k] = true) :
    Calls Tryz.prog 55 #[a.rd s,.int .i64 k] w fun e w' => e = .returned (tokVal k (numL s.data.toList k)) ∧ Below w.heap.size w w':=by
  unfold numL
  rw [getElem_list s k hk]
  have hseg:=seg_takeWhile digitP s.data.toList k
  have hall : (seg s.data.toList k (endOf digitP s.data.toList k)).all digitP = true:=by rw [hseg]; exact all_takeWhile _ _
  have hne : seg s.data.toList k (endOf digitP s.data.toList k) ≠ []:=by
   rw [hseg,List.drop_eq_getElem_cons (by simpa using hk),List.takeWhile_cons_of_pos (by exact hd)]
   simp
  have hpi:=parseInt_digits _ hall hne
  have hex : (s.extract k (endOf digitP s.data.toList k)).data.toList = seg s.data.toList k (endOf digitP s.data.toList k):=by rw [Lib.extract_data]; rfl
  by_cases h48 : s[k] = 48
  · have e48 : ((s[k].toNat : Int) == 48) = true:=by rw [h48]; rfl
    by_cases hlt : k + 1 < endOf digitP s.data.toList k
    · rw [if_pos ⟨by rw [h48],hlt⟩]
      exact number_nought a B w hA s hs k hk _ rfl e48 hlt
    · rw [if_neg (by omega)]
      by_cases hf : atP firstP s.data.toList (endOf digitP s.data.toList k) = true
      · rw [if_pos hf]; exact number_letter_b a B w hA s hs k hk _ rfl e48 hlt hf
      · rw [if_neg hf]
        by_cases hr : 9223372036854775808 ≤ numOf (seg s.data.toList k (endOf digitP s.data.toList k))
        · rw [if_pos hr]; exact number_range_b a B w hA s hs k hk _ rfl e48 hlt (by simpa using hf) hG (by rw [hex]; exact hpi.1 hr)
        · rw [if_neg hr]; exact number_ok_b a B w hA s hs k hk _ rfl e48 hlt (by simpa using hf) _ (by rw [hex]; exact hpi.2 hr)
  · have e48 : ((s[k].toNat : Int) == 48) = false:=beqF (d:=48) rfl h48
    rw [if_neg (by intro h; exact h48 (Option.some.inj h.1))]
    by_cases hf : atP firstP s.data.toList (endOf digitP s.data.toList k) = true
    · rw [if_pos hf]; exact number_letter_a a B w hA s hs k hk _ rfl e48 hf
    · rw [if_neg hf]
      by_cases hr : 9223372036854775808 ≤ numOf (seg s.data.toList k (endOf digitP s.data.toList k))
      · rw [if_pos hr]; exact number_range_a a B w hA s hs k hk _ rfl e48 (by simpa using hf) hG (by rw [hex]; exact hpi.1 hr)
      · rw [if_neg hr]; exact number_ok_a a B w hA s hs k hk _ rfl e48 (by simpa using hf) _ (by rw [hex]; exact hpi.2 hr)
set_option maxRecDepth 20000 in
theorem text_all (a : AB) (B : Nat) (w : World) (hA : Alpha a B w) (hG : Gl w) (s : ByteArray) (hs : s.size ≤ 65536) (k : Nat) (hk : k < s.size) :
    Calls Tryz.prog 56 #[a.rd s,.int .i64 k] w fun e w' => e = .returned (tokVal k (textL s.data.toList k)) ∧ Below w.heap.size w w':=by
  have h:=text_any a B w hA hG s hs k hk
  unfold textL
  cases hr : textRes s.data.toList k with
  | none => rw [hr] at h; exact h
  | some x => obtain ⟨t,e⟩:=x; rw [hr] at h; exact h
end Go.Proofs.YtnkphlkjhgngkaaGreatDoor

namespace Go.Proofs.YtnkphlkjhgngkaaGreatDoor
open Go.RowKit
set_option maxRecDepth 20000 in
set_option maxHeartbeats 2000000 in
theorem token_name (a : AB) (B : Nat) (w : World) (hA : Alpha a B w) (hG : Gl w) (s : ByteArray) (hs : s.size ≤ 65536) (k : Nat) (hk : k < s.size) (hf : firstP s[k] = true) :
    Calls Tryz.prog 31 #[a.rd s,.int .i64 k] w fun e w' => e = .returned (tokVal k (nameL s.data.toList k)) ∧ Below w.heap.size w w':=by
  have eg2 : ∀ args w,(callFunc a.g2 args).run Tryz.prog w = .ok (.enter a.g2 args) w:=hA.e2
  have eg4 : ∀ args w,(callFunc a.g4 args).run Tryz.prog w = .ok (.enter a.g4 args) w:=hA.e4
  have eg5 : ∀ args w,(callFunc a.g5 args).run Tryz.prog w = .ok (.enter a.g5 args) w:=hA.e5
  go_enter Tryz.func31,Tryz.ntmps31
  go_wp2_with fail
  obtain ⟨W,hWq,hA',hb,hz,⟨c0,c1,c2,c3,c4,c5,c6,c7,c8⟩,⟨t0,t1,t2,t3⟩,tf⟩:=boxRd2 a s B w hA
  have hG' : Gl W:=hG.later hb
  rw [hWq]
  clear hWq hA hG
  have cf0 : Calls Tryz.prog a.g2 (#[.int .u8 (s[k]).toNat] ++ a.l2) (W) _:=hA'.first (W) s[k] (Same.refl _ _)
  rw [hf] at cf0
  go_wp2_with fail
  refine cf0.mono ?_
  rintro e w' ⟨rfl,q0,rfl⟩
  go_wp2_with fail
  have cN:=name_all a B (W.drewN q0) (hA'.later ((Same.refl _ _).drewN _)) s hs k hk
  cases hr : nameL s.data.toList k with
  | none =>
   rw [hr] at cN
   change Calls Tryz.prog 54 _ _ (fun e w' => e = .returned noTok ∧ _) at cN
   have HR:=Lib.hid hr
   clear hr
   refine cN.mono ?_
   rintro e w3 ⟨rfl,hb3'⟩
   have hb3 : Below W.heap.size W w3:=⟨hb3'.os,hb3'.tape,hb3'.output,hb3'.size,hb3'.block⟩
   obtain ⟨_,s0,s1,s2,s3,sf⟩:=later4 hz hb3 c8 t0 t1 t2 t3 tf
   go_wp2
   generalize hWf : (((((w3).setCell ⟨w.heap.size + 1,0,none⟩ (.int .i64 0)).setCell ⟨w.heap.size + 1,1,none⟩ (.string ⟨#[]⟩)).setCell ⟨w.heap.size + 1,2,none⟩ (.int .i64 0)).setCell ⟨w.heap.size + 1,3,none⟩ (.int .i64 0)) = Wf
   obtain ⟨_,hw4,d0,d1,d2,d3⟩:=put4 (w.heap.size + 1) (w3) _ _ _ _ Wf s0 s1 s2 s3 hWf
   clear hWf
   exact bodyPost_ret (v:=.tuple #[.agg #[.int .i64 0,.string ⟨#[]⟩,.int .i64 0,.int .i64 0],.int .i64 0,.bool false]) (by simp [results,Tryz.results31,go_sem,d0,d1,d2,d3]) rfl ⟨by rw [HR.out]; rfl,hw4 _ _ (Nat.le_succ _) (hb.trans (hb3.mono (by omega)))⟩
  | some x =>
   obtain ⟨kd,tx,nu,en⟩:=x
   rw [hr] at cN
   change Calls Tryz.prog 54 _ _ (fun e w' => e = .returned (.tuple #[tokV kd ⟨tx.toArray⟩ nu k,.int .i64 en,.bool true]) ∧ _) at cN
   have HR:=Lib.hid hr
   clear hr
   refine cN.mono ?_
   rintro e w3 ⟨rfl,hb3'⟩
   have hb3 : Below W.heap.size W w3:=⟨hb3'.os,hb3'.tape,hb3'.output,hb3'.size,hb3'.block⟩
   obtain ⟨_,s0,s1,s2,s3,sf⟩:=later4 hz hb3 c8 t0 t1 t2 t3 tf
   go_wp2
   generalize hWf : (((((w3).setCell ⟨w.heap.size + 1,0,none⟩ (.int .i64 kd)).setCell ⟨w.heap.size + 1,1,none⟩ (.string ⟨tx.toArray⟩)).setCell ⟨w.heap.size + 1,2,none⟩ (.int .i64 nu)).setCell ⟨w.heap.size + 1,3,none⟩ (.int .i64 k)) = Wf
   obtain ⟨_,hw4,d0,d1,d2,d3⟩:=put4 (w.heap.size + 1) (w3) _ _ _ _ Wf s0 s1 s2 s3 hWf
   clear hWf
   exact bodyPost_ret (v:=.tuple #[.agg #[.int .i64 kd,.string ⟨tx.toArray⟩,.int .i64 nu,.int .i64 k],.int .i64 en,.bool true]) (by simp [results,Tryz.results31,go_sem,d0,d1,d2,d3]) rfl ⟨by rw [HR.out]; rfl,hw4 _ _ (Nat.le_succ _) (hb.trans (hb3.mono (by omega)))⟩
set_option maxRecDepth 20000 in
set_option maxHeartbeats 2000000 in
theorem token_num (a : AB) (B : Nat) (w : World) (hA : Alpha a B w) (hG : Gl w) (s : ByteArray) (hs : s.size ≤ 65536) (k : Nat) (hk : k < s.size) (hf : firstP s[k] = false) (hd : digitP s[k] = true) :
    Calls Tryz.prog 31 #[a.rd s,.int .i64 k] w fun e w' => e = .returned (tokVal k (numL s.data.toList k)) ∧ Below w.heap.size w w':=by
  have eg2 : ∀ args w,(callFunc a.g2 args).run Tryz.prog w = .ok (.enter a.g2 args) w:=hA.e2
  have eg4 : ∀ args w,(callFunc a.g4 args).run Tryz.prog w = .ok (.enter a.g4 args) w:=hA.e4
  have eg5 : ∀ args w,(callFunc a.g5 args).run Tryz.prog w = .ok (.enter a.g5 args) w:=hA.e5
  go_enter Tryz.func31,Tryz.ntmps31
  go_wp2_with fail
  obtain ⟨W,hWq,hA',hb,hz,⟨c0,c1,c2,c3,c4,c5,c6,c7,c8⟩,⟨t0,t1,t2,t3⟩,tf⟩:=boxRd2 a s B w hA
  have hG' : Gl W:=hG.later hb
  rw [hWq]
  clear hWq hA hG
  have cf0 : Calls Tryz.prog a.g2 (#[.int .u8 (s[k]).toNat] ++ a.l2) (W) _:=hA'.first (W) s[k] (Same.refl _ _)
  rw [hf] at cf0
  go_wp2_with fail
  refine cf0.mono ?_
  rintro e w' ⟨rfl,q0,rfl⟩
  have cf1 : Calls Tryz.prog a.g4 (#[.int .u8 (s[k]).toNat] ++ a.l4) (W.drewN q0) _:=hA'.digit (W.drewN q0) s[k] ((Same.refl _ _).drewN _)
  rw [hd] at cf1
  go_wp2_with fail
  refine cf1.mono ?_
  rintro e w' ⟨rfl,q1,rfl⟩
  go_wp2_with fail
  have cN:=number_all a B (W.drewN (q0 + q1)) (hA'.later ((Same.refl _ _).drewN _)) ⟨hG'.syn,hG'.rng,hG'.size⟩ s hs k hk hd
  cases hr : numL s.data.toList k with
  | none =>
   rw [hr] at cN
   change Calls Tryz.prog 55 _ _ (fun e w' => e = .returned noTok ∧ _) at cN
   have HR:=Lib.hid hr
   clear hr
   refine cN.mono ?_
   rintro e w3 ⟨rfl,hb3'⟩
   have hb3 : Below W.heap.size W w3:=⟨hb3'.os,hb3'.tape,hb3'.output,hb3'.size,hb3'.block⟩
   obtain ⟨_,s0,s1,s2,s3,sf⟩:=later4 hz hb3 c8 t0 t1 t2 t3 tf
   go_wp2
   generalize hWf : (((((w3).setCell ⟨w.heap.size + 1,0,none⟩ (.int .i64 0)).setCell ⟨w.heap.size + 1,1,none⟩ (.string ⟨#[]⟩)).setCell ⟨w.heap.size + 1,2,none⟩ (.int .i64 0)).setCell ⟨w.heap.size + 1,3,none⟩ (.int .i64 0)) = Wf
   obtain ⟨_,hw4,d0,d1,d2,d3⟩:=put4 (w.heap.size + 1) (w3) _ _ _ _ Wf s0 s1 s2 s3 hWf
   clear hWf
   exact bodyPost_ret (v:=.tuple #[.agg #[.int .i64 0,.string ⟨#[]⟩,.int .i64 0,.int .i64 0],.int .i64 0,.bool false]) (by simp [results,Tryz.results31,go_sem,d0,d1,d2,d3]) rfl ⟨by rw [HR.out]; rfl,hw4 _ _ (Nat.le_succ _) (hb.trans (hb3.mono (by omega)))⟩
  | some x =>
   obtain ⟨kd,tx,nu,en⟩:=x
   rw [hr] at cN
   change Calls Tryz.prog 55 _ _ (fun e w' => e = .returned (.tuple #[tokV kd ⟨tx.toArray⟩ nu k,.int .i64 en,.bool true]) ∧ _) at cN
   have HR:=Lib.hid hr
   clear hr
   refine cN.mono ?_
   rintro e w3 ⟨rfl,hb3'⟩
   have hb3 : Below W.heap.size W w3:=⟨hb3'.os,hb3'.tape,hb3'.output,hb3'.size,hb3'.block⟩
   obtain ⟨_,s0,s1,s2,s3,sf⟩:=later4 hz hb3 c8 t0 t1 t2 t3 tf
   go_wp2
   generalize hWf : (((((w3).setCell ⟨w.heap.size + 1,0,none⟩ (.int .i64 kd)).setCell ⟨w.heap.size + 1,1,none⟩ (.string ⟨tx.toArray⟩)).setCell ⟨w.heap.size + 1,2,none⟩ (.int .i64 nu)).setCell ⟨w.heap.size + 1,3,none⟩ (.int .i64 k)) = Wf
   obtain ⟨_,hw4,d0,d1,d2,d3⟩:=put4 (w.heap.size + 1) (w3) _ _ _ _ Wf s0 s1 s2 s3 hWf
   clear hWf
   exact bodyPost_ret (v:=.tuple #[.agg #[.int .i64 kd,.string ⟨tx.toArray⟩,.int .i64 nu,.int .i64 k],.int .i64 en,.bool true]) (by simp [results,Tryz.results31,go_sem,d0,d1,d2,d3]) rfl ⟨by rw [HR.out]; rfl,hw4 _ _ (Nat.le_succ _) (hb.trans (hb3.mono (by omega)))⟩
set_option maxRecDepth 20000 in
set_option maxHeartbeats 2000000 in
theorem token_text (a : AB) (B : Nat) (w : World) (hA : Alpha a B w) (hG : Gl w) (s : ByteArray) (hs : s.size ≤ 65536) (k : Nat) (hk : k < s.size) (hf : firstP s[k] = false) (hd : digitP s[k] = false) (hq : quoteP s[k] = true) :
    Calls Tryz.prog 31 #[a.rd s,.int .i64 k] w fun e w' => e = .returned (tokVal k (textL s.data.toList k)) ∧ Below w.heap.size w w':=by
  have eg2 : ∀ args w,(callFunc a.g2 args).run Tryz.prog w = .ok (.enter a.g2 args) w:=hA.e2
  have eg4 : ∀ args w,(callFunc a.g4 args).run Tryz.prog w = .ok (.enter a.g4 args) w:=hA.e4
  have eg5 : ∀ args w,(callFunc a.g5 args).run Tryz.prog w = .ok (.enter a.g5 args) w:=hA.e5
  go_enter Tryz.func31,Tryz.ntmps31
  go_wp2_with fail
  obtain ⟨W,hWq,hA',hb,hz,⟨c0,c1,c2,c3,c4,c5,c6,c7,c8⟩,⟨t0,t1,t2,t3⟩,tf⟩:=boxRd2 a s B w hA
  have hG' : Gl W:=hG.later hb
  rw [hWq]
  clear hWq hA hG
  have cf0 : Calls Tryz.prog a.g2 (#[.int .u8 (s[k]).toNat] ++ a.l2) (W) _:=hA'.first (W) s[k] (Same.refl _ _)
  rw [hf] at cf0
  go_wp2_with fail
  refine cf0.mono ?_
  rintro e w' ⟨rfl,q0,rfl⟩
  have cf1 : Calls Tryz.prog a.g4 (#[.int .u8 (s[k]).toNat] ++ a.l4) (W.drewN q0) _:=hA'.digit (W.drewN q0) s[k] ((Same.refl _ _).drewN _)
  rw [hd] at cf1
  go_wp2_with fail
  refine cf1.mono ?_
  rintro e w' ⟨rfl,q1,rfl⟩
  have cf2 : Calls Tryz.prog a.g5 (#[.int .u8 (s[k]).toNat] ++ a.l5) (W.drewN (q0 + q1)) _:=hA'.quote (W.drewN (q0 + q1)) s[k] ((Same.refl _ _).drewN _)
  rw [hq] at cf2
  go_wp2_with fail
  refine cf2.mono ?_
  rintro e w' ⟨rfl,q2,rfl⟩
  go_wp2_with fail
  have cN:=text_all a B (W.drewN (q0 + q1 + q2)) (hA'.later ((Same.refl _ _).drewN _)) ⟨hG'.syn,hG'.rng,hG'.size⟩ s hs k hk
  cases hr : textL s.data.toList k with
  | none =>
   rw [hr] at cN
   change Calls Tryz.prog 56 _ _ (fun e w' => e = .returned noTok ∧ _) at cN
   have HR:=Lib.hid hr
   clear hr
   refine cN.mono ?_
   rintro e w3 ⟨rfl,hb3'⟩
   have hb3 : Below W.heap.size W w3:=⟨hb3'.os,hb3'.tape,hb3'.output,hb3'.size,hb3'.block⟩
   obtain ⟨_,s0,s1,s2,s3,sf⟩:=later4 hz hb3 c8 t0 t1 t2 t3 tf
   go_wp2
   generalize hWf : (((((w3).setCell ⟨w.heap.size + 1,0,none⟩ (.int .i64 0)).setCell ⟨w.heap.size + 1,1,none⟩ (.string ⟨#[]⟩)).setCell ⟨w.heap.size + 1,2,none⟩ (.int .i64 0)).setCell ⟨w.heap.size + 1,3,none⟩ (.int .i64 0)) = Wf
   obtain ⟨_,hw4,d0,d1,d2,d3⟩:=put4 (w.heap.size + 1) (w3) _ _ _ _ Wf s0 s1 s2 s3 hWf
   clear hWf
   exact bodyPost_ret (v:=.tuple #[.agg #[.int .i64 0,.string ⟨#[]⟩,.int .i64 0,.int .i64 0],.int .i64 0,.bool false]) (by simp [results,Tryz.results31,go_sem,d0,d1,d2,d3]) rfl ⟨by rw [HR.out]; rfl,hw4 _ _ (Nat.le_succ _) (hb.trans (hb3.mono (by omega)))⟩
  | some x =>
   obtain ⟨kd,tx,nu,en⟩:=x
   rw [hr] at cN
   change Calls Tryz.prog 56 _ _ (fun e w' => e = .returned (.tuple #[tokV kd ⟨tx.toArray⟩ nu k,.int .i64 en,.bool true]) ∧ _) at cN
   have HR:=Lib.hid hr
   clear hr
   refine cN.mono ?_
   rintro e w3 ⟨rfl,hb3'⟩
   have hb3 : Below W.heap.size W w3:=⟨hb3'.os,hb3'.tape,hb3'.output,hb3'.size,hb3'.block⟩
   obtain ⟨_,s0,s1,s2,s3,sf⟩:=later4 hz hb3 c8 t0 t1 t2 t3 tf
   go_wp2
   generalize hWf : (((((w3).setCell ⟨w.heap.size + 1,0,none⟩ (.int .i64 kd)).setCell ⟨w.heap.size + 1,1,none⟩ (.string ⟨tx.toArray⟩)).setCell ⟨w.heap.size + 1,2,none⟩ (.int .i64 nu)).setCell ⟨w.heap.size + 1,3,none⟩ (.int .i64 k)) = Wf
   obtain ⟨_,hw4,d0,d1,d2,d3⟩:=put4 (w.heap.size + 1) (w3) _ _ _ _ Wf s0 s1 s2 s3 hWf
   clear hWf
   exact bodyPost_ret (v:=.tuple #[.agg #[.int .i64 kd,.string ⟨tx.toArray⟩,.int .i64 nu,.int .i64 k],.int .i64 en,.bool true]) (by simp [results,Tryz.results31,go_sem,d0,d1,d2,d3]) rfl ⟨by rw [HR.out]; rfl,hw4 _ _ (Nat.le_succ _) (hb.trans (hb3.mono (by omega)))⟩
set_option maxRecDepth 20000 in
set_option maxHeartbeats 2000000 in
theorem token_mark (a : AB) (B : Nat) (w : World) (hA : Alpha a B w) (hG : Gl w) (s : ByteArray) (hs : s.size ≤ 65536) (k : Nat) (hk : k < s.size) (hf : firstP s[k] = false) (hd : digitP s[k] = false) (hq : quoteP s[k] = false) :
    Calls Tryz.prog 31 #[a.rd s,.int .i64 k] w fun e w' => e = .returned (tokVal k (markL s.data.toList k)) ∧ Below w.heap.size w w':=by
  have eg2 : ∀ args w,(callFunc a.g2 args).run Tryz.prog w = .ok (.enter a.g2 args) w:=hA.e2
  have eg4 : ∀ args w,(callFunc a.g4 args).run Tryz.prog w = .ok (.enter a.g4 args) w:=hA.e4
  have eg5 : ∀ args w,(callFunc a.g5 args).run Tryz.prog w = .ok (.enter a.g5 args) w:=hA.e5
  go_enter Tryz.func31,Tryz.ntmps31
  go_wp2_with fail
  obtain ⟨W,hWq,hA',hb,hz,⟨c0,c1,c2,c3,c4,c5,c6,c7,c8⟩,⟨t0,t1,t2,t3⟩,tf⟩:=boxRd2 a s B w hA
  have hG' : Gl W:=hG.later hb
  rw [hWq]
  clear hWq hA hG
  have cf0 : Calls Tryz.prog a.g2 (#[.int .u8 (s[k]).toNat] ++ a.l2) (W) _:=hA'.first (W) s[k] (Same.refl _ _)
  rw [hf] at cf0
  go_wp2_with fail
  refine cf0.mono ?_
  rintro e w' ⟨rfl,q0,rfl⟩
  have cf1 : Calls Tryz.prog a.g4 (#[.int .u8 (s[k]).toNat] ++ a.l4) (W.drewN q0) _:=hA'.digit (W.drewN q0) s[k] ((Same.refl _ _).drewN _)
  rw [hd] at cf1
  go_wp2_with fail
  refine cf1.mono ?_
  rintro e w' ⟨rfl,q1,rfl⟩
  have cf2 : Calls Tryz.prog a.g5 (#[.int .u8 (s[k]).toNat] ++ a.l5) (W.drewN (q0 + q1)) _:=hA'.quote (W.drewN (q0 + q1)) s[k] ((Same.refl _ _).drewN _)
  rw [hq] at cf2
  go_wp2_with fail
  refine cf2.mono ?_
  rintro e w' ⟨rfl,q2,rfl⟩
  go_wp2_with fail
  have cN:=mark_all a B (W.drewN (q0 + q1 + q2)) (hA'.later ((Same.refl _ _).drewN _)) s hs k hk
  cases hr : markL s.data.toList k with
  | none =>
   rw [hr] at cN
   change Calls Tryz.prog 57 _ _ (fun e w' => e = .returned noTok ∧ _) at cN
   have HR:=Lib.hid hr
   clear hr
   refine cN.mono ?_
   rintro e w3 ⟨rfl,hb3'⟩
   have hb3 : Below W.heap.size W w3:=⟨hb3'.os,hb3'.tape,hb3'.output,hb3'.size,hb3'.block⟩
   obtain ⟨_,s0,s1,s2,s3,sf⟩:=later4 hz hb3 c8 t0 t1 t2 t3 tf
   go_wp2
   generalize hWf : (((((w3).setCell ⟨w.heap.size + 1,0,none⟩ (.int .i64 0)).setCell ⟨w.heap.size + 1,1,none⟩ (.string ⟨#[]⟩)).setCell ⟨w.heap.size + 1,2,none⟩ (.int .i64 0)).setCell ⟨w.heap.size + 1,3,none⟩ (.int .i64 0)) = Wf
   obtain ⟨_,hw4,d0,d1,d2,d3⟩:=put4 (w.heap.size + 1) (w3) _ _ _ _ Wf s0 s1 s2 s3 hWf
   clear hWf
   exact bodyPost_ret (v:=.tuple #[.agg #[.int .i64 0,.string ⟨#[]⟩,.int .i64 0,.int .i64 0],.int .i64 0,.bool false]) (by simp [results,Tryz.results31,go_sem,d0,d1,d2,d3]) rfl ⟨by rw [HR.out]; rfl,hw4 _ _ (Nat.le_succ _) (hb.trans (hb3.mono (by omega)))⟩
  | some x =>
   obtain ⟨kd,tx,nu,en⟩:=x
   rw [hr] at cN
   change Calls Tryz.prog 57 _ _ (fun e w' => e = .returned (.tuple #[tokV kd ⟨tx.toArray⟩ nu k,.int .i64 en,.bool true]) ∧ _) at cN
   have HR:=Lib.hid hr
   clear hr
   refine cN.mono ?_
   rintro e w3 ⟨rfl,hb3'⟩
   have hb3 : Below W.heap.size W w3:=⟨hb3'.os,hb3'.tape,hb3'.output,hb3'.size,hb3'.block⟩
   obtain ⟨_,s0,s1,s2,s3,sf⟩:=later4 hz hb3 c8 t0 t1 t2 t3 tf
   go_wp2
   generalize hWf : (((((w3).setCell ⟨w.heap.size + 1,0,none⟩ (.int .i64 kd)).setCell ⟨w.heap.size + 1,1,none⟩ (.string ⟨tx.toArray⟩)).setCell ⟨w.heap.size + 1,2,none⟩ (.int .i64 nu)).setCell ⟨w.heap.size + 1,3,none⟩ (.int .i64 k)) = Wf
   obtain ⟨_,hw4,d0,d1,d2,d3⟩:=put4 (w.heap.size + 1) (w3) _ _ _ _ Wf s0 s1 s2 s3 hWf
   clear hWf
   exact bodyPost_ret (v:=.tuple #[.agg #[.int .i64 kd,.string ⟨tx.toArray⟩,.int .i64 nu,.int .i64 k],.int .i64 en,.bool true]) (by simp [results,Tryz.results31,go_sem,d0,d1,d2,d3]) rfl ⟨by rw [HR.out]; rfl,hw4 _ _ (Nat.le_succ _) (hb.trans (hb3.mono (by omega)))⟩
set_option maxRecDepth 20000 in
theorem token_all (a : AB) (B : Nat) (w : World) (hA : Alpha a B w) (hG : Gl w) (s : ByteArray) (hs : s.size ≤ 65536) (k : Nat) (hk : k < s.size) :
    Calls Tryz.prog 31 #[a.rd s,.int .i64 k] w fun e w' => e = .returned (tokVal k (tokL s.data.toList k)) ∧ Below w.heap.size w w':=by
  unfold tokL
  rw [atP_lt hk,atP_lt hk,atP_lt hk]
  cases hf : firstP s[k]
  · cases hd : digitP s[k]
    · cases hq : quoteP s[k]
      · exact token_mark a B w hA hG s hs k hk hf hd hq
      · exact token_text a B w hA hG s hs k hk hf hd hq
    · exact token_num a B w hA hG s hs k hk hf hd
  · exact token_name a B w hA hG s hs k hk hf
end Go.Proofs.YtnkphlkjhgngkaaGreatDoor

namespace Go.Proofs.YtnkphlkjhgngkaaGreatDoor
open Go.RowKit
/-- A token: kind, text, number, place. -/
abbrev TkA:=Int × List UInt8 × Int × Nat
def tkCells (t : TkA) : List Value:=[.int .i64 t.1,.string ⟨t.2.1.toArray⟩,.int .i64 t.2.2.1,.int .i64 t.2.2.2]
def tksCells (ts : List TkA) : List Value:=ts.flatMap tkCells
def scanF (l : List UInt8) : Nat → Nat → List TkA → List TkA × Nat × Int
  | 0,_,acc => (acc,0,0)
  | f + 1,a,acc => if a < l.length then
      (if acc.length = 20000 then ([],a,4) else match tokL l a with
        | none => ([],a,3)
        | some (kd,t,n,e) => scanF l f (skipTo l e) (acc ++ [(kd,t,n,a)]))
    else (acc,0,0)
def scanRes (l : List UInt8) : List TkA × Nat × Int:=if 65536 < l.length then ([],0,13) else scanF l (l.length + 1) (skipTo l 0) []
set_option maxRecDepth 20000 in
theorem tksCells_length (ts : List TkA) : (tksCells ts).length = ts.length * 4:=by
 induction ts with
 | nil => rfl
 | cons t r ih => simp [tksCells,tkCells] at ih ⊢; omega
set_option maxRecDepth 20000 in
theorem first_inner : ∀ c : UInt8,firstP c = true → innerP c = true:=byte_all (by decide +kernel)
set_option maxRecDepth 20000 in
theorem endOf_gt {p : UInt8 → Bool} {l : List UInt8} {k : Nat} (h : atP p l k = true) : k < endOf p l k:=by
 have:=endOf_yes h
 have:=endOf_ge p l (k + 1)
 omega
set_option maxRecDepth 20000 in
theorem at_mono {p q : UInt8 → Bool} (hpq : ∀ c,p c = true → q c = true) {l : List UInt8} {k : Nat} (h : atP p l k = true) : atP q l k = true:=by
 unfold atP at h ⊢
 cases hk : l[k]? with
 | none => rw [hk] at h; cases h
 | some c => rw [hk] at h; exact hpq c h
set_option maxRecDepth 20000 in
theorem strF_len : ∀ (f : Nat) (l t : List UInt8) (n : Nat),strF f l = some (t,n) → 1 ≤ n ∧ n ≤ l.length:=by
 intro f
 induction f with
 | zero => intro l t n h; cases h
 | succ f ih =>
  intro l t n h
  match l with
  | [] => cases h
  | c :: r =>
   simp only [strF] at h
   split at h
   · cases h; simp
   · split at h
     · cases hs : strF f r with
       | none => rw [hs] at h; cases h
       | some x =>
        obtain ⟨t',n'⟩:=x
        rw [hs] at h
        cases h
        have:=ih r t' n' hs
        simp; omega
     · split at h
       · rename_i b m he
         have hm:=escL_len _ _ _ he
         cases hs : strF f ((c :: r).drop m) with
         | none => rw [hs] at h; cases h
         | some x =>
          obtain ⟨t',n'⟩:=x
          rw [hs] at h
          cases h
          have:=ih _ t' n' hs
          rw [List.length_drop] at this
          omega
       · cases h
set_option maxRecDepth 20000 in
theorem tokL_end {l : List UInt8} {k : Nat} {kd : Int} {t : List UInt8} {n : Int} {e : Nat} (hk : k < l.length) (h : tokL l k = some (kd,t,n,e)) : k < e ∧ e ≤ l.length:=by
 unfold tokL at h
 split at h
 · rename_i hf
   unfold nameL at h
   split at h
   · cases h
   · cases h
     exact ⟨endOf_gt (at_mono first_inner hf),endOf_le _ _ _ (by omega)⟩
 · split at h
   · rename_i hd
     unfold numL at h
     split at h
     · cases h
     · split at h
       · cases h
       · split at h
         · cases h
         · cases h
           exact ⟨endOf_gt hd,endOf_le _ _ _ (by omega)⟩
   · split at h
     · unfold textL at h
       split at h
       · rename_i t' e' hr
         cases h
         unfold textRes at hr
         split at hr
         · rename_i t2 n2 hs
           split at hr
           · cases hr
             have:=strF_len _ _ _ _ hs
             rw [List.length_drop] at this
             omega
           · cases hr
         · cases hr
       · cases h
     · unfold markL at h
       split at h
       · cases h; omega
       · split at h
         · cases h; omega
         · cases h
set_option maxRecDepth 20000 in
theorem scanF_end {l : List UInt8} {f a : Nat} {acc : List TkA} (hf : 0 < f) (h : ¬ a < l.length) : scanF l f a acc = (acc,0,0):=by
 match f,hf with
 | f + 1,_ => simp only [scanF]; rw [if_neg h]
set_option maxRecDepth 20000 in
theorem scanF_large {l : List UInt8} {f a : Nat} {acc : List TkA} (hf : 0 < f) (h : a < l.length) (hl : acc.length = 20000) : scanF l f a acc = ([],a,4):=by
 match f,hf with
 | f + 1,_ => simp only [scanF]; rw [if_pos h,if_pos hl]
set_option maxRecDepth 20000 in
theorem scanF_fault {l : List UInt8} {f a : Nat} {acc : List TkA} (hf : 0 < f) (h : a < l.length) (hl : ¬ acc.length = 20000) (ht : tokL l a = none) : scanF l f a acc = ([],a,3):=by
 match f,hf with
 | f + 1,_ => simp only [scanF]; rw [if_pos h,if_neg hl,ht]
set_option maxRecDepth 20000 in
theorem scanF_step {l : List UInt8} {f a : Nat} {acc : List TkA} {kd : Int} {t : List UInt8} {n : Int} {e : Nat} (h : a < l.length) (hl : ¬ acc.length = 20000) (ht : tokL l a = some (kd,t,n,e)) : scanF l (f + 1) a acc = scanF l f (skipTo l e) (acc ++ [(kd,t,n,a)]):=by
 simp only [scanF]; rw [if_pos h,if_neg hl,ht]
end Go.Proofs.YtnkphlkjhgngkaaGreatDoor
