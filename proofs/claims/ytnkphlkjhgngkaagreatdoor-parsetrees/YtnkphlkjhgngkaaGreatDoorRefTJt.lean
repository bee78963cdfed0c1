/- The document's strings. -/
import Derived.Test.YtnkphlkjhgngkaaGreatDoorRefMJt
import Derived.Deep.RegionHeld3
import Derived.Deep.AppendLies
import Derived.Deep.DrawnRows
import Derived.Laws.IdiomStrings
namespace Go.Proofs.YtnkphlkjhgngkaaGreatDoor
open Go.RowKit
theorem Tryz.info5 : (Tryz.prog.info? 5).map (fun i => (i.zero,i.size,i.bytes)) = some (some (.int .u8 0),1,1):=by kernel_rfl
theorem beqT {c d : UInt8} {n : Int} (hn : (d.toNat : Int) = n) (h : c = d) : ((c.toNat : Int) == n) = true:=by
 subst h; rw [hn]; exact beq_self_eq_true n
set_option maxRecDepth 20000 in
theorem run_at (s : ByteArray) (j : Nat) (h : j < s.size) (z : Int) (hz : z = j) (W : World) : (Instr.index 9 (.string s) (.int .i64 z)).run Tryz.prog W = .ok (.int .u8 s[j].toNat) W:=by
 subst hz
 rw [run_index_string W 9 s .i64 (j : Int) Tryz.underlying9,dif_pos (by omega)]
 simp only [Int.toNat_natCast]
set_option maxRecDepth 20000 in
theorem wrap_id (z : Int) (h : 0 ≤ z ∧ z ≤ 100000) : IntKind.i64.wrap z = z:=by
 have h1 : z % (2 ^ 64 : Int) = z:=by omega
 show (if (true && decide (z % (2 ^ 64 : Int) ≥ (2 ^ 63 : Int))) = true then z % (2 ^ 64 : Int) - (2 ^ 64 : Int) else z % (2 ^ 64 : Int)) = z
 simp only [h1]
 rw [if_neg (by simp; omega)]
set_option maxRecDepth 20000 in
theorem wrap64_id (z : Int) (h : 0 ≤ z ∧ z ≤ 100000) : wrap64 z = z:=by unfold wrap64; omega
set_option maxRecDepth 20000 in
theorem wrap8_id (z : Int) (h : 0 ≤ z ∧ z ≤ 255) : IntKind.u8.wrap z = z:=by
 have h1 : z % (2 ^ 8 : Int) = z:=by omega
 show (if (false && decide (z % (2 ^ 8 : Int) ≥ (2 ^ 7 : Int))) = true then z % (2 ^ 8 : Int) - (2 ^ 8 : Int) else z % (2 ^ 8 : Int)) = z
 rw [Bool.false_and,if_neg (by decide),h1]
set_option maxRecDepth 20000 in
theorem hexByte (u v : Nat) (hu : u ≤ 15) (hv : v ≤ 15) : IntKind.u8.wrap (IntKind.i64.wrap (IntKind.i64.wrap ((u : Int) * 16) + (v : Int))) = ((UInt8.ofNat (u * 16 + v)).toNat : Int):=by
 rw [wrap_id ((u : Int) * 16) (by omega),wrap_id _ (by omega),wrap8_id _ (by omega),UInt8.toNat_ofNat']
 omega
set_option maxRecDepth 20000 in
theorem run_at_a1 (s : ByteArray) (i : Nat) (h : i + 1 + 1 < s.size) (_ : s.size ≤ 65536) (W : World) : (Instr.index 9 (.string s) (.int .i64 ((i : Int) + 1 + 1))).run Tryz.prog W = .ok (.int .u8 s[i + 1 + 1].toNat) W:=run_at s (i + 1 + 1) h _ (by omega) W
set_option maxRecDepth 20000 in
theorem run_at_b1 (s : ByteArray) (i : Nat) (h : i + 1 + 1 < s.size) (hs : s.size ≤ 65536) (W : World) : (Instr.index 9 (.string s) (.int .i64 (IntKind.i64.wrap ((i : Int) + 1 + 1)))).run Tryz.prog W = .ok (.int .u8 s[i + 1 + 1].toNat) W:=run_at s (i + 1 + 1) h _ (by rw [wrap_id _ (by omega)]; omega) W
set_option maxRecDepth 20000 in
theorem run_at_c1 (s : ByteArray) (i : Nat) (h : i + 1 + 1 < s.size) (hs : s.size ≤ 65536) (W : World) : (Instr.index 9 (.string s) (.int .i64 (wrap64 ((i : Int) + 1 + 1)))).run Tryz.prog W = .ok (.int .u8 s[i + 1 + 1].toNat) W:=run_at s (i + 1 + 1) h _ (by rw [wrap64_id _ (by omega)]; omega) W
set_option maxRecDepth 20000 in
theorem run_at_a2 (s : ByteArray) (i : Nat) (h : i + 1 + 2 < s.size) (_ : s.size ≤ 65536) (W : World) : (Instr.index 9 (.string s) (.int .i64 ((i : Int) + 1 + 2))).run Tryz.prog W = .ok (.int .u8 s[i + 1 + 2].toNat) W:=run_at s (i + 1 + 2) h _ (by omega) W
set_option maxRecDepth 20000 in
theorem run_at_b2 (s : ByteArray) (i : Nat) (h : i + 1 + 2 < s.size) (hs : s.size ≤ 65536) (W : World) : (Instr.index 9 (.string s) (.int .i64 (IntKind.i64.wrap ((i : Int) + 1 + 2)))).run Tryz.prog W = .ok (.int .u8 s[i + 1 + 2].toNat) W:=run_at s (i + 1 + 2) h _ (by rw [wrap_id _ (by omega)]; omega) W
set_option maxRecDepth 20000 in
theorem run_at_c2 (s : ByteArray) (i : Nat) (h : i + 1 + 2 < s.size) (hs : s.size ≤ 65536) (W : World) : (Instr.index 9 (.string s) (.int .i64 (wrap64 ((i : Int) + 1 + 2)))).run Tryz.prog W = .ok (.int .u8 s[i + 1 + 2].toNat) W:=run_at s (i + 1 + 2) h _ (by rw [wrap64_id _ (by omega)]; omega) W
set_option maxRecDepth 20000 in
set_option maxHeartbeats 4000000 in
theorem strR_any (s : ByteArray) (hs : s.size ≤ 65536) (k : Nat) (hk : k < s.size) (w : World) : Calls Tryz.prog 71 #[.string s,.int .i64 k] w fun e w' => e = .returned (strRV (textRes s.data.toList k)) ∧ Below w.heap.size w w':=by
 go_enter Tryz.func71,Tryz.ntmps71
 go_wp2_with fail
 have hown0 : (w.alloc (.cells #[] 5)).ownsRow w.heap.size 5 1 (.slice (some ⟨w.heap.size,0,none⟩) 0 0) 0 (Lib.byteCells []) :=
   ⟨rfl,.inr ⟨w.heap.size,0,#[],rfl,Nat.le_refl _,heap_alloc_new w _,Nat.le_refl _,by unfold maxLen; decide,rfl,rfl⟩⟩
 have hb0 : Below w.heap.size w (w.alloc (.cells #[] 5)):=(Below.refl _ _).alloc (Nat.le_refl _) _
 go_loopw [6,7] (fun v x wr => ∃ (i : Nat) (out : List UInt8) (g cv : Nat),i ≤ s.size ∧ x = .int .i64 i ∧ v = .slice (some ⟨g,0,none⟩) out.length cv ∧ wr.ownsRow w.heap.size 5 1 (.slice (some ⟨g,0,none⟩) out.length cv) out.length (Lib.byteCells out) ∧ Below w.heap.size w wr ∧ out.length ≤ i ∧ Hid (StrTo s.data.toList k i out)) (fun _ x _ => s.size - (intOf x).toNat)
 case atStart => exact ⟨k + 1,[],w.heap.size,0,hk,by go_num,rfl,hown0,hb0,Nat.zero_le _,StrTo.start _ _⟩
 case round =>
  obtain ⟨i,out,g,cv,hi,rfl,rfl,hown,hbr,hol,HS⟩:=hrel
  clear hown0 hb0
  have hzr:=hbr.size
  by_cases hlt : i < s.size
  · have hb256:=(s[i]).toNat_lt
    by_cases h34 : s[i] = 34
    · have e34 : ((s[i].toNat : Int) == 34) = true:=beqT (d:=34) rfl h34
      by_cases hl : 1024 < out.length
      · have hl' : decide (1024 < (out.length : Int)) = true:=by simp; omega
        have HX:=Lib.hid (HS.out.long hl)
        clear h34 hl
        go_wp2
        go_ret2
        exact ⟨by rw [HX.out]; rfl,hbr⟩
      · have hl' : decide (1024 < (out.length : Int)) = false:=by simp; omega
        have HX:=Lib.hid (HS.out.shut hlt h34 hl)
        have hcv : (convert 105 9 (.slice (some ⟨g,0,none⟩) out.length cv)).run Tryz.prog wr = .ok (.string ⟨out.toArray⟩) wr :=
          run_convert_bytes_back wr 105 9 5 ⟨g,0,none⟩ cv _ Tryz.underlying105 Tryz.underlying5 Tryz.underlying9 (fun j hj => hown.cells (g:=g) rfl j _ (by simp [Lib.byteCells,List.getElem?_eq_getElem hj]))
        clear h34 hl hown
        go_wp2
        go_ret2
        exact ⟨by rw [HX.out]; simp only [strRV]; go_num,hbr⟩
    have e34 : ((s[i].toNat : Int) == 34) = false:=beqF (d:=34) rfl h34
    by_cases h10 : s[i] = 10
    · have e10 : ((s[i].toNat : Int) == 10) = true:=beqT (d:=10) rfl h10
      have HX:=Lib.hid (HS.out.nl hlt h10)
      clear h34 h10
      go_wp2
      go_ret2
      exact ⟨by rw [HX.out]; rfl,hbr⟩
    have e10 : ((s[i].toNat : Int) == 10) = false:=beqF (d:=10) rfl h10
    by_cases h92 : s[i] = 92
    · have e92 : ((s[i].toNat : Int) != 92) = false:=by rw [h92]; rfl
      by_cases hi1 : i + 1 = s.size
      · have hi1' : (((i : Int) + 1) == (s.size : Int)) = true:=by rw [← hi1]; simp
        have HX:=Lib.hid (HS.out.short hlt h92 hi1)
        clear h34 h10 h92 hi1
        go_wp2
        go_ret2
        exact ⟨by rw [HX.out]; rfl,hbr⟩
      have hi1' : (((i : Int) + 1) == (s.size : Int)) = false:=by rw [beq_eq_false_iff_ne]; omega
      have hlt1 : i + 1 < s.size:=by omega
      have hd256:=(s[i + 1]).toNat_lt
      by_cases hn : s[i + 1] = 110
      · have en : ((s[i + 1].toNat : Int) == 110) = true:=beqT (d:=110) rfl hn
        have HN : Hid (StrTo s.data.toList k (i + 2) (out ++ [10])):=HS.out.n hlt hlt1 h92 hn
        obtain ⟨i0,hi0,hz0,hz1',hz2⟩:=info_parts Tryz.info5
        have hown2:=hown.alloc (.cells #[.int .u8 (10)] 5)
        have hltR:=hown2.lt
        have hb2 : Below w.heap.size w (wr.alloc (.cells #[.int .u8 (10)] 5)):=hbr.alloc hzr _
        clear hown
        go_wp2_with (at_builtin; refine wpList_append_own _ rfl _ _ 105 rfl w.heap.size 5 i0 _ 1 1 Tryz.underlying105 hi0 hz0 hz1' hz2 rfl (by decide) _ _ _ rfl hown2 ⟨wr.heap.size,0,none⟩ 1 1 [.int .u8 (10)] rfl rfl ?c1 ?c2 ?c3 ?c4 ?c5 ?_)
        case c1 =>
         intro j u hj
         match j,hj with
         | 0,hj => simp at hj; subst hj; simp [Addr.add]
        case c2 => intro u hu; simp at hu; subst hu; rfl
        case c3 => unfold maxLen; omega
        case c4 => omega
        case c5 => simp; omega
        intro v5 w5 hown5 hgr5 _
        have hb5 : Below w.heap.size w w5:=hb2.grown hgr5 (by simp; omega) (fun k hk => (hltR k hk).1)
        have hown6 : w5.ownsRow w.heap.size 5 1 v5 (out ++ [10]).length (Lib.byteCells (out ++ [10])):=by
         rw [← byteCells_append,List.length_append]; exact hown5
        obtain ⟨g6,cap6,hv6,_,_⟩:=hown6.form (by simp)
        subst hv6
        clear hown5 hown2 hgr5 hltR hb2 hi0 hz0 hz1' hz2
        go_wp2
        go_roundw
        case rel => exact ⟨i + 2,out ++ [10],g6,cap6,by omega,by go_num,by simp,by simpa using hown6,hb5,by simp; omega,HN⟩
        case measure => simp [intOf]; omega
      have en : ((s[i + 1].toNat : Int) == 110) = false:=beqF (d:=110) rfl hn
      by_cases ht : s[i + 1] = 116
      · have et : ((s[i + 1].toNat : Int) == 116) = true:=beqT (d:=116) rfl ht
        have HN : Hid (StrTo s.data.toList k (i + 2) (out ++ [9])):=HS.out.t hlt hlt1 h92 ht
        obtain ⟨i0,hi0,hz0,hz1',hz2⟩:=info_parts Tryz.info5
        have hown2:=hown.alloc (.cells #[.int .u8 (9)] 5)
        have hltR:=hown2.lt
        have hb2 : Below w.heap.size w (wr.alloc (.cells #[.int .u8 (9)] 5)):=hbr.alloc hzr _
        clear hown
        go_wp2_with (at_builtin; refine wpList_append_own _ rfl _ _ 105 rfl w.heap.size 5 i0 _ 1 1 Tryz.underlying105 hi0 hz0 hz1' hz2 rfl (by decide) _ _ _ rfl hown2 ⟨wr.heap.size,0,none⟩ 1 1 [.int .u8 (9)] rfl rfl ?c1 ?c2 ?c3 ?c4 ?c5 ?_)
        case c1 =>
         intro j u hj
         match j,hj with
         | 0,hj => simp at hj; subst hj; simp [Addr.add]
        case c2 => intro u hu; simp at hu; subst hu; rfl
        case c3 => unfold maxLen; omega
        case c4 => omega
        case c5 => simp; omega
        intro v5 w5 hown5 hgr5 _
        have hb5 : Below w.heap.size w w5:=hb2.grown hgr5 (by simp; omega) (fun k hk => (hltR k hk).1)
        have hown6 : w5.ownsRow w.heap.size 5 1 v5 (out ++ [9]).length (Lib.byteCells (out ++ [9])):=by
         rw [← byteCells_append,List.length_append]; exact hown5
        obtain ⟨g6,cap6,hv6,_,_⟩:=hown6.form (by simp)
        subst hv6
        clear hown5 hown2 hgr5 hltR hb2 hi0 hz0 hz1' hz2
        go_wp2
        go_roundw
        case rel => exact ⟨i + 2,out ++ [9],g6,cap6,by omega,by go_num,by simp,by simpa using hown6,hb5,by simp; omega,HN⟩
        case measure => simp [intOf]; omega
      have et : ((s[i + 1].toNat : Int) == 116) = false:=beqF (d:=116) rfl ht
      by_cases hq : s[i + 1] = 34
      · have eq : ((s[i + 1].toNat : Int) == 34) = true:=beqT (d:=34) rfl hq
        have HN : Hid (StrTo s.data.toList k (i + 2) (out ++ [s[i + 1]])):=HS.out.self hlt hlt1 h92 (Or.inl hq)
        obtain ⟨i0,hi0,hz0,hz1',hz2⟩:=info_parts Tryz.info5
        have hown2:=hown.alloc (.cells #[.int .u8 (s[i + 1].toNat)] 5)
        have hltR:=hown2.lt
        have hb2 : Below w.heap.size w (wr.alloc (.cells #[.int .u8 (s[i + 1].toNat)] 5)):=hbr.alloc hzr _
        clear hown hq
        go_wp2_with (at_builtin; refine wpList_append_own _ rfl _ _ 105 rfl w.heap.size 5 i0 _ 1 1 Tryz.underlying105 hi0 hz0 hz1' hz2 rfl (by decide) _ _ _ rfl hown2 ⟨wr.heap.size,0,none⟩ 1 1 [.int .u8 (s[i + 1].toNat)] rfl rfl ?c1 ?c2 ?c3 ?c4 ?c5 ?_)
        case c1 =>
         intro j u hj
         match j,hj with
         | 0,hj => simp at hj; subst hj; simp [Addr.add]
        case c2 => intro u hu; simp at hu; subst hu; rfl
        case c3 => unfold maxLen; omega
        case c4 => omega
        case c5 => simp; omega
        intro v5 w5 hown5 hgr5 _
        have hb5 : Below w.heap.size w w5:=hb2.grown hgr5 (by simp; omega) (fun k hk => (hltR k hk).1)
        have hown6 : w5.ownsRow w.heap.size 5 1 v5 (out ++ [s[i + 1]]).length (Lib.byteCells (out ++ [s[i + 1]])):=by
         rw [← byteCells_append,List.length_append]; exact hown5
        obtain ⟨g6,cap6,hv6,_,_⟩:=hown6.form (by simp)
        subst hv6
        clear hown5 hown2 hgr5 hltR hb2 hi0 hz0 hz1' hz2
        go_wp2
        go_roundw
        case rel => exact ⟨i + 2,out ++ [s[i + 1]],g6,cap6,by omega,by go_num,by simp,by simpa using hown6,hb5,by simp; omega,HN⟩
        case measure => simp [intOf]; omega
      have eq : ((s[i + 1].toNat : Int) == 34) = false:=beqF (d:=34) rfl hq
      by_cases hbs : s[i + 1] = 92
      · have ebs : ((s[i + 1].toNat : Int) == 92) = true:=beqT (d:=92) rfl hbs
        have HN : Hid (StrTo s.data.toList k (i + 2) (out ++ [s[i + 1]])):=HS.out.self hlt hlt1 h92 (Or.inr hbs)
        obtain ⟨i0,hi0,hz0,hz1',hz2⟩:=info_parts Tryz.info5
        have hown2:=hown.alloc (.cells #[.int .u8 (s[i + 1].toNat)] 5)
        have hltR:=hown2.lt
        have hb2 : Below w.heap.size w (wr.alloc (.cells #[.int .u8 (s[i + 1].toNat)] 5)):=hbr.alloc hzr _
        clear hown hbs
        go_wp2_with (at_builtin; refine wpList_append_own _ rfl _ _ 105 rfl w.heap.size 5 i0 _ 1 1 Tryz.underlying105 hi0 hz0 hz1' hz2 rfl (by decide) _ _ _ rfl hown2 ⟨wr.heap.size,0,none⟩ 1 1 [.int .u8 (s[i + 1].toNat)] rfl rfl ?c1 ?c2 ?c3 ?c4 ?c5 ?_)
        case c1 =>
         intro j u hj
         match j,hj with
         | 0,hj => simp at hj; subst hj; simp [Addr.add]
        case c2 => intro u hu; simp at hu; subst hu; rfl
        case c3 => unfold maxLen; omega
        case c4 => omega
        case c5 => simp; omega
        intro v5 w5 hown5 hgr5 _
        have hb5 : Below w.heap.size w w5:=hb2.grown hgr5 (by simp; omega) (fun k hk => (hltR k hk).1)
        have hown6 : w5.ownsRow w.heap.size 5 1 v5 (out ++ [s[i + 1]]).length (Lib.byteCells (out ++ [s[i + 1]])):=by
         rw [← byteCells_append,List.length_append]; exact hown5
        obtain ⟨g6,cap6,hv6,_,_⟩:=hown6.form (by simp)
        subst hv6
        clear hown5 hown2 hgr5 hltR hb2 hi0 hz0 hz1' hz2
        go_wp2
        go_roundw
        case rel => exact ⟨i + 2,out ++ [s[i + 1]],g6,cap6,by omega,by go_num,by simp,by simpa using hown6,hb5,by simp; omega,HN⟩
        case measure => simp [intOf]; omega
      have ebs : ((s[i + 1].toNat : Int) == 92) = false:=beqF (d:=92) rfl hbs
      by_cases hx : s[i + 1] = 120
      · have ex : ((s[i + 1].toNat : Int) == 120) = true:=beqT (d:=120) rfl hx
        clear hn ht hq hbs
        by_cases hsh : s.size ≤ i + 3
        · have HX:=Lib.hid (HS.out.hexShort hlt hlt1 h92 hx hsh)
          have hsh' : decide ((s.size : Int) ≤ (i : Int) + 3) = true:=by simp; omega
          have hsh2 : (s.size : Int) ≤ (i : Int) + 1 + 2:=by omega
          clear h34 h10 h92 hx
          go_wp2
          go_ret2
          exact ⟨by rw [HX.out]; rfl,hbr⟩
        · have hi3 : i + 3 < s.size:=by omega
          have hsh2 : ¬ ((s.size : Int) ≤ (i : Int) + 1 + 2):=by omega
          have hsh3 : decide ((s.size : Int) ≤ (i : Int) + 1 + 2) = false:=by simp; omega
          have cX : ∀ W,Calls Tryz.prog 111 #[.int .u8 s[i + 1 + 1].toNat] W _:=fun W => hexR_any s[i + 1 + 1] W
          have cY : ∀ W,Calls Tryz.prog 111 #[.int .u8 s[i + 1 + 2].toNat] W _:=fun W => hexR_any s[i + 1 + 2] W
          by_cases hx0 : hexI s[i + 2] < 0
          · have HX:=Lib.hid (HS.out.hexNone hlt hlt1 hi3 h92 hx (Or.inl hx0))
            have hX0 : hexI s[i + 1 + 1] < 0:=hx0
            clear h34 h10 h92 hx hx0
            generalize hexI s[i + 1 + 1] = X at *
            have hX1 : decide (X < 0) = true:=by simpa using hX0
            go_wp2_with fail
            refine (cX wr).mono ?_
            rintro e w' ⟨rfl,hw'⟩
            subst hw'
            go_wp2
            go_ret2
            exact ⟨by rw [HX.out]; rfl,hbr⟩
          · by_cases hy0 : hexI s[i + 3] < 0
            · have HX:=Lib.hid (HS.out.hexNone hlt hlt1 hi3 h92 hx (Or.inr hy0))
              have hX0 : ¬ hexI s[i + 1 + 1] < 0:=hx0
              have hY0 : hexI s[i + 1 + 2] < 0:=hy0
              clear h34 h10 h92 hx hx0 hy0
              generalize hexI s[i + 1 + 1] = X at *
              generalize hexI s[i + 1 + 2] = Y at *
              have hX1 : decide (X < 0) = false:=by simpa using hX0
              have hY1 : decide (Y < 0) = true:=by simpa using hY0
              go_wp2_with fail
              refine (cX wr).mono ?_
              rintro e w' ⟨rfl,hw'⟩
              subst hw'
              go_wp2_with fail
              refine (cY w').mono ?_
              rintro e w'' ⟨rfl,hw'⟩
              subst hw'
              go_wp2
              go_ret2
              exact ⟨by rw [HX.out]; rfl,hbr⟩
            · obtain ⟨u,hu,hu2,hu3⟩:=hexI_some (show 0 ≤ hexI s[i + 2] by omega)
              obtain ⟨v,hv,hv2,hv3⟩:=hexI_some (show 0 ≤ hexI s[i + 3] by omega)
              have HN : Hid (StrTo s.data.toList k (i + 4) (out ++ [UInt8.ofNat (u * 16 + v)])):=HS.out.hexSome hlt hlt1 hi3 h92 hx u v hu hv
              have hX2 : hexI s[i + 1 + 1] = u:=hu2
              have hY2 : hexI s[i + 1 + 2] = v:=hv2
              rw [hX2] at cX
              rw [hY2] at cY
              clear h34 h10 h92 hx hx0 hy0 hu hu2 hv hv2 hX2 hY2
              have hX1 : decide ((u : Int) < 0) = false:=by simp
              have hY1 : decide ((v : Int) < 0) = false:=by simp
              go_wp2_with fail
              refine (cX wr).mono ?_
              rintro e w' ⟨rfl,hw'⟩
              subst hw'
              go_wp2_with fail
              refine (cY w').mono ?_
              rintro e w'' ⟨rfl,hw'⟩
              subst hw'
              go_wp2_with fail
              have hx1a:=fun W => run_at_a1 s i (by omega) hs W
              have hy1a:=fun W => run_at_a2 s i (by omega) hs W
              have hx1b:=fun W => run_at_b1 s i (by omega) hs W
              have hy1b:=fun W => run_at_b2 s i (by omega) hs W
              have hx1c:=fun W => run_at_c1 s i (by omega) hs W
              have hy1c:=fun W => run_at_c2 s i (by omega) hs W
              generalize hxe : s[i + 1 + 1] = x at *
              generalize hye : s[i + 1 + 2] = y at *
              have Hx:=Lib.hid hxe
              have Hy:=Lib.hid hye
              clear hX1 hY1 hsh2 hsh3 hxe hye
              obtain ⟨i0,hi0,hz0,hz1,hz2⟩:=info_parts Tryz.info5
              have hown2 : ((w''.alloc (.cells #[.int .u8 (IntKind.u8.wrap (IntKind.i64.wrap (IntKind.i64.wrap ((u : Int) * 16) + (v : Int))))] 5)).drew).ownsRow w.heap.size 5 1 (.slice (some ⟨g,0,none⟩) out.length cv) out.length (Lib.byteCells out):=(hown.alloc _).drew
              have hltR:=hown2.lt
              have hnews : ∀ j uu,([.int .u8 (IntKind.u8.wrap (IntKind.i64.wrap (IntKind.i64.wrap ((u : Int) * 16) + (v : Int))))] : List Value)[j]? = some uu → ((w''.alloc (.cells #[.int .u8 (IntKind.u8.wrap (IntKind.i64.wrap (IntKind.i64.wrap ((u : Int) * 16) + (v : Int))))] 5)).drew).cell? ((⟨w''.heap.size,0,none⟩ : Addr).add j) = some uu:=by
               intro j uu hj
               show (w''.alloc (.cells #[.int .u8 (IntKind.u8.wrap (IntKind.i64.wrap (IntKind.i64.wrap ((u : Int) * 16) + (v : Int))))] 5)).cell? _ = _
               match j,hj with
               | 0,hj => simp at hj; subst hj; simp [Addr.add]
              have hone : ∀ uu ∈ ([.int .u8 (IntKind.u8.wrap (IntKind.i64.wrap (IntKind.i64.wrap ((u : Int) * 16) + (v : Int))))] : List Value),uu.oneCell' = true:=by
               intro uu hu; simp at hu; subst hu; rfl
              have h63 : out.length + 1 ≤ maxLen:=by unfold maxLen; omega
              have hby : (out.length + 1) * 1 ≤ 140737488355328:=by omega
              have hbs : w.heap.size ≤ ((w''.alloc (.cells #[.int .u8 (IntKind.u8.wrap (IntKind.i64.wrap (IntKind.i64.wrap ((u : Int) * 16) + (v : Int))))] 5)).drew).heap.size:=by
               show w.heap.size ≤ (w''.alloc (.cells #[.int .u8 (IntKind.u8.wrap (IntKind.i64.wrap (IntKind.i64.wrap ((u : Int) * 16) + (v : Int))))] 5)).heap.size
               simp; omega
              have hbB : Below w.heap.size w ((w''.alloc (.cells #[.int .u8 (IntKind.u8.wrap (IntKind.i64.wrap (IntKind.i64.wrap ((u : Int) * 16) + (v : Int))))] 5)).drew):=below_drewN (hbr.alloc hzr _) 1
              have HV:=Lib.hid (hexByte u v hu3 hv3)
              clear hown
              go_region_held3 (fun _ => True) (trivial) (first | (go_at_call_of 111 (Value.int IntKind.u8 x.toNat); refine (cX _).mono ?_; rintro e w3 ⟨rfl,rfl⟩) | (go_at_call_of 111 (Value.int IntKind.u8 y.toNat); refine (cY _).mono ?_; rintro e w3 ⟨rfl,rfl⟩) | (refine step_append_lies _ (by rfl) _ _ _ (by rfl) w.heap.size 5 i0 _ 1 1 Tryz.underlying105 hi0 hz0 hz1 hz2 (by rfl) (by omega) _ _ _ (by rfl) hown2 ⟨w''.heap.size,0,none⟩ 1 1 [.int .u8 (IntKind.u8.wrap (IntKind.i64.wrap (IntKind.i64.wrap ((u : Int) * 16) + (v : Int))))] (by rfl) (by rfl) hnews hone (by omega) h63 hby hbs _ rfl ?_; intro gg cap w5 hown5 hgr5 hat hltn))
              all_goals
               have hb5 : Below w.heap.size w w5:=hbB.grown hgr5 hbs (fun k hk => (hltR k hk).1)
               rw [HV.out] at hown5
               have hown6 : w5.ownsRow w.heap.size 5 1 (.slice (some ⟨gg,0,none⟩) (out.length + 1) cap) (out ++ [UInt8.ofNat (u * 16 + v)]).length (Lib.byteCells (out ++ [UInt8.ofNat (u * 16 + v)])):=by
                rw [← byteCells_append,List.length_append]; exact hown5
               clear hown5 hown2 hgr5 hltR hi0 hz0 hz1 hz2 hnews hone hat
               go_wp2
               go_roundw
               case rel => exact ⟨i + 4,out ++ [UInt8.ofNat (u * 16 + v)],gg,cap,by omega,by go_num,by simp,by simpa using hown6,hb5,by simp; omega,HN⟩
               case measure => simp [intOf]; omega
      · have ex : ((s[i + 1].toNat : Int) == 120) = false:=beqF (d:=120) rfl hx
        have HX:=Lib.hid (HS.out.other hlt hlt1 h92 hn ht hq hbs hx)
        clear h34 h10 h92 hn ht hq hbs hx
        go_wp2
        go_ret2
        exact ⟨by rw [HX.out]; rfl,hbr⟩
    · have e92 : ((s[i].toNat : Int) != 92) = true:=bne92 h92
      have HN : Hid (StrTo s.data.toList k (i + 1) (out ++ [s[i]])):=HS.out.plain hlt h34 h10 h92
      obtain ⟨i0,hi0,hz0,hz1',hz2⟩:=info_parts Tryz.info5
      have hown2:=hown.alloc (.cells #[.int .u8 (s[i].toNat)] 5)
      have hltR:=hown2.lt
      have hb2 : Below w.heap.size w (wr.alloc (.cells #[.int .u8 (s[i].toNat)] 5)):=hbr.alloc hzr _
      clear hown
      go_wp2_with (at_builtin; refine wpList_append_own _ rfl _ _ 105 rfl w.heap.size 5 i0 _ 1 1 Tryz.underlying105 hi0 hz0 hz1' hz2 rfl (by decide) _ _ _ rfl hown2 ⟨wr.heap.size,0,none⟩ 1 1 [.int .u8 (s[i].toNat)] rfl rfl ?c1 ?c2 ?c3 ?c4 ?c5 ?_)
      case c1 =>
       intro j u hj
       match j,hj with
       | 0,hj => simp at hj; subst hj; simp [Addr.add]
      case c2 => intro u hu; simp at hu; subst hu; rfl
      case c3 => unfold maxLen; omega
      case c4 => omega
      case c5 => simp; omega
      intro v5 w5 hown5 hgr5 _
      have hb5 : Below w.heap.size w w5:=hb2.grown hgr5 (by simp; omega) (fun k hk => (hltR k hk).1)
      have hown6 : w5.ownsRow w.heap.size 5 1 v5 (out ++ [s[i]]).length (Lib.byteCells (out ++ [s[i]])):=by
       rw [← byteCells_append,List.length_append]; exact hown5
      obtain ⟨g6,cap6,hv6,_,_⟩:=hown6.form (by simp)
      subst hv6
      clear hown5 hown2 hgr5 hltR hb2 hi0 hz0 hz1' hz2
      go_wp2
      go_roundw
      case rel => exact ⟨i + 1,out ++ [s[i]],g6,cap6,by omega,by go_num,by simp,by simpa using hown6,hb5,by simp; omega,HN⟩
      case measure => simp [intOf]; omega
  · have HX:=Lib.hid (HS.out.fin hlt)
    go_wp2
    go_ret2
    exact ⟨by rw [HX.out]; rfl,hbr⟩
end Go.Proofs.YtnkphlkjhgngkaaGreatDoor
