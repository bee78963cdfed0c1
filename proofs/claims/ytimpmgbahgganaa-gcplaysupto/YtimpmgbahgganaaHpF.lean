/- Live: the objects' first words, rising. -/
import Derived.Test.YtimpmgbahgganaaHpE
import Derived.Test.YtimpmgbahgganaaHpS
import Derived.Shelf.SlIterI.Nil
import Derived.Shelf.SortM.Plain
import Derived.Shelf.SortM.SortNone
namespace Go.Proofs.Ytimpmgbahgganaa
open Go.RowKit Go.Maps Go.Sort Go.Shelf

theorem Try.sortsA (m : Nat) : AnyZI.SortsIn Try.prog Try.sortedA_ren Fence.wide m :=
  ⟨fun blk off cap ss W hH hblk hsz => callsIn_wide.2 (AnyM.slices_Sort_int Try.sortA blk off cap ss W hH hblk hsz),
   fun p cap W => callsIn_wide.2 (AnyM.slices_Sort_int_none Try.sortA p cap W)⟩
theorem sorted_live {l : List Nat} (hl : l.Pairwise (· < ·)) : (l.map fun (a : Nat) => (a : Int)).mergeSort (fun x y => decide (x ≤ y)) = l.map fun (a : Nat) => (a : Int) := by
  refine List.mergeSort_of_pairwise ?_
  rw [List.pairwise_map]
  exact hl.imp (fun {a b} h => by simp; omega)
section
variable {Y : Hh} {w : World} {h : Hs} {k : Nat}
theorem hlive_nil (w : World) : Calls Try.prog 22 #[.pointer none] w fun e w' => e = .returned (.slice none 0 0) ∧ w' = w := by
  go_enter Try.func22, Try.ntmps22
  go_wp2
  go_ret
  exact ⟨rfl, rfl⟩
theorem live_keys (I : HInv h) {bo : Nat} {D : DataW Value} (hown : w.ownsMap Try.prog 3 heldR bo k D) (hh : ∀ x : Int, Maps.has D (.int .i64 x) = true ↔ ∃ a : Nat, x = a ∧ (h.ob a).isSome = true) {ss : List Int} (hs : ss.Perm (intKeys D)) :
    ss.mergeSort (fun x y => decide (x ≤ y)) = (liveL h.s.ps).map fun (a : Nat) => (a : Int) := by
  have hc : CollectedI D (fun _ => false) ((liveL h.s.ps).map fun (a : Nat) => (a : Int)) := by
    refine ⟨?_, fun x => ?_⟩
    · refine List.pairwise_map.2 ((live_nodup I).imp fun {a b} hab e => hab ?_)
      omega
    · rw [List.mem_map, hh x]
      simp only [and_true]
      constructor
      · rintro ⟨a, ha, rfl⟩
        obtain ⟨o, ho⟩ := (live_iff I a).1 ha
        exact ⟨a, rfl, by rw [ho]; rfl⟩
      · rintro ⟨a, rfl, ho⟩
        exact ⟨a, (live_iff I a).2 (Option.isSome_iff_exists.1 ho), rfl⟩
  have hp := hc.perm hown (int_keyed Try.underlying3) Try.underlying3 (fun _ => rfl)
  rw [mergeSort_of_perm_i (hs.trans hp.symm)]
  exact sorted_live (live_row I.inv.row).1
set_option maxHeartbeats 1000000 in
theorem hlive_any (L : HLies Y w h k) (I : HInv h) (hk : k ≤ 1000000000) :
    Calls Try.prog 22 #[Y.p] w fun e w' => ∃ v, e = .returned v ∧ w'.ownsRow w.heap.size 3 1 v (liveL h.s.ps).length (addrs (liveL h.s.ps)) ∧ Below w.heap.size w w' := by
  obtain ⟨D, hown, hh, _⟩ := L.map
  have hsz := hown.size_le
  have hbl := hown.lt
  have c2 := L.c2
  have HI := hide (fun (ss : List Int) (hs : ss.Perm (intKeys D)) => live_keys I hown hh hs)
  refine (callsIn_wide (n := 6)).1 ?_
  have hseq : SeqGives Fence.wide 2 Try.prog 62 #[.pointer (some ⟨w.heap.size, 0, none⟩)] encZ (fun ss => ss.Perm (intKeys D)) (Maps.size D) (w.alloc (.cells #[.map (some Y.bo)] 73)) :=
    AnyZI.keys_gives (ρ := Try.keysA_ren) { Try.keysA with } Fence.wide _ trivial rfl (by omega) w.heap.size Y.bo k D _ (by simp) (by simp) (by
      obtain ⟨es, clock, hb, Ft, hs, hD⟩ := hown
      exact ⟨es, clock, (Below.heap_alloc _ _ Y.bo hbl).trans hb, Ft, hs, hD⟩)
  have cK : ∀ mb W, CallsIn Fence.wide 5 Try.prog 44 #[.map mb] W fun e w' => e = .returned (.func (.func 62) #[] #[.pointer (some ⟨W.heap.size, 0, none⟩)]) ∧ w' = W.alloc (.cells #[.map mb] 73) := fun mb W => AnyZI.keys_in Try.keysA Fence.wide 5 trivial rfl mb W
  have cS := AnyZI.sorted_in Try.sortedA Fence.wide 5 trivial trivial trivial trivial rfl (by omega) (Try.sortsA _) (enters_of Try.func61 (by kernel_rfl) rfl) 62 #[.pointer (some ⟨w.heap.size, 0, none⟩)] trivial (enters_of Try.func62 (by kernel_rfl) rfl) _ _ (by unfold maxLen; omega) (by omega) _ hseq
  change CallsIn _ _ Try.prog 43 _ _ _ at cS
  have hfK : Fence.wide.fn 44 := trivial
  have hfS : Fence.wide.fn 43 := trivial
  clear hown hh L I hseq
  refine callsIn_of_wp Try.func22 rfl trivial ?_ rfl
  simp only [Try.ntmps22, List.size_toArray, List.length_cons, List.length_nil, Nat.reduceAdd, Nat.reduceSub, Array.replicate_succ, Array.replicate_zero, List.push_toArray, List.append_toArray, List.nil_append, List.cons_append]
  gi_wp2_with (first
    | (gi_at_call 44; refine (cK _ _).mono ?_; rintro e w' ⟨rfl, rfl⟩)
    | (gi_at_call 43; refine cS.mono ?_; rintro e w' ⟨v, ss, rfl, hS, hrow, hnil, hb⟩))
  go_ret
  have e1 := HI.out ss hS
  refine ⟨v, rfl, ?_, ((Below.refl _ w).alloc (Nat.le_refl _) _).trans (hb.mono (by simp))⟩
  have hl : ss.length = (liveL h.s.ps).length := by
    have := congrArg List.length e1
    rw [List.length_mergeSort, List.length_map] at this
    exact this
  rw [e1, hl] at hrow
  rw [show addrs (liveL h.s.ps) = ((liveL h.s.ps).map fun (a : Nat) => (a : Int)).map encZ by simp [addrs]]
  exact ownsRow_base_a hrow (by simp)
end
end Go.Proofs.Ytimpmgbahgganaa
