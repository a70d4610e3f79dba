import Derived.Test.YtehfhconhcefbaaFlatE
import Derived.Test.YtehfhconhcefbaaFlatF
namespace Go.Proofs.Ytehfhconhcefbaa
open Go Go.RowKit Go.Sort

set_option maxHeartbeats 2000000 in
theorem awake_any (w : World) :
    Calls Try.prog 9 #[] w fun e w' => e = .returned (.bool true) ∧ Below w.heap.size w w' := by
  have e1 : (vone 2147483647).val = .agg #[.int .i64 1, .int .i64 2147483647] := rfl
  have e2 : (vone 1).val = .agg #[.int .i64 1, .int .i64 1] := rfl
  have e3 : (vone (-2147483648)).val = .agg #[.int .i64 1, .int .i64 (-2147483648)] := rfl
  have e4 : (vone 2).val = .agg #[.int .i64 1, .int .i64 2] := rfl
  have e5 : (vone 0).val = .agg #[.int .i64 1, .int .i64 0] := rfl
  have e6 : (addV (vone 2147483647) (vone 1)).val = .agg #[.int .i64 1, .int .i64 (-2147483648)] := rfl
  have e7 : (join (vone 1) (vone 2)).val = .agg #[.int .i64 2, .int .i64 0] := rfl
  have e8 : hgt (vone 0) = 1 := rfl
  have c1 := fun W => Of_any 2147483647 W
  have c2 := fun W => Of_any 1 W
  have c3 := fun W => Of_any (-2147483648) W
  have c4 := fun W => Of_any 2 W
  have c5 := fun W => Of_any 0 W
  have c6 := fun W => Add_any (vone 2147483647) (vone 1) W
  have c7 := fun W => Join_any (vone 1) (vone 2) W
  have c8 := fun W => Height_any (vone 0) W
  have hfd : ∀ W : World, (Instr.field 25 (.agg #[.int .i64 2, .int .i64 0]) 0).run Try.prog W = .ok (.int .i64 2) W := fun _ => by kernel_rfl
  rw [e6, e1, e2] at c6
  rw [e7, e2, e4] at c7
  rw [e5, e8] at c8
  rw [e1] at c1
  rw [e2] at c2
  rw [e3] at c3
  rw [e4] at c4
  rw [e5] at c5
  clear e1 e2 e3 e4 e5 e6 e7 e8
  have H1 := Lib.hid c1
  have H2 := Lib.hid c2
  have H3 := Lib.hid c3
  have H4 := Lib.hid c4
  have H5 := Lib.hid c5
  have H6 := Lib.hid c6
  have H7 := Lib.hid c7
  have H8 := Lib.hid c8
  clear c1 c2 c3 c4 c5 c6 c7 c8
  have HBN : Hid (Below w.heap.size w w) := Below.refl _ _
  go_enter Try.func9, Try.ntmps9
  go_wp2_with (first
    | (go_at_call 20; with_reducible refine (H1.out _).mono ?_; rintro e wn ⟨rfl, hbn⟩; have hbx := HBN.out.trans (hbn.mono HBN.out.size); clear HBN hbn; have HBN := Lib.hid hbx; clear hbx)
    | (go_at_call 20; with_reducible refine (H2.out _).mono ?_; rintro e wn ⟨rfl, hbn⟩; have hbx := HBN.out.trans (hbn.mono HBN.out.size); clear HBN hbn; have HBN := Lib.hid hbx; clear hbx)
    | (go_at_call 20; with_reducible refine (H3.out _).mono ?_; rintro e wn ⟨rfl, hbn⟩; have hbx := HBN.out.trans (hbn.mono HBN.out.size); clear HBN hbn; have HBN := Lib.hid hbx; clear hbx)
    | (go_at_call 20; with_reducible refine (H4.out _).mono ?_; rintro e wn ⟨rfl, hbn⟩; have hbx := HBN.out.trans (hbn.mono HBN.out.size); clear HBN hbn; have HBN := Lib.hid hbx; clear hbx)
    | (go_at_call 20; with_reducible refine (H5.out _).mono ?_; rintro e wn ⟨rfl, hbn⟩; have hbx := HBN.out.trans (hbn.mono HBN.out.size); clear HBN hbn; have HBN := Lib.hid hbx; clear hbx)
    | (go_at_call 26; with_reducible refine (H6.out _).mono ?_; rintro e wn ⟨rfl, hbn⟩; have hbx := HBN.out.trans (hbn.mono HBN.out.size); clear HBN hbn; have HBN := Lib.hid hbx; clear hbx)
    | (go_at_call 14; with_reducible refine (H7.out _).mono ?_; rintro e wn ⟨rfl, hbn⟩; have hbx := HBN.out.trans (hbn.mono HBN.out.size); clear HBN hbn; have HBN := Lib.hid hbx; clear hbx)
    | (go_at_call 22; with_reducible refine (H8.out _).mono ?_; rintro e wn ⟨rfl, hbn⟩; have hbx := HBN.out.trans (hbn.mono HBN.out.size); clear HBN hbn; have HBN := Lib.hid hbx; clear hbx))
  go_ret
  exact ⟨rfl, HBN.out⟩
end Go.Proofs.Ytehfhconhcefbaa
