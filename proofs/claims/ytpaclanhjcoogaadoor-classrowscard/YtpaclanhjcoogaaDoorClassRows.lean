/- Classes' bytes rise; a class's slots fit into its pages, one more would not, or there are as many as may be; no more than a word has bits: the law ClassRows answers true at every input, and its argument reads behind the call as it read before. Condition: the listed table of package class is laid as the program's text lays it (the card ties it). -/
import Derived.Test.YtpaclanhjcoogaaDoorLaidC
import Derived.Test.YtpaclanhjcoogaaDoorClsOk
namespace Go.Proofs.YtpaclanhjcoogaaDoor.classRows
open Go.ChangeShapes Go.WideShapes Go.ChangeAt Go.RowKit

set_option maxHeartbeats 2000000 in
theorem at0 (c : Nat) (hc : c < 256) (hm : (c : Int) % 14 = 0) (w : World) (hok : ClsOk w w) : Calls Tryd.prog 5 #[.int .u8 (c : Int)] w fun e w' => e = .returned (.bool true) ∧ ClsOk w w' := by
  have b0 : Hid ((Cls.bytes 0 : Int) = 128) := hide (by kernel_rfl)
  have p0 : Hid ((Cls.pages 0 : Int) = 1) := hide (by kernel_rfl)
  have s0 : Hid ((Cls.slots 0 : Int) = 64) := hide (by kernel_rfl)
  go_enter Tryd.func5, Tryd.ntmps5
  go_wp2_with (first | (go_at_call 9; refine (csizeOk 0 128 b0.out (by assumption)).mono ?_; rintro e w1 ⟨rfl, hok⟩) | (go_at_call 11; refine (cpagesOk 0 1 p0.out (by assumption)).mono ?_; rintro e w1 ⟨rfl, hok⟩) | (go_at_call 13; refine (cslotsOk 0 64 s0.out (by assumption)).mono ?_; rintro e w1 ⟨rfl, hok⟩) | (go_at_call 15; refine (awakeOk4 (by assumption)).mono ?_; rintro e w1 ⟨rfl, hok⟩))
  go_ret
  exact ⟨rfl, by assumption⟩

set_option maxHeartbeats 2000000 in
theorem at1 (c : Nat) (hc : c < 256) (hm : (c : Int) % 14 = 1) (w : World) (hok : ClsOk w w) : Calls Tryd.prog 5 #[.int .u8 (c : Int)] w fun e w' => e = .returned (.bool true) ∧ ClsOk w w' := by
  have b0 : Hid ((Cls.bytes 1 : Int) = 192) := hide (by kernel_rfl)
  have b1 : Hid ((Cls.bytes 0 : Int) = 128) := hide (by kernel_rfl)
  have p0 : Hid ((Cls.pages 1 : Int) = 1) := hide (by kernel_rfl)
  have s0 : Hid ((Cls.slots 1 : Int) = 42) := hide (by kernel_rfl)
  go_enter Tryd.func5, Tryd.ntmps5
  go_wp2_with (first | (go_at_call 9; refine (csizeOk 0 128 b1.out (by assumption)).mono ?_; rintro e w1 ⟨rfl, hok⟩) | (go_at_call 9; refine (csizeOk 1 192 b0.out (by assumption)).mono ?_; rintro e w1 ⟨rfl, hok⟩) | (go_at_call 11; refine (cpagesOk 1 1 p0.out (by assumption)).mono ?_; rintro e w1 ⟨rfl, hok⟩) | (go_at_call 13; refine (cslotsOk 1 42 s0.out (by assumption)).mono ?_; rintro e w1 ⟨rfl, hok⟩) | (go_at_call 15; refine (awakeOk4 (by assumption)).mono ?_; rintro e w1 ⟨rfl, hok⟩))
  go_ret
  exact ⟨rfl, by assumption⟩

set_option maxHeartbeats 2000000 in
theorem at2 (c : Nat) (hc : c < 256) (hm : (c : Int) % 14 = 2) (w : World) (hok : ClsOk w w) : Calls Tryd.prog 5 #[.int .u8 (c : Int)] w fun e w' => e = .returned (.bool true) ∧ ClsOk w w' := by
  have b0 : Hid ((Cls.bytes 2 : Int) = 256) := hide (by kernel_rfl)
  have b1 : Hid ((Cls.bytes 1 : Int) = 192) := hide (by kernel_rfl)
  have p0 : Hid ((Cls.pages 2 : Int) = 1) := hide (by kernel_rfl)
  have s0 : Hid ((Cls.slots 2 : Int) = 32) := hide (by kernel_rfl)
  go_enter Tryd.func5, Tryd.ntmps5
  go_wp2_with (first | (go_at_call 9; refine (csizeOk 1 192 b1.out (by assumption)).mono ?_; rintro e w1 ⟨rfl, hok⟩) | (go_at_call 9; refine (csizeOk 2 256 b0.out (by assumption)).mono ?_; rintro e w1 ⟨rfl, hok⟩) | (go_at_call 11; refine (cpagesOk 2 1 p0.out (by assumption)).mono ?_; rintro e w1 ⟨rfl, hok⟩) | (go_at_call 13; refine (cslotsOk 2 32 s0.out (by assumption)).mono ?_; rintro e w1 ⟨rfl, hok⟩) | (go_at_call 15; refine (awakeOk4 (by assumption)).mono ?_; rintro e w1 ⟨rfl, hok⟩))
  go_ret
  exact ⟨rfl, by assumption⟩

set_option maxHeartbeats 2000000 in
theorem at3 (c : Nat) (hc : c < 256) (hm : (c : Int) % 14 = 3) (w : World) (hok : ClsOk w w) : Calls Tryd.prog 5 #[.int .u8 (c : Int)] w fun e w' => e = .returned (.bool true) ∧ ClsOk w w' := by
  have b0 : Hid ((Cls.bytes 3 : Int) = 384) := hide (by kernel_rfl)
  have b1 : Hid ((Cls.bytes 2 : Int) = 256) := hide (by kernel_rfl)
  have p0 : Hid ((Cls.pages 3 : Int) = 1) := hide (by kernel_rfl)
  have s0 : Hid ((Cls.slots 3 : Int) = 21) := hide (by kernel_rfl)
  go_enter Tryd.func5, Tryd.ntmps5
  go_wp2_with (first | (go_at_call 9; refine (csizeOk 2 256 b1.out (by assumption)).mono ?_; rintro e w1 ⟨rfl, hok⟩) | (go_at_call 9; refine (csizeOk 3 384 b0.out (by assumption)).mono ?_; rintro e w1 ⟨rfl, hok⟩) | (go_at_call 11; refine (cpagesOk 3 1 p0.out (by assumption)).mono ?_; rintro e w1 ⟨rfl, hok⟩) | (go_at_call 13; refine (cslotsOk 3 21 s0.out (by assumption)).mono ?_; rintro e w1 ⟨rfl, hok⟩) | (go_at_call 15; refine (awakeOk4 (by assumption)).mono ?_; rintro e w1 ⟨rfl, hok⟩))
  go_ret
  exact ⟨rfl, by assumption⟩

set_option maxHeartbeats 2000000 in
theorem at4 (c : Nat) (hc : c < 256) (hm : (c : Int) % 14 = 4) (w : World) (hok : ClsOk w w) : Calls Tryd.prog 5 #[.int .u8 (c : Int)] w fun e w' => e = .returned (.bool true) ∧ ClsOk w w' := by
  have b0 : Hid ((Cls.bytes 4 : Int) = 512) := hide (by kernel_rfl)
  have b1 : Hid ((Cls.bytes 3 : Int) = 384) := hide (by kernel_rfl)
  have p0 : Hid ((Cls.pages 4 : Int) = 1) := hide (by kernel_rfl)
  have s0 : Hid ((Cls.slots 4 : Int) = 16) := hide (by kernel_rfl)
  go_enter Tryd.func5, Tryd.ntmps5
  go_wp2_with (first | (go_at_call 9; refine (csizeOk 3 384 b1.out (by assumption)).mono ?_; rintro e w1 ⟨rfl, hok⟩) | (go_at_call 9; refine (csizeOk 4 512 b0.out (by assumption)).mono ?_; rintro e w1 ⟨rfl, hok⟩) | (go_at_call 11; refine (cpagesOk 4 1 p0.out (by assumption)).mono ?_; rintro e w1 ⟨rfl, hok⟩) | (go_at_call 13; refine (cslotsOk 4 16 s0.out (by assumption)).mono ?_; rintro e w1 ⟨rfl, hok⟩) | (go_at_call 15; refine (awakeOk4 (by assumption)).mono ?_; rintro e w1 ⟨rfl, hok⟩))
  go_ret
  exact ⟨rfl, by assumption⟩

set_option maxHeartbeats 2000000 in
theorem at5 (c : Nat) (hc : c < 256) (hm : (c : Int) % 14 = 5) (w : World) (hok : ClsOk w w) : Calls Tryd.prog 5 #[.int .u8 (c : Int)] w fun e w' => e = .returned (.bool true) ∧ ClsOk w w' := by
  have b0 : Hid ((Cls.bytes 5 : Int) = 768) := hide (by kernel_rfl)
  have b1 : Hid ((Cls.bytes 4 : Int) = 512) := hide (by kernel_rfl)
  have p0 : Hid ((Cls.pages 5 : Int) = 1) := hide (by kernel_rfl)
  have s0 : Hid ((Cls.slots 5 : Int) = 10) := hide (by kernel_rfl)
  go_enter Tryd.func5, Tryd.ntmps5
  go_wp2_with (first | (go_at_call 9; refine (csizeOk 4 512 b1.out (by assumption)).mono ?_; rintro e w1 ⟨rfl, hok⟩) | (go_at_call 9; refine (csizeOk 5 768 b0.out (by assumption)).mono ?_; rintro e w1 ⟨rfl, hok⟩) | (go_at_call 11; refine (cpagesOk 5 1 p0.out (by assumption)).mono ?_; rintro e w1 ⟨rfl, hok⟩) | (go_at_call 13; refine (cslotsOk 5 10 s0.out (by assumption)).mono ?_; rintro e w1 ⟨rfl, hok⟩) | (go_at_call 15; refine (awakeOk4 (by assumption)).mono ?_; rintro e w1 ⟨rfl, hok⟩))
  go_ret
  exact ⟨rfl, by assumption⟩

set_option maxHeartbeats 2000000 in
theorem at6 (c : Nat) (hc : c < 256) (hm : (c : Int) % 14 = 6) (w : World) (hok : ClsOk w w) : Calls Tryd.prog 5 #[.int .u8 (c : Int)] w fun e w' => e = .returned (.bool true) ∧ ClsOk w w' := by
  have b0 : Hid ((Cls.bytes 6 : Int) = 1024) := hide (by kernel_rfl)
  have b1 : Hid ((Cls.bytes 5 : Int) = 768) := hide (by kernel_rfl)
  have p0 : Hid ((Cls.pages 6 : Int) = 1) := hide (by kernel_rfl)
  have s0 : Hid ((Cls.slots 6 : Int) = 8) := hide (by kernel_rfl)
  go_enter Tryd.func5, Tryd.ntmps5
  go_wp2_with (first | (go_at_call 9; refine (csizeOk 5 768 b1.out (by assumption)).mono ?_; rintro e w1 ⟨rfl, hok⟩) | (go_at_call 9; refine (csizeOk 6 1024 b0.out (by assumption)).mono ?_; rintro e w1 ⟨rfl, hok⟩) | (go_at_call 11; refine (cpagesOk 6 1 p0.out (by assumption)).mono ?_; rintro e w1 ⟨rfl, hok⟩) | (go_at_call 13; refine (cslotsOk 6 8 s0.out (by assumption)).mono ?_; rintro e w1 ⟨rfl, hok⟩) | (go_at_call 15; refine (awakeOk4 (by assumption)).mono ?_; rintro e w1 ⟨rfl, hok⟩))
  go_ret
  exact ⟨rfl, by assumption⟩

set_option maxHeartbeats 2000000 in
theorem at7 (c : Nat) (hc : c < 256) (hm : (c : Int) % 14 = 7) (w : World) (hok : ClsOk w w) : Calls Tryd.prog 5 #[.int .u8 (c : Int)] w fun e w' => e = .returned (.bool true) ∧ ClsOk w w' := by
  have b0 : Hid ((Cls.bytes 7 : Int) = 1536) := hide (by kernel_rfl)
  have b1 : Hid ((Cls.bytes 6 : Int) = 1024) := hide (by kernel_rfl)
  have p0 : Hid ((Cls.pages 7 : Int) = 3) := hide (by kernel_rfl)
  have s0 : Hid ((Cls.slots 7 : Int) = 16) := hide (by kernel_rfl)
  go_enter Tryd.func5, Tryd.ntmps5
  go_wp2_with (first | (go_at_call 9; refine (csizeOk 6 1024 b1.out (by assumption)).mono ?_; rintro e w1 ⟨rfl, hok⟩) | (go_at_call 9; refine (csizeOk 7 1536 b0.out (by assumption)).mono ?_; rintro e w1 ⟨rfl, hok⟩) | (go_at_call 11; refine (cpagesOk 7 3 p0.out (by assumption)).mono ?_; rintro e w1 ⟨rfl, hok⟩) | (go_at_call 13; refine (cslotsOk 7 16 s0.out (by assumption)).mono ?_; rintro e w1 ⟨rfl, hok⟩) | (go_at_call 15; refine (awakeOk4 (by assumption)).mono ?_; rintro e w1 ⟨rfl, hok⟩))
  go_ret
  exact ⟨rfl, by assumption⟩

set_option maxHeartbeats 2000000 in
theorem at8 (c : Nat) (hc : c < 256) (hm : (c : Int) % 14 = 8) (w : World) (hok : ClsOk w w) : Calls Tryd.prog 5 #[.int .u8 (c : Int)] w fun e w' => e = .returned (.bool true) ∧ ClsOk w w' := by
  have b0 : Hid ((Cls.bytes 8 : Int) = 2048) := hide (by kernel_rfl)
  have b1 : Hid ((Cls.bytes 7 : Int) = 1536) := hide (by kernel_rfl)
  have p0 : Hid ((Cls.pages 8 : Int) = 1) := hide (by kernel_rfl)
  have s0 : Hid ((Cls.slots 8 : Int) = 4) := hide (by kernel_rfl)
  go_enter Tryd.func5, Tryd.ntmps5
  go_wp2_with (first | (go_at_call 9; refine (csizeOk 7 1536 b1.out (by assumption)).mono ?_; rintro e w1 ⟨rfl, hok⟩) | (go_at_call 9; refine (csizeOk 8 2048 b0.out (by assumption)).mono ?_; rintro e w1 ⟨rfl, hok⟩) | (go_at_call 11; refine (cpagesOk 8 1 p0.out (by assumption)).mono ?_; rintro e w1 ⟨rfl, hok⟩) | (go_at_call 13; refine (cslotsOk 8 4 s0.out (by assumption)).mono ?_; rintro e w1 ⟨rfl, hok⟩) | (go_at_call 15; refine (awakeOk4 (by assumption)).mono ?_; rintro e w1 ⟨rfl, hok⟩))
  go_ret
  exact ⟨rfl, by assumption⟩

set_option maxHeartbeats 2000000 in
theorem at9 (c : Nat) (hc : c < 256) (hm : (c : Int) % 14 = 9) (w : World) (hok : ClsOk w w) : Calls Tryd.prog 5 #[.int .u8 (c : Int)] w fun e w' => e = .returned (.bool true) ∧ ClsOk w w' := by
  have b0 : Hid ((Cls.bytes 9 : Int) = 3072) := hide (by kernel_rfl)
  have b1 : Hid ((Cls.bytes 8 : Int) = 2048) := hide (by kernel_rfl)
  have p0 : Hid ((Cls.pages 9 : Int) = 3) := hide (by kernel_rfl)
  have s0 : Hid ((Cls.slots 9 : Int) = 8) := hide (by kernel_rfl)
  go_enter Tryd.func5, Tryd.ntmps5
  go_wp2_with (first | (go_at_call 9; refine (csizeOk 8 2048 b1.out (by assumption)).mono ?_; rintro e w1 ⟨rfl, hok⟩) | (go_at_call 9; refine (csizeOk 9 3072 b0.out (by assumption)).mono ?_; rintro e w1 ⟨rfl, hok⟩) | (go_at_call 11; refine (cpagesOk 9 3 p0.out (by assumption)).mono ?_; rintro e w1 ⟨rfl, hok⟩) | (go_at_call 13; refine (cslotsOk 9 8 s0.out (by assumption)).mono ?_; rintro e w1 ⟨rfl, hok⟩) | (go_at_call 15; refine (awakeOk4 (by assumption)).mono ?_; rintro e w1 ⟨rfl, hok⟩))
  go_ret
  exact ⟨rfl, by assumption⟩

set_option maxHeartbeats 2000000 in
theorem at10 (c : Nat) (hc : c < 256) (hm : (c : Int) % 14 = 10) (w : World) (hok : ClsOk w w) : Calls Tryd.prog 5 #[.int .u8 (c : Int)] w fun e w' => e = .returned (.bool true) ∧ ClsOk w w' := by
  have b0 : Hid ((Cls.bytes 10 : Int) = 4096) := hide (by kernel_rfl)
  have b1 : Hid ((Cls.bytes 9 : Int) = 3072) := hide (by kernel_rfl)
  have p0 : Hid ((Cls.pages 10 : Int) = 1) := hide (by kernel_rfl)
  have s0 : Hid ((Cls.slots 10 : Int) = 2) := hide (by kernel_rfl)
  go_enter Tryd.func5, Tryd.ntmps5
  go_wp2_with (first | (go_at_call 9; refine (csizeOk 9 3072 b1.out (by assumption)).mono ?_; rintro e w1 ⟨rfl, hok⟩) | (go_at_call 9; refine (csizeOk 10 4096 b0.out (by assumption)).mono ?_; rintro e w1 ⟨rfl, hok⟩) | (go_at_call 11; refine (cpagesOk 10 1 p0.out (by assumption)).mono ?_; rintro e w1 ⟨rfl, hok⟩) | (go_at_call 13; refine (cslotsOk 10 2 s0.out (by assumption)).mono ?_; rintro e w1 ⟨rfl, hok⟩) | (go_at_call 15; refine (awakeOk4 (by assumption)).mono ?_; rintro e w1 ⟨rfl, hok⟩))
  go_ret
  exact ⟨rfl, by assumption⟩

set_option maxHeartbeats 2000000 in
theorem at11 (c : Nat) (hc : c < 256) (hm : (c : Int) % 14 = 11) (w : World) (hok : ClsOk w w) : Calls Tryd.prog 5 #[.int .u8 (c : Int)] w fun e w' => e = .returned (.bool true) ∧ ClsOk w w' := by
  have b0 : Hid ((Cls.bytes 11 : Int) = 6144) := hide (by kernel_rfl)
  have b1 : Hid ((Cls.bytes 10 : Int) = 4096) := hide (by kernel_rfl)
  have p0 : Hid ((Cls.pages 11 : Int) = 3) := hide (by kernel_rfl)
  have s0 : Hid ((Cls.slots 11 : Int) = 4) := hide (by kernel_rfl)
  go_enter Tryd.func5, Tryd.ntmps5
  go_wp2_with (first | (go_at_call 9; refine (csizeOk 10 4096 b1.out (by assumption)).mono ?_; rintro e w1 ⟨rfl, hok⟩) | (go_at_call 9; refine (csizeOk 11 6144 b0.out (by assumption)).mono ?_; rintro e w1 ⟨rfl, hok⟩) | (go_at_call 11; refine (cpagesOk 11 3 p0.out (by assumption)).mono ?_; rintro e w1 ⟨rfl, hok⟩) | (go_at_call 13; refine (cslotsOk 11 4 s0.out (by assumption)).mono ?_; rintro e w1 ⟨rfl, hok⟩) | (go_at_call 15; refine (awakeOk4 (by assumption)).mono ?_; rintro e w1 ⟨rfl, hok⟩))
  go_ret
  exact ⟨rfl, by assumption⟩

set_option maxHeartbeats 2000000 in
theorem at12 (c : Nat) (hc : c < 256) (hm : (c : Int) % 14 = 12) (w : World) (hok : ClsOk w w) : Calls Tryd.prog 5 #[.int .u8 (c : Int)] w fun e w' => e = .returned (.bool true) ∧ ClsOk w w' := by
  have b0 : Hid ((Cls.bytes 12 : Int) = 8192) := hide (by kernel_rfl)
  have b1 : Hid ((Cls.bytes 11 : Int) = 6144) := hide (by kernel_rfl)
  have p0 : Hid ((Cls.pages 12 : Int) = 2) := hide (by kernel_rfl)
  have s0 : Hid ((Cls.slots 12 : Int) = 2) := hide (by kernel_rfl)
  go_enter Tryd.func5, Tryd.ntmps5
  go_wp2_with (first | (go_at_call 9; refine (csizeOk 11 6144 b1.out (by assumption)).mono ?_; rintro e w1 ⟨rfl, hok⟩) | (go_at_call 9; refine (csizeOk 12 8192 b0.out (by assumption)).mono ?_; rintro e w1 ⟨rfl, hok⟩) | (go_at_call 11; refine (cpagesOk 12 2 p0.out (by assumption)).mono ?_; rintro e w1 ⟨rfl, hok⟩) | (go_at_call 13; refine (cslotsOk 12 2 s0.out (by assumption)).mono ?_; rintro e w1 ⟨rfl, hok⟩) | (go_at_call 15; refine (awakeOk4 (by assumption)).mono ?_; rintro e w1 ⟨rfl, hok⟩))
  go_ret
  exact ⟨rfl, by assumption⟩

set_option maxHeartbeats 2000000 in
theorem at13 (c : Nat) (hc : c < 256) (hm : (c : Int) % 14 = 13) (w : World) (hok : ClsOk w w) : Calls Tryd.prog 5 #[.int .u8 (c : Int)] w fun e w' => e = .returned (.bool true) ∧ ClsOk w w' := by
  have b0 : Hid ((Cls.bytes 13 : Int) = 12288) := hide (by kernel_rfl)
  have b1 : Hid ((Cls.bytes 12 : Int) = 8192) := hide (by kernel_rfl)
  have p0 : Hid ((Cls.pages 13 : Int) = 3) := hide (by kernel_rfl)
  have s0 : Hid ((Cls.slots 13 : Int) = 2) := hide (by kernel_rfl)
  go_enter Tryd.func5, Tryd.ntmps5
  go_wp2_with (first | (go_at_call 9; refine (csizeOk 12 8192 b1.out (by assumption)).mono ?_; rintro e w1 ⟨rfl, hok⟩) | (go_at_call 9; refine (csizeOk 13 12288 b0.out (by assumption)).mono ?_; rintro e w1 ⟨rfl, hok⟩) | (go_at_call 11; refine (cpagesOk 13 3 p0.out (by assumption)).mono ?_; rintro e w1 ⟨rfl, hok⟩) | (go_at_call 13; refine (cslotsOk 13 2 s0.out (by assumption)).mono ?_; rintro e w1 ⟨rfl, hok⟩) | (go_at_call 15; refine (awakeOk4 (by assumption)).mono ?_; rintro e w1 ⟨rfl, hok⟩))
  go_ret
  exact ⟨rfl, by assumption⟩

theorem walk (c : Nat) (hc : c < 256) (w : World) (hT : ClsTab w) :
    Calls Tryd.prog 5 #[.int .u8 (c : Int)] w fun e w' => e = .returned (.bool true) ∧ Below w.heap.size w w' := by
  suffices h : Calls Tryd.prog 5 #[.int .u8 (c : Int)] w fun e w' => e = .returned (.bool true) ∧ ClsOk w w' from h.mono fun _ _ ⟨he, hb⟩ => ⟨he, hb.below⟩
  have hm : (c : Int) % 14 = 0 ∨ (c : Int) % 14 = 1 ∨ (c : Int) % 14 = 2 ∨ (c : Int) % 14 = 3 ∨ (c : Int) % 14 = 4 ∨ (c : Int) % 14 = 5 ∨ (c : Int) % 14 = 6 ∨ (c : Int) % 14 = 7 ∨ (c : Int) % 14 = 8 ∨ (c : Int) % 14 = 9 ∨ (c : Int) % 14 = 10 ∨ (c : Int) % 14 = 11 ∨ (c : Int) % 14 = 12 ∨ (c : Int) % 14 = 13 := by omega
  rcases hm with hm | hm | hm | hm | hm | hm | hm | hm | hm | hm | hm | hm | hm | hm
  · exact at0 c hc hm w (.start hT)
  · exact at1 c hc hm w (.start hT)
  · exact at2 c hc hm w (.start hT)
  · exact at3 c hc hm w (.start hT)
  · exact at4 c hc hm w (.start hT)
  · exact at5 c hc hm w (.start hT)
  · exact at6 c hc hm w (.start hT)
  · exact at7 c hc hm w (.start hT)
  · exact at8 c hc hm w (.start hT)
  · exact at9 c hc hm w (.start hT)
  · exact at10 c hc hm w (.start hT)
  · exact at11 c hc hm w (.start hT)
  · exact at12 c hc hm w (.start hT)
  · exact at13 c hc hm w (.start hT)

set_option maxRecDepth 100000 in
theorem lifted (os : Os) (started : os.Started) (H : Type) (enc : TypeId × Value → H) :
    ReturnsInHanded {} Tryd.checked os 5 .any (fun w args => (Rows.classRowsSpec.pre enc Tryd.prog Tryd.f5 [] false w args ∧ laidMetH Tryd.prog laidL w) ∧ sizedMet enc Tryd.prog Tryd.f5 (OpenSpec.ofChange Rows.classRowsSpec) false w args)
      (Rows.classRowsSpec.post enc Tryd.prog Tryd.f5 false true false false) := by
  refine returnsInHanded_of_change_and (C := Tryd.checked) (X := fun w _ => laidMetH Tryd.prog laidL w) (fun _ _ _ hh h => h.of_heap hh) own started (by kernel_rfl) Tryd.func5
    (ChangeSpec.witness_shaped (enc := enc) (C := Tryd.checked) (os := os) (X := fun w _ => laidMetH Tryd.prog laidL w) false (World.doorLaid Tryd.prog 400 os) #[.int .u8 0] 8 rfl (World.shaped_of_RefB (by kernel_rfl) (by kernel_rfl)) (by kernel_rfl) (by kernel_rfl) (by kernel_rfl) (door_met os _)) ?_
  intro W base args ds gs before hval0 hW _ _ hL _
  have hval : ∀ (j : Nat) t v, Tryd.f5.params[j]? = some t → args[j]? = some v → Value.okWide Tryd.prog W .any base t v := hval0
  have hW' := hW
  obtain ⟨p, q, hA0, hV, rfl, hfz, hnd⟩ := hW
  have hA : DataW.TrodAll enc Tryd.prog W 0 (fun _ => true) true Tryd.f5.params.toList args.toList ds p := hA0
  rw [Tryd.params5] at hA hval
  obtain ⟨v0, vs0, d0, ds0, p0, q0, hargs, rfl, rfl, h0, r0⟩ := trodAll_cons hA
  obtain ⟨rfl, rfl, rfl⟩ := trodAll_nil r0
  obtain rfl : args = #[v0] := by cases args; simp_all
  obtain ⟨rfl, rfl⟩ := trodVars_none hV
  obtain ⟨a0, rfl, rfl, rfl, w0⟩ := open_int Tryd.underlying5 (hval 0 5 v0 rfl rfl) h0
  clear hA0 hval0
  obtain ⟨x0, hx0, rfl⟩ := u8_nat w0
  refine (walk x0 hx0 W (tab_of_laid hL)).mono fun e W' ⟨he, bel⟩ => ?_
  subst he
  exact ⟨_, rfl, _, _, _, [], _, [], hW', trodAll_mk1 (shut_bool Tryd.underlying4 _), (trodAll_cons_mk (shut_int Tryd.underlying5 w0) trodAll_mk0), rfl, bel.frame _, fun h => by cases h⟩

theorem over : Rows.ClassRowsSaid :=
  OpenClaim.holds_of_wide 5 Tryd.f5 rfl rfl rfl rfl rfl rfl rfl ⟨rfl, rfl, rfl, rfl, rfl⟩ rfl rfl rfl rfl rfl (by kernel_rfl) Tryd.func5 (by kernel_rfl)
    (of_decide_eq_true (by kernel_rfl)) (by unfold Func.isWrapper; first | (rw [if_pos (by decide +kernel)]; kernel_rfl) | (rw [if_neg (by decide +kernel)]; exact ⟨rfl, rfl⟩))
    (fun os started H enc _ => lifted os started H enc)
end Go.Proofs.YtpaclanhjcoogaaDoor.classRows
namespace Go.Proofs.YtpaclanhjcoogaaDoor

theorem classRows_card : Rows.ClassRowsCardSaid :=
  Claim7.holds_tied_plain_at .later [] [.data] true (true, "3f5461222c4ae0409fcb4f041214539758d4cf36247f9aa17c0dc68b224529b0") false
    classRows.over (fun _ h => by cases h) (by kernel_rfl) (fun _ h => by cases h) classRows_row_tie rfl ⟨rfl, rfl⟩ (by kernel_rfl) rfl
    (fun f fn hf hfn => by
      obtain rfl : f = 5 := Option.some.inj ((show Tryd.prog.funcNamed Rows.classRowsRow.func = some 5 by kernel_rfl).symm.trans hf) |>.symm
      obtain rfl : fn = Tryd.f5 := (Option.some.inj (Tryd.func5.symm.trans hfn)).symm
      exact ⟨by kernel_rfl, fun j t ht => by
        rw [Tryd.params5] at ht
        have hm : t ∈ [5] := by simpa using Array.mem_of_getElem? ht
        have hall : ([5].all fun u => !Tryd.prog.wantsStandIn u) = true := by kernel_rfl
        exact (show Tryd.prog.wantsStandIn t = false by simpa using List.all_eq_true.1 hall t hm)⟩)
    (by kernel_rfl)
end Go.Proofs.YtpaclanhjcoogaaDoor
