/- value.Elem. -/import Derived.Test.YtdgglhlofnigkaaGreatDoorJValName
namespace Go.Proofs.YtdgglhlofnigkaaGreatDoor
open Lib (hid)
open Go.RowKit
def elV (k : Int) (a b c d : ByteArray) : Value := .agg #[.int .i64 k, .string a, .string b, .string c, .string d]
def edgeB (k : Int) : Bool := k == 3 || k == 5
def moreB (k : Int) : Bool := k == 2 || k == 4 || k == 5
def elemB (k : Int) (a b c d : List UInt8) : Bool := decide (1 ≤ k ∧ k ≤ 5) && (nameB a && heldB b (edgeB k) && heldB c (edgeB k) && heldB d (moreB k))
theorem name_is (s : ByteArray) (hs : s.size ≤ 9223372036854775807) (b : Bool) (h : nameB s.data.toList = b) (w : World) : Calls Tryz.prog 118 #[.string s] w (Gives w (.bool b)) := by
 have := name_any s w hs; rwa [h] at this
theorem held_is (s : ByteArray) (e : Bool) (hs : s.size ≤ 9223372036854775807) (b : Bool) (h : heldB s.data.toList e = b) (w : World) : Calls Tryz.prog 126 #[.string s, .bool e] w (Gives w (.bool b)) := by
 have := held_any s e w hs; rwa [h] at this
set_option maxRecDepth 100000 in
set_option maxHeartbeats 4000000 in
theorem elem_any (k : Int) (a b c d : ByteArray) (w : World) (ha : a.size ≤ 9223372036854775807) (hb : b.size ≤ 9223372036854775807) (hc : c.size ≤ 9223372036854775807) (hd : d.size ≤ 9223372036854775807) :
  Calls Tryz.prog 92 #[elV k a b c d] w (Gives w (.bool (elemB k a.data.toList b.data.toList c.data.toList d.data.toList))) := by
 have HN := hid (name_is a ha)
 have HB := hid (fun e => held_is b e hb)
 have HC := hid (fun e => held_is c e hc)
 have HD := hid (fun e => held_is d e hd)
 clear ha hb hc hd
 have HE : Hid (elemB k a.data.toList b.data.toList c.data.toList d.data.toList = (decide (1 ≤ k ∧ k ≤ 5) && (nameB a.data.toList && heldB b.data.toList (edgeB k) && heldB c.data.toList (edgeB k) && heldB d.data.toList (moreB k)))) := hid rfl
 have HX := hid (Blk.new w 38 #[.int .i64 k, .string a, .string b, .string c, .string d])
 have HY := hid ((Below.refl w.heap.size w).alloc (Nat.le_refl _) (.cells #[.int .i64 k, .string a, .string b, .string c, .string d] 38))
 generalize nameB a.data.toList = na at *
 unfold elV
 by_cases hk : 1 ≤ k ∧ k ≤ 5
 ·have hk5 : k = 1 ∨ k = 2 ∨ k = 3 ∨ k = 4 ∨ k = 5 := by omega
  clear hk
  rcases hk5 with rfl | rfl | rfl | rfl | rfl
  ·rw [show edgeB 1 = false from rfl, show moreB 1 = false from rfl] at HE
   have HBe := hid (HB.out false)
   have HCe := hid (HC.out false)
   have HDe := hid (HD.out false)
   clear HB HC HD
   generalize heldB b.data.toList false = nb at *
   generalize heldB c.data.toList false = nc at *
   generalize heldB d.data.toList false = nd at *
   cases na
   ·clear HBe HCe HDe
    go_enter Tryz.func92, Tryz.ntmps92
    go_wp2_with fail
    refine (HN.out _ rfl _).mono ?_
    rintro e w1 ⟨rfl, hb1⟩
    have X1 := hid (Blk.below HX.out hb1 (Blk.lt HX.out))
    have Y1 := hid (HY.out.trans (hb1.mono HY.out.size))
    clear hb1
    go_wp2
    go_ret
    exact ⟨by rw [HE.out]; rfl, Y1.out⟩
   ·cases nb
    ·clear HCe HDe
     go_enter Tryz.func92, Tryz.ntmps92
     go_wp2_with fail
     refine (HN.out _ rfl _).mono ?_
     rintro e w1 ⟨rfl, hb1⟩
     have X1 := hid (Blk.below HX.out hb1 (Blk.lt HX.out))
     have Y1 := hid (HY.out.trans (hb1.mono HY.out.size))
     have q1 := Blk.cell X1.out 2
     simp at q1
     clear hb1
     go_wp2_with fail
     refine (HBe.out _ rfl _).mono ?_
     rintro e w2 ⟨rfl, hb2⟩
     have X2 := hid (Blk.below X1.out hb2 (Blk.lt X1.out))
     have Y2 := hid (Y1.out.trans (hb2.mono Y1.out.size))
     clear hb2 q1
     go_wp2
     go_ret
     exact ⟨by rw [HE.out]; rfl, Y2.out⟩
    ·cases nc
     ·clear HDe
      go_enter Tryz.func92, Tryz.ntmps92
      go_wp2_with fail
      refine (HN.out _ rfl _).mono ?_
      rintro e w1 ⟨rfl, hb1⟩
      have X1 := hid (Blk.below HX.out hb1 (Blk.lt HX.out))
      have Y1 := hid (HY.out.trans (hb1.mono HY.out.size))
      have q1 := Blk.cell X1.out 2
      simp at q1
      clear hb1
      go_wp2_with fail
      refine (HBe.out _ rfl _).mono ?_
      rintro e w2 ⟨rfl, hb2⟩
      have X2 := hid (Blk.below X1.out hb2 (Blk.lt X1.out))
      have Y2 := hid (Y1.out.trans (hb2.mono Y1.out.size))
      have q2 := Blk.cell X2.out 3
      simp at q2
      clear hb2 q1
      go_wp2_with fail
      refine (HCe.out _ rfl _).mono ?_
      rintro e w3 ⟨rfl, hb3⟩
      have X3 := hid (Blk.below X2.out hb3 (Blk.lt X2.out))
      have Y3 := hid (Y2.out.trans (hb3.mono Y2.out.size))
      clear hb3 q2
      go_wp2
      go_ret
      exact ⟨by rw [HE.out]; rfl, Y3.out⟩
     ·cases nd
      ·go_enter Tryz.func92, Tryz.ntmps92
       go_wp2_with fail
       refine (HN.out _ rfl _).mono ?_
       rintro e w1 ⟨rfl, hb1⟩
       have X1 := hid (Blk.below HX.out hb1 (Blk.lt HX.out))
       have Y1 := hid (HY.out.trans (hb1.mono HY.out.size))
       have q1 := Blk.cell X1.out 2
       simp at q1
       clear hb1
       go_wp2_with fail
       refine (HBe.out _ rfl _).mono ?_
       rintro e w2 ⟨rfl, hb2⟩
       have X2 := hid (Blk.below X1.out hb2 (Blk.lt X1.out))
       have Y2 := hid (Y1.out.trans (hb2.mono Y1.out.size))
       have q2 := Blk.cell X2.out 3
       simp at q2
       clear hb2 q1
       go_wp2_with fail
       refine (HCe.out _ rfl _).mono ?_
       rintro e w3 ⟨rfl, hb3⟩
       have X3 := hid (Blk.below X2.out hb3 (Blk.lt X2.out))
       have Y3 := hid (Y2.out.trans (hb3.mono Y2.out.size))
       have q3 := Blk.cell X3.out 4
       simp at q3
       clear hb3 q2
       go_wp2_with fail
       refine (HDe.out _ rfl _).mono ?_
       rintro e w4 ⟨rfl, hb4⟩
       have X4 := hid (Blk.below X3.out hb4 (Blk.lt X3.out))
       have Y4 := hid (Y3.out.trans (hb4.mono Y3.out.size))
       clear hb4 q3
       go_wp2
       go_ret
       exact ⟨by rw [HE.out]; rfl, Y4.out⟩
      ·go_enter Tryz.func92, Tryz.ntmps92
       go_wp2_with fail
       refine (HN.out _ rfl _).mono ?_
       rintro e w1 ⟨rfl, hb1⟩
       have X1 := hid (Blk.below HX.out hb1 (Blk.lt HX.out))
       have Y1 := hid (HY.out.trans (hb1.mono HY.out.size))
       have q1 := Blk.cell X1.out 2
       simp at q1
       clear hb1
       go_wp2_with fail
       refine (HBe.out _ rfl _).mono ?_
       rintro e w2 ⟨rfl, hb2⟩
       have X2 := hid (Blk.below X1.out hb2 (Blk.lt X1.out))
       have Y2 := hid (Y1.out.trans (hb2.mono Y1.out.size))
       have q2 := Blk.cell X2.out 3
       simp at q2
       clear hb2 q1
       go_wp2_with fail
       refine (HCe.out _ rfl _).mono ?_
       rintro e w3 ⟨rfl, hb3⟩
       have X3 := hid (Blk.below X2.out hb3 (Blk.lt X2.out))
       have Y3 := hid (Y2.out.trans (hb3.mono Y2.out.size))
       have q3 := Blk.cell X3.out 4
       simp at q3
       clear hb3 q2
       go_wp2_with fail
       refine (HDe.out _ rfl _).mono ?_
       rintro e w4 ⟨rfl, hb4⟩
       have X4 := hid (Blk.below X3.out hb4 (Blk.lt X3.out))
       have Y4 := hid (Y3.out.trans (hb4.mono Y3.out.size))
       clear hb4 q3
       go_wp2
       go_ret
       exact ⟨by rw [HE.out]; rfl, Y4.out⟩
  ·rw [show edgeB 2 = false from rfl, show moreB 2 = true from rfl] at HE
   have HBe := hid (HB.out false)
   have HCe := hid (HC.out false)
   have HDe := hid (HD.out true)
   clear HB HC HD
   generalize heldB b.data.toList false = nb at *
   generalize heldB c.data.toList false = nc at *
   generalize heldB d.data.toList true = nd at *
   cases na
   ·clear HBe HCe HDe
    go_enter Tryz.func92, Tryz.ntmps92
    go_wp2_with fail
    refine (HN.out _ rfl _).mono ?_
    rintro e w1 ⟨rfl, hb1⟩
    have X1 := hid (Blk.below HX.out hb1 (Blk.lt HX.out))
    have Y1 := hid (HY.out.trans (hb1.mono HY.out.size))
    clear hb1
    go_wp2
    go_ret
    exact ⟨by rw [HE.out]; rfl, Y1.out⟩
   ·cases nb
    ·clear HCe HDe
     go_enter Tryz.func92, Tryz.ntmps92
     go_wp2_with fail
     refine (HN.out _ rfl _).mono ?_
     rintro e w1 ⟨rfl, hb1⟩
     have X1 := hid (Blk.below HX.out hb1 (Blk.lt HX.out))
     have Y1 := hid (HY.out.trans (hb1.mono HY.out.size))
     have q1 := Blk.cell X1.out 2
     simp at q1
     clear hb1
     go_wp2_with fail
     refine (HBe.out _ rfl _).mono ?_
     rintro e w2 ⟨rfl, hb2⟩
     have X2 := hid (Blk.below X1.out hb2 (Blk.lt X1.out))
     have Y2 := hid (Y1.out.trans (hb2.mono Y1.out.size))
     clear hb2 q1
     go_wp2
     go_ret
     exact ⟨by rw [HE.out]; rfl, Y2.out⟩
    ·cases nc
     ·clear HDe
      go_enter Tryz.func92, Tryz.ntmps92
      go_wp2_with fail
      refine (HN.out _ rfl _).mono ?_
      rintro e w1 ⟨rfl, hb1⟩
      have X1 := hid (Blk.below HX.out hb1 (Blk.lt HX.out))
      have Y1 := hid (HY.out.trans (hb1.mono HY.out.size))
      have q1 := Blk.cell X1.out 2
      simp at q1
      clear hb1
      go_wp2_with fail
      refine (HBe.out _ rfl _).mono ?_
      rintro e w2 ⟨rfl, hb2⟩
      have X2 := hid (Blk.below X1.out hb2 (Blk.lt X1.out))
      have Y2 := hid (Y1.out.trans (hb2.mono Y1.out.size))
      have q2 := Blk.cell X2.out 3
      simp at q2
      clear hb2 q1
      go_wp2_with fail
      refine (HCe.out _ rfl _).mono ?_
      rintro e w3 ⟨rfl, hb3⟩
      have X3 := hid (Blk.below X2.out hb3 (Blk.lt X2.out))
      have Y3 := hid (Y2.out.trans (hb3.mono Y2.out.size))
      clear hb3 q2
      go_wp2
      go_ret
      exact ⟨by rw [HE.out]; rfl, Y3.out⟩
     ·cases nd
      ·go_enter Tryz.func92, Tryz.ntmps92
       go_wp2_with fail
       refine (HN.out _ rfl _).mono ?_
       rintro e w1 ⟨rfl, hb1⟩
       have X1 := hid (Blk.below HX.out hb1 (Blk.lt HX.out))
       have Y1 := hid (HY.out.trans (hb1.mono HY.out.size))
       have q1 := Blk.cell X1.out 2
       simp at q1
       clear hb1
       go_wp2_with fail
       refine (HBe.out _ rfl _).mono ?_
       rintro e w2 ⟨rfl, hb2⟩
       have X2 := hid (Blk.below X1.out hb2 (Blk.lt X1.out))
       have Y2 := hid (Y1.out.trans (hb2.mono Y1.out.size))
       have q2 := Blk.cell X2.out 3
       simp at q2
       clear hb2 q1
       go_wp2_with fail
       refine (HCe.out _ rfl _).mono ?_
       rintro e w3 ⟨rfl, hb3⟩
       have X3 := hid (Blk.below X2.out hb3 (Blk.lt X2.out))
       have Y3 := hid (Y2.out.trans (hb3.mono Y2.out.size))
       have q3 := Blk.cell X3.out 4
       simp at q3
       clear hb3 q2
       go_wp2_with fail
       refine (HDe.out _ rfl _).mono ?_
       rintro e w4 ⟨rfl, hb4⟩
       have X4 := hid (Blk.below X3.out hb4 (Blk.lt X3.out))
       have Y4 := hid (Y3.out.trans (hb4.mono Y3.out.size))
       clear hb4 q3
       go_wp2
       go_ret
       exact ⟨by rw [HE.out]; rfl, Y4.out⟩
      ·go_enter Tryz.func92, Tryz.ntmps92
       go_wp2_with fail
       refine (HN.out _ rfl _).mono ?_
       rintro e w1 ⟨rfl, hb1⟩
       have X1 := hid (Blk.below HX.out hb1 (Blk.lt HX.out))
       have Y1 := hid (HY.out.trans (hb1.mono HY.out.size))
       have q1 := Blk.cell X1.out 2
       simp at q1
       clear hb1
       go_wp2_with fail
       refine (HBe.out _ rfl _).mono ?_
       rintro e w2 ⟨rfl, hb2⟩
       have X2 := hid (Blk.below X1.out hb2 (Blk.lt X1.out))
       have Y2 := hid (Y1.out.trans (hb2.mono Y1.out.size))
       have q2 := Blk.cell X2.out 3
       simp at q2
       clear hb2 q1
       go_wp2_with fail
       refine (HCe.out _ rfl _).mono ?_
       rintro e w3 ⟨rfl, hb3⟩
       have X3 := hid (Blk.below X2.out hb3 (Blk.lt X2.out))
       have Y3 := hid (Y2.out.trans (hb3.mono Y2.out.size))
       have q3 := Blk.cell X3.out 4
       simp at q3
       clear hb3 q2
       go_wp2_with fail
       refine (HDe.out _ rfl _).mono ?_
       rintro e w4 ⟨rfl, hb4⟩
       have X4 := hid (Blk.below X3.out hb4 (Blk.lt X3.out))
       have Y4 := hid (Y3.out.trans (hb4.mono Y3.out.size))
       clear hb4 q3
       go_wp2
       go_ret
       exact ⟨by rw [HE.out]; rfl, Y4.out⟩
  ·rw [show edgeB 3 = true from rfl, show moreB 3 = false from rfl] at HE
   have HBe := hid (HB.out true)
   have HCe := hid (HC.out true)
   have HDe := hid (HD.out false)
   clear HB HC HD
   generalize heldB b.data.toList true = nb at *
   generalize heldB c.data.toList true = nc at *
   generalize heldB d.data.toList false = nd at *
   cases na
   ·clear HBe HCe HDe
    go_enter Tryz.func92, Tryz.ntmps92
    go_wp2_with fail
    refine (HN.out _ rfl _).mono ?_
    rintro e w1 ⟨rfl, hb1⟩
    have X1 := hid (Blk.below HX.out hb1 (Blk.lt HX.out))
    have Y1 := hid (HY.out.trans (hb1.mono HY.out.size))
    clear hb1
    go_wp2
    go_ret
    exact ⟨by rw [HE.out]; rfl, Y1.out⟩
   ·cases nb
    ·clear HCe HDe
     go_enter Tryz.func92, Tryz.ntmps92
     go_wp2_with fail
     refine (HN.out _ rfl _).mono ?_
     rintro e w1 ⟨rfl, hb1⟩
     have X1 := hid (Blk.below HX.out hb1 (Blk.lt HX.out))
     have Y1 := hid (HY.out.trans (hb1.mono HY.out.size))
     have q1 := Blk.cell X1.out 2
     simp at q1
     clear hb1
     go_wp2_with fail
     refine (HBe.out _ rfl _).mono ?_
     rintro e w2 ⟨rfl, hb2⟩
     have X2 := hid (Blk.below X1.out hb2 (Blk.lt X1.out))
     have Y2 := hid (Y1.out.trans (hb2.mono Y1.out.size))
     clear hb2 q1
     go_wp2
     go_ret
     exact ⟨by rw [HE.out]; rfl, Y2.out⟩
    ·cases nc
     ·clear HDe
      go_enter Tryz.func92, Tryz.ntmps92
      go_wp2_with fail
      refine (HN.out _ rfl _).mono ?_
      rintro e w1 ⟨rfl, hb1⟩
      have X1 := hid (Blk.below HX.out hb1 (Blk.lt HX.out))
      have Y1 := hid (HY.out.trans (hb1.mono HY.out.size))
      have q1 := Blk.cell X1.out 2
      simp at q1
      clear hb1
      go_wp2_with fail
      refine (HBe.out _ rfl _).mono ?_
      rintro e w2 ⟨rfl, hb2⟩
      have X2 := hid (Blk.below X1.out hb2 (Blk.lt X1.out))
      have Y2 := hid (Y1.out.trans (hb2.mono Y1.out.size))
      have q2 := Blk.cell X2.out 3
      simp at q2
      clear hb2 q1
      go_wp2_with fail
      refine (HCe.out _ rfl _).mono ?_
      rintro e w3 ⟨rfl, hb3⟩
      have X3 := hid (Blk.below X2.out hb3 (Blk.lt X2.out))
      have Y3 := hid (Y2.out.trans (hb3.mono Y2.out.size))
      clear hb3 q2
      go_wp2
      go_ret
      exact ⟨by rw [HE.out]; rfl, Y3.out⟩
     ·cases nd
      ·go_enter Tryz.func92, Tryz.ntmps92
       go_wp2_with fail
       refine (HN.out _ rfl _).mono ?_
       rintro e w1 ⟨rfl, hb1⟩
       have X1 := hid (Blk.below HX.out hb1 (Blk.lt HX.out))
       have Y1 := hid (HY.out.trans (hb1.mono HY.out.size))
       have q1 := Blk.cell X1.out 2
       simp at q1
       clear hb1
       go_wp2_with fail
       refine (HBe.out _ rfl _).mono ?_
       rintro e w2 ⟨rfl, hb2⟩
       have X2 := hid (Blk.below X1.out hb2 (Blk.lt X1.out))
       have Y2 := hid (Y1.out.trans (hb2.mono Y1.out.size))
       have q2 := Blk.cell X2.out 3
       simp at q2
       clear hb2 q1
       go_wp2_with fail
       refine (HCe.out _ rfl _).mono ?_
       rintro e w3 ⟨rfl, hb3⟩
       have X3 := hid (Blk.below X2.out hb3 (Blk.lt X2.out))
       have Y3 := hid (Y2.out.trans (hb3.mono Y2.out.size))
       have q3 := Blk.cell X3.out 4
       simp at q3
       clear hb3 q2
       go_wp2_with fail
       refine (HDe.out _ rfl _).mono ?_
       rintro e w4 ⟨rfl, hb4⟩
       have X4 := hid (Blk.below X3.out hb4 (Blk.lt X3.out))
       have Y4 := hid (Y3.out.trans (hb4.mono Y3.out.size))
       clear hb4 q3
       go_wp2
       go_ret
       exact ⟨by rw [HE.out]; rfl, Y4.out⟩
      ·go_enter Tryz.func92, Tryz.ntmps92
       go_wp2_with fail
       refine (HN.out _ rfl _).mono ?_
       rintro e w1 ⟨rfl, hb1⟩
       have X1 := hid (Blk.below HX.out hb1 (Blk.lt HX.out))
       have Y1 := hid (HY.out.trans (hb1.mono HY.out.size))
       have q1 := Blk.cell X1.out 2
       simp at q1
       clear hb1
       go_wp2_with fail
       refine (HBe.out _ rfl _).mono ?_
       rintro e w2 ⟨rfl, hb2⟩
       have X2 := hid (Blk.below X1.out hb2 (Blk.lt X1.out))
       have Y2 := hid (Y1.out.trans (hb2.mono Y1.out.size))
       have q2 := Blk.cell X2.out 3
       simp at q2
       clear hb2 q1
       go_wp2_with fail
       refine (HCe.out _ rfl _).mono ?_
       rintro e w3 ⟨rfl, hb3⟩
       have X3 := hid (Blk.below X2.out hb3 (Blk.lt X2.out))
       have Y3 := hid (Y2.out.trans (hb3.mono Y2.out.size))
       have q3 := Blk.cell X3.out 4
       simp at q3
       clear hb3 q2
       go_wp2_with fail
       refine (HDe.out _ rfl _).mono ?_
       rintro e w4 ⟨rfl, hb4⟩
       have X4 := hid (Blk.below X3.out hb4 (Blk.lt X3.out))
       have Y4 := hid (Y3.out.trans (hb4.mono Y3.out.size))
       clear hb4 q3
       go_wp2
       go_ret
       exact ⟨by rw [HE.out]; rfl, Y4.out⟩
  ·rw [show edgeB 4 = false from rfl, show moreB 4 = true from rfl] at HE
   have HBe := hid (HB.out false)
   have HCe := hid (HC.out false)
   have HDe := hid (HD.out true)
   clear HB HC HD
   generalize heldB b.data.toList false = nb at *
   generalize heldB c.data.toList false = nc at *
   generalize heldB d.data.toList true = nd at *
   cases na
   ·clear HBe HCe HDe
    go_enter Tryz.func92, Tryz.ntmps92
    go_wp2_with fail
    refine (HN.out _ rfl _).mono ?_
    rintro e w1 ⟨rfl, hb1⟩
    have X1 := hid (Blk.below HX.out hb1 (Blk.lt HX.out))
    have Y1 := hid (HY.out.trans (hb1.mono HY.out.size))
    clear hb1
    go_wp2
    go_ret
    exact ⟨by rw [HE.out]; rfl, Y1.out⟩
   ·cases nb
    ·clear HCe HDe
     go_enter Tryz.func92, Tryz.ntmps92
     go_wp2_with fail
     refine (HN.out _ rfl _).mono ?_
     rintro e w1 ⟨rfl, hb1⟩
     have X1 := hid (Blk.below HX.out hb1 (Blk.lt HX.out))
     have Y1 := hid (HY.out.trans (hb1.mono HY.out.size))
     have q1 := Blk.cell X1.out 2
     simp at q1
     clear hb1
     go_wp2_with fail
     refine (HBe.out _ rfl _).mono ?_
     rintro e w2 ⟨rfl, hb2⟩
     have X2 := hid (Blk.below X1.out hb2 (Blk.lt X1.out))
     have Y2 := hid (Y1.out.trans (hb2.mono Y1.out.size))
     clear hb2 q1
     go_wp2
     go_ret
     exact ⟨by rw [HE.out]; rfl, Y2.out⟩
    ·cases nc
     ·clear HDe
      go_enter Tryz.func92, Tryz.ntmps92
      go_wp2_with fail
      refine (HN.out _ rfl _).mono ?_
      rintro e w1 ⟨rfl, hb1⟩
      have X1 := hid (Blk.below HX.out hb1 (Blk.lt HX.out))
      have Y1 := hid (HY.out.trans (hb1.mono HY.out.size))
      have q1 := Blk.cell X1.out 2
      simp at q1
      clear hb1
      go_wp2_with fail
      refine (HBe.out _ rfl _).mono ?_
      rintro e w2 ⟨rfl, hb2⟩
      have X2 := hid (Blk.below X1.out hb2 (Blk.lt X1.out))
      have Y2 := hid (Y1.out.trans (hb2.mono Y1.out.size))
      have q2 := Blk.cell X2.out 3
      simp at q2
      clear hb2 q1
      go_wp2_with fail
      refine (HCe.out _ rfl _).mono ?_
      rintro e w3 ⟨rfl, hb3⟩
      have X3 := hid (Blk.below X2.out hb3 (Blk.lt X2.out))
      have Y3 := hid (Y2.out.trans (hb3.mono Y2.out.size))
      clear hb3 q2
      go_wp2
      go_ret
      exact ⟨by rw [HE.out]; rfl, Y3.out⟩
     ·cases nd
      ·go_enter Tryz.func92, Tryz.ntmps92
       go_wp2_with fail
       refine (HN.out _ rfl _).mono ?_
       rintro e w1 ⟨rfl, hb1⟩
       have X1 := hid (Blk.below HX.out hb1 (Blk.lt HX.out))
       have Y1 := hid (HY.out.trans (hb1.mono HY.out.size))
       have q1 := Blk.cell X1.out 2
       simp at q1
       clear hb1
       go_wp2_with fail
       refine (HBe.out _ rfl _).mono ?_
       rintro e w2 ⟨rfl, hb2⟩
       have X2 := hid (Blk.below X1.out hb2 (Blk.lt X1.out))
       have Y2 := hid (Y1.out.trans (hb2.mono Y1.out.size))
       have q2 := Blk.cell X2.out 3
       simp at q2
       clear hb2 q1
       go_wp2_with fail
       refine (HCe.out _ rfl _).mono ?_
       rintro e w3 ⟨rfl, hb3⟩
       have X3 := hid (Blk.below X2.out hb3 (Blk.lt X2.out))
       have Y3 := hid (Y2.out.trans (hb3.mono Y2.out.size))
       have q3 := Blk.cell X3.out 4
       simp at q3
       clear hb3 q2
       go_wp2_with fail
       refine (HDe.out _ rfl _).mono ?_
       rintro e w4 ⟨rfl, hb4⟩
       have X4 := hid (Blk.below X3.out hb4 (Blk.lt X3.out))
       have Y4 := hid (Y3.out.trans (hb4.mono Y3.out.size))
       clear hb4 q3
       go_wp2
       go_ret
       exact ⟨by rw [HE.out]; rfl, Y4.out⟩
      ·go_enter Tryz.func92, Tryz.ntmps92
       go_wp2_with fail
       refine (HN.out _ rfl _).mono ?_
       rintro e w1 ⟨rfl, hb1⟩
       have X1 := hid (Blk.below HX.out hb1 (Blk.lt HX.out))
       have Y1 := hid (HY.out.trans (hb1.mono HY.out.size))
       have q1 := Blk.cell X1.out 2
       simp at q1
       clear hb1
       go_wp2_with fail
       refine (HBe.out _ rfl _).mono ?_
       rintro e w2 ⟨rfl, hb2⟩
       have X2 := hid (Blk.below X1.out hb2 (Blk.lt X1.out))
       have Y2 := hid (Y1.out.trans (hb2.mono Y1.out.size))
       have q2 := Blk.cell X2.out 3
       simp at q2
       clear hb2 q1
       go_wp2_with fail
       refine (HCe.out _ rfl _).mono ?_
       rintro e w3 ⟨rfl, hb3⟩
       have X3 := hid (Blk.below X2.out hb3 (Blk.lt X2.out))
       have Y3 := hid (Y2.out.trans (hb3.mono Y2.out.size))
       have q3 := Blk.cell X3.out 4
       simp at q3
       clear hb3 q2
       go_wp2_with fail
       refine (HDe.out _ rfl _).mono ?_
       rintro e w4 ⟨rfl, hb4⟩
       have X4 := hid (Blk.below X3.out hb4 (Blk.lt X3.out))
       have Y4 := hid (Y3.out.trans (hb4.mono Y3.out.size))
       clear hb4 q3
       go_wp2
       go_ret
       exact ⟨by rw [HE.out]; rfl, Y4.out⟩
  ·rw [show edgeB 5 = true from rfl, show moreB 5 = true from rfl] at HE
   have HBe := hid (HB.out true)
   have HCe := hid (HC.out true)
   have HDe := hid (HD.out true)
   clear HB HC HD
   generalize heldB b.data.toList true = nb at *
   generalize heldB c.data.toList true = nc at *
   generalize heldB d.data.toList true = nd at *
   cases na
   ·clear HBe HCe HDe
    go_enter Tryz.func92, Tryz.ntmps92
    go_wp2_with fail
    refine (HN.out _ rfl _).mono ?_
    rintro e w1 ⟨rfl, hb1⟩
    have X1 := hid (Blk.below HX.out hb1 (Blk.lt HX.out))
    have Y1 := hid (HY.out.trans (hb1.mono HY.out.size))
    clear hb1
    go_wp2
    go_ret
    exact ⟨by rw [HE.out]; rfl, Y1.out⟩
   ·cases nb
    ·clear HCe HDe
     go_enter Tryz.func92, Tryz.ntmps92
     go_wp2_with fail
     refine (HN.out _ rfl _).mono ?_
     rintro e w1 ⟨rfl, hb1⟩
     have X1 := hid (Blk.below HX.out hb1 (Blk.lt HX.out))
     have Y1 := hid (HY.out.trans (hb1.mono HY.out.size))
     have q1 := Blk.cell X1.out 2
     simp at q1
     clear hb1
     go_wp2_with fail
     refine (HBe.out _ rfl _).mono ?_
     rintro e w2 ⟨rfl, hb2⟩
     have X2 := hid (Blk.below X1.out hb2 (Blk.lt X1.out))
     have Y2 := hid (Y1.out.trans (hb2.mono Y1.out.size))
     clear hb2 q1
     go_wp2
     go_ret
     exact ⟨by rw [HE.out]; rfl, Y2.out⟩
    ·cases nc
     ·clear HDe
      go_enter Tryz.func92, Tryz.ntmps92
      go_wp2_with fail
      refine (HN.out _ rfl _).mono ?_
      rintro e w1 ⟨rfl, hb1⟩
      have X1 := hid (Blk.below HX.out hb1 (Blk.lt HX.out))
      have Y1 := hid (HY.out.trans (hb1.mono HY.out.size))
      have q1 := Blk.cell X1.out 2
      simp at q1
      clear hb1
      go_wp2_with fail
      refine (HBe.out _ rfl _).mono ?_
      rintro e w2 ⟨rfl, hb2⟩
      have X2 := hid (Blk.below X1.out hb2 (Blk.lt X1.out))
      have Y2 := hid (Y1.out.trans (hb2.mono Y1.out.size))
      have q2 := Blk.cell X2.out 3
      simp at q2
      clear hb2 q1
      go_wp2_with fail
      refine (HCe.out _ rfl _).mono ?_
      rintro e w3 ⟨rfl, hb3⟩
      have X3 := hid (Blk.below X2.out hb3 (Blk.lt X2.out))
      have Y3 := hid (Y2.out.trans (hb3.mono Y2.out.size))
      clear hb3 q2
      go_wp2
      go_ret
      exact ⟨by rw [HE.out]; rfl, Y3.out⟩
     ·cases nd
      ·go_enter Tryz.func92, Tryz.ntmps92
       go_wp2_with fail
       refine (HN.out _ rfl _).mono ?_
       rintro e w1 ⟨rfl, hb1⟩
       have X1 := hid (Blk.below HX.out hb1 (Blk.lt HX.out))
       have Y1 := hid (HY.out.trans (hb1.mono HY.out.size))
       have q1 := Blk.cell X1.out 2
       simp at q1
       clear hb1
       go_wp2_with fail
       refine (HBe.out _ rfl _).mono ?_
       rintro e w2 ⟨rfl, hb2⟩
       have X2 := hid (Blk.below X1.out hb2 (Blk.lt X1.out))
       have Y2 := hid (Y1.out.trans (hb2.mono Y1.out.size))
       have q2 := Blk.cell X2.out 3
       simp at q2
       clear hb2 q1
       go_wp2_with fail
       refine (HCe.out _ rfl _).mono ?_
       rintro e w3 ⟨rfl, hb3⟩
       have X3 := hid (Blk.below X2.out hb3 (Blk.lt X2.out))
       have Y3 := hid (Y2.out.trans (hb3.mono Y2.out.size))
       have q3 := Blk.cell X3.out 4
       simp at q3
       clear hb3 q2
       go_wp2_with fail
       refine (HDe.out _ rfl _).mono ?_
       rintro e w4 ⟨rfl, hb4⟩
       have X4 := hid (Blk.below X3.out hb4 (Blk.lt X3.out))
       have Y4 := hid (Y3.out.trans (hb4.mono Y3.out.size))
       clear hb4 q3
       go_wp2
       go_ret
       exact ⟨by rw [HE.out]; rfl, Y4.out⟩
      ·go_enter Tryz.func92, Tryz.ntmps92
       go_wp2_with fail
       refine (HN.out _ rfl _).mono ?_
       rintro e w1 ⟨rfl, hb1⟩
       have X1 := hid (Blk.below HX.out hb1 (Blk.lt HX.out))
       have Y1 := hid (HY.out.trans (hb1.mono HY.out.size))
       have q1 := Blk.cell X1.out 2
       simp at q1
       clear hb1
       go_wp2_with fail
       refine (HBe.out _ rfl _).mono ?_
       rintro e w2 ⟨rfl, hb2⟩
       have X2 := hid (Blk.below X1.out hb2 (Blk.lt X1.out))
       have Y2 := hid (Y1.out.trans (hb2.mono Y1.out.size))
       have q2 := Blk.cell X2.out 3
       simp at q2
       clear hb2 q1
       go_wp2_with fail
       refine (HCe.out _ rfl _).mono ?_
       rintro e w3 ⟨rfl, hb3⟩
       have X3 := hid (Blk.below X2.out hb3 (Blk.lt X2.out))
       have Y3 := hid (Y2.out.trans (hb3.mono Y2.out.size))
       have q3 := Blk.cell X3.out 4
       simp at q3
       clear hb3 q2
       go_wp2_with fail
       refine (HDe.out _ rfl _).mono ?_
       rintro e w4 ⟨rfl, hb4⟩
       have X4 := hid (Blk.below X3.out hb4 (Blk.lt X3.out))
       have Y4 := hid (Y3.out.trans (hb4.mono Y3.out.size))
       clear hb4 q3
       go_wp2
       go_ret
       exact ⟨by rw [HE.out]; rfl, Y4.out⟩
 ·have h1 : ¬ k = 1 := by omega
  have h2 : ¬ k = 2 := by omega
  have h3 : ¬ k = 3 := by omega
  have h4 : ¬ k = 4 := by omega
  have h5 : ¬ k = 5 := by omega
  rw [decide_eq_false hk, Bool.false_and] at HE
  clear hk
  have g1 : (k == 1) = false := beq_eq_false_iff_ne.2 h1
  have g2 : (k == 2) = false := beq_eq_false_iff_ne.2 h2
  have g3 : (k == 3) = false := beq_eq_false_iff_ne.2 h3
  have g4 : (k == 4) = false := beq_eq_false_iff_ne.2 h4
  have g5 : (k == 5) = false := beq_eq_false_iff_ne.2 h5
  clear h1 h2 h3 h4 h5
  go_enter Tryz.func92, Tryz.ntmps92
  go_wp2
  go_ret
  exact ⟨by rw [HE.out]; rfl, HY.out⟩
end Go.Proofs.YtdgglhlofnigkaaGreatDoor
