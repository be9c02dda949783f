import Derived.Test.YtgjpkpmikbpcnaaOCelG
set_option maxRecDepth 100000
set_option maxHeartbeats 1600000
namespace Go.Proofs.Ytgjpkpmikbpcnaa.Ld
open Go.RowKit
def I64 (x:Int):Prop:=-9223372036854775808≤x∧x≤9223372036854775807
/-- All numbers are ints. -/
def Fit (zs:List Int):Prop:=∀ k, k<zs.length→I64 zs[k]!
theorem yd2 (x:Int):subF x (-9223372036854775808)=(0, 10):=by
  unfold subF; rw [if_neg (by decide)]
theorem yd1 (x y:Int):subF x y=(addV x (-y), addE x (-y)):=by
  unfold subF
  split
  · rfl
  · rename_i h
    have h1:fitsB y=false:=by simpa using h
    have h2:fitsB (-y)=false:=by rw [xQ] at h1 ⊢; omega
    simp [addV, addE, addOk, h2]
theorem ygI (x:Int):addV x (-9223372036854775808)=0∧addE x (-9223372036854775808)=10:=by
  have h2:fitsB (-9223372036854775808)=false:=by decide
  simp [addV, addE, addOk, h2]
section
variable {w:World} {a b:Option Addr} {ca cb n m p1 p2 i:Nat} {xs ys:List Int}
theorem ygJ (h1:w.cell? ⟨p1, 0, none⟩=some (.slice a n ca)) (h2:w.cell? ⟨p2, 0, none⟩=some (.slice b n cb)) (ha:IntsAt w a xs) (hb:IntsAt w b ys) (hn:xs.length=n) (hm:ys.length=n) (hi:i<n) :
    Calls Try.prog 115 #[.int .i64 i, .pointer (some ⟨p1, 0, none⟩), .pointer (some ⟨p2, 0, none⟩)] w fun e w'=>e=.returned (.tuple #[.int .i64 (addF xs[i]! ys[i]!).1, .int .i64 (addF xs[i]! ys[i]!).2])∧∃ q, w'=w.drewN q:=by
  obtain ⟨b1, o1, rfl, c1⟩:=ha i (by omega)
  obtain ⟨b2, o2, rfl, c2⟩:=hb i (by omega)
  clear ha hb hn hm
  generalize xs[i]! = x at c1 ⊢
  generalize ys[i]! = y at c2 ⊢
  have i1:(i:Int)<(n:Int):=by omega
  go_enter Try.func115, Try.ntmps115
  go_wp2
  go_quiet ((go_at_call 116; exact Calls.quiet_of_same (qV _ _ _)))
  go_wp2
  go_ret2
  exact ⟨rfl, _, rfl⟩
theorem yd3 (h1:w.cell? ⟨p1, 0, none⟩=some (.slice a n ca)) (h2:w.cell? ⟨p2, 0, none⟩=some (.slice b n cb)) (ha:IntsAt w a xs) (hb:IntsAt w b ys) (hn:xs.length=n) (hm:ys.length=n) (hi:i<n) (hf:Fit ys) :
    Calls Try.prog 131 #[.int .i64 i, .pointer (some ⟨p1, 0, none⟩), .pointer (some ⟨p2, 0, none⟩)] w fun e w'=>e=.returned (.tuple #[.int .i64 (subF xs[i]! ys[i]!).1, .int .i64 (subF xs[i]! ys[i]!).2])∧∃ q, w'=w.drewN q:=by
  obtain ⟨b1, o1, rfl, c1⟩:=ha i (by omega)
  obtain ⟨b2, o2, rfl, c2⟩:=hb i (by omega)
  obtain ⟨y1, y2⟩:=hf i (by omega)
  clear ha hb hn hm hf
  generalize xs[i]! = x at c1 ⊢
  generalize ys[i]! = y at c2 y1 y2 ⊢
  have i1:(i:Int)<(n:Int):=by omega
  by_cases hy:y=-9223372036854775808
  · subst hy
    have HS:=hide (yd2 x)
    have HA:=hide (ygI x)
    clear y1 y2
    rw [HS.out]
    go_enter Try.func131, Try.ntmps131
    go_wp2
    go_quiet ((go_at_call 116; exact Calls.quiet_of_same (qV _ _ _)))
    go_wp2
    go_ret2
    exact ⟨by have e:wrap64 9223372036854775808=-9223372036854775808:=by first | rfl | (unfold wrap64; omega) | kernel_rfl
              simp [e, HA.out.1, HA.out.2], _, rfl⟩
  · have y3:-9223372036854775807≤y:=by omega
    have HS:=hide (yd1 x y)
    clear y1 hy
    rw [HS.out]
    go_enter Try.func131, Try.ntmps131
    go_wp2
    go_quiet ((go_at_call 116; exact Calls.quiet_of_same (qV _ _ _)))
    go_wp2
    go_ret2
    exact ⟨rfl, _, rfl⟩
end
/-- The row in the making. -/
def mB (F:Int→Int→Int × Int) (xs ys:List Int) (n k:Nat):List Int:=(List.range n).map fun j=>if j<k then (F xs[j]! ys[j]!).1 else 0
theorem qL (F:Int→Int→Int × Int) (xs ys:List Int) (n k:Nat):(mB F xs ys n k).length=n:=by simp [mB]
theorem yb8 (F:Int→Int→Int × Int) (xs ys:List Int) (n:Nat):mB F xs ys n 0=List.replicate n 0:=by
  apply List.ext_getElem
  · simp [mB]
  · intro i h1 h2; simp [mB]
theorem yeI (F:Int→Int→Int × Int) (xs ys:List Int) (n:Nat):mB F xs ys n n=(List.range n).map fun j=>(F xs[j]! ys[j]!).1:=by
  unfold mB
  apply List.map_congr_left
  intro j hj
  rw [if_pos (List.mem_range.1 hj)]
theorem yb9 (F:Int→Int→Int × Int) (xs ys:List Int) (n k:Nat):mB F xs ys n (k+1)=(mB F xs ys n k).set k (F xs[k]! ys[k]!).1:=by
  apply List.ext_getElem
  · simp [mB]
  · intro i h1 h2
    rw [List.getElem_set]
    simp only [mB, List.getElem_map, List.getElem_range]
    by_cases e:k=i
    · subst e; rw [if_pos rfl, if_pos (by omega)]
    · rw [if_neg e]
      by_cases h:i<k
      · rw [if_pos (by omega), if_pos h]
      · rw [if_neg (by omega), if_neg h]
theorem xV {w:World} {a b:Option Addr} {ca cb n m p1 p2:Nat} {xs ys:List Int} (G:FuncId) (F:Int→Int→Int × Int) (hent:∀ args w, (callFunc G args).run Try.prog w=.ok (.enter G args) w)
    (hn:xs.length=n) (hm:ys.length=m) (hl:n≤1000) (hl2:m≤9223372036854775807)
    (hC:∀ w' i, xs.length=ys.length→Below w.heap.size w w'→i<n→Calls Try.prog G #[.int .i64 (i:Int), .pointer (some ⟨p1, 0, none⟩), .pointer (some ⟨p2, 0, none⟩)] w' fun e w''=>e=.returned (.tuple #[.int .i64 (F xs[i]! ys[i]!).1, .int .i64 (F xs[i]! ys[i]!).2])∧∃ q, w''=w'.drewN q) :
    Calls Try.prog 114 #[.slice a n ca, .slice b m cb, .func (.func G) #[] #[.pointer (some ⟨p1, 0, none⟩), .pointer (some ⟨p2, 0, none⟩)]] w fun e w'=>∃ a' c', e=.returned (.tuple #[.slice a' (eachM F xs ys).1.length c', .int .i64 (eachM F xs ys).2])∧IRow w' w.heap.size (.slice a' (eachM F xs ys).1.length c') (eachM F xs ys).1∧Below w.heap.size w w':=by
  by_cases hnm:n=m
  · have HL:Hid (xs.length=ys.length):=by show _=_; omega
    have HC:=hide (fun w' i=>hC w' i HL.out)
    have HN:=hide hn
    subst hnm
    have z0:((n:Int) != (n:Int))=false:=by simp
    have hmk:=made_ints n hl w
    have HB0:Hid (Below w.heap.size w (w.alloc (.cells (Array.replicate n (.int .i64 0)) 3))):=Mn.a
    have HR0:Hid (IRow (w.alloc (.cells (Array.replicate n (.int .i64 0)) 3)) w.heap.size (.slice (some ⟨w.heap.size, 0, none⟩) n n) (mB F xs ys n 0)):=by
      show IRow _ _ _ _
      rw [yb8]; exact irow_made w (Nat.le_refl _) hl
    clear hC hn hm
    go_enter Try.func114, Try.ntmps114
    go_wp2
    clear hmk
    generalize w.alloc (.cells (Array.replicate n (.int .i64 0)) 3)=W0 at HB0 HR0 ⊢
    obtain ⟨B, hB⟩:∃ B, w.heap.size=B:=⟨_, rfl⟩
    have HB:=hide hB
    rw [hB] at HB0 HR0 HC ⊢
    clear hB
    go_loopw [22] (fun vi wr=>∃ i:Nat, vi=.int .i64 i∧i≤n∧Hid (∀ j, j<i→(F xs[j]! ys[j]!).2=0)∧Hid (Below B w wr∧IRow wr B (.slice (some ⟨B, 0, none⟩) n n) (mB F xs ys n i))) (fun vi _=>n-(intOf vi).toNat)
    case atStart=>exact ⟨0, rfl, Nat.zero_le _, fun j hj=>absurd hj (Nat.not_lt_zero j), HB0.out, HR0.out⟩
    case round =>
      clear HB0 HR0
      obtain ⟨i, rfl, hi, HI, HR⟩:=hrel
      by_cases hil:i<n
      · have i1:(i:Int)<(n:Int):=by omega
        have HCi:=hide (HC.out wr i HR.out.1 hil)
        have HK:=hide (yb9 F xs ys n i)
        obtain ⟨v, e, hve⟩:∃ v e, Hid (F xs[i]! ys[i]! = (v, e)):=⟨_, _, rfl⟩
        rw [hve.out] at HCi HK
        by_cases he:e=0
        · subst he
          have z1:((0:Int) != 0)=false:=by simp
          have HI2:Hid (∀ j, j<i+1→(F xs[j]! ys[j]!).2=0):=fun j hj=>by
            by_cases e:j=i
            · rw [e, hve.out]
            · exact HI.out j (by omega)
          have HRQ:Hid (∀ q, (wr.drewN q).cell? ⟨B, i, none⟩=some (.int .i64 (mB F xs ys n i)[i]!)∧(wr.drewN q).frozen? ⟨B, i, none⟩=false∧Below B w ((wr.drewN q).setCell ⟨B, i, none⟩ (.int .i64 v))∧IRow ((wr.drewN q).setCell ⟨B, i, none⟩ (.int .i64 v)) B (.slice (some ⟨B, 0, none⟩) n n) (mB F xs ys n (i+1))):=fun q=>by
            have h:=HR.out.2.drewN q
            refine ⟨h.cell i (by rw [qL]; exact hil), h.frozen i, (below_drewN HR.out.1 q).setCell (Nat.le_refl _) _, ?_⟩
            rw [HK.out]
            exact h.set i v
          clear HR HK hve
          go_wp2_with (go_at_fn G; refine HCi.out.mono ?_; rintro e w1 ⟨rfl, q, hw⟩; rw [hw]; clear hw; have hc:=(HRQ.out q).1; have hf:=(HRQ.out q).2.1)
          go_roundw
          case rel=>exact ⟨i+1, by go_num, by omega, HI2.out, (HRQ.out q).2.2⟩
          case measure=>simp [intOf]; omega
        · have z1:(e != 0)=true:=by simpa using he
          have HF:Hid (eachM F xs ys=([], e)):=by
            show _=_
            rw [ydE HL.out (by rw [HN.out]; exact hil) HI.out (by rw [hve.out]; exact he), hve.out]
          go_wp2_with (go_at_fn G; refine HCi.out.mono ?_; rintro e w1 ⟨rfl, q, hw⟩; rw [hw]; clear hw)
          go_ret2
          exact ⟨none, 0, by rw [HF.out]; rfl, by rw [HF.out]; exact xK _ _, by rw [HB.out]; exact below_drewN HR.out.1 _⟩
      · have i1:¬ (i:Int)<(n:Int):=by omega
        have HF:Hid (eachM F xs ys=(mB F xs ys n n, 0)):=by
          show _=_
          rw [eachM_ok HL.out (fun j hj=>HI.out j (by have:=HN.out; omega)), HN.out, yeI]
        have hin:i=n:=by omega
        subst hin
        go_wp2
        go_ret2
        refine ⟨some ⟨B, 0, none⟩, i, ?_, ?_, by rw [HB.out]; exact HR.out.1⟩
        · rw [HF.out]; simp [qL]
        · rw [HF.out, HB.out]; simp only [qL]; exact HR.out.2
  · have HF:Hid (eachM F xs ys=([], 43)):=yfR (by omega)
    have z0:((n:Int) != (m:Int))=true:=by simp; omega
    rw [HF.out]
    clear hC hn hm
    go_enter Try.func114, Try.ntmps114
    go_wp2
    go_ret2
    exact ⟨none, 0, rfl, xK _ _, Below.refl _ _⟩
theorem hent22 (args:Array Value) (w:World):(callFunc 115 args).run Try.prog w=.ok (.enter 115 args) w:=Go.Proofs.enters_of Try.func115 (by kernel_rfl) rfl args w
theorem hent26 (args:Array Value) (w:World):(callFunc 131 args).run Try.prog w=.ok (.enter 131 args) w:=Go.Proofs.enters_of Try.func131 (by kernel_rfl) rfl args w
section
variable {w:World} {a b:Option Addr} {ca cb n m:Nat} {xs ys:List Int}
theorem sE (w:World) (u v:Value):((w.alloc (.cells #[u] 22)).alloc (.cells #[v] 22)).cell? ⟨w.heap.size, 0, none⟩=some u∧((w.alloc (.cells #[u] 22)).alloc (.cells #[v] 22)).cell? ⟨w.heap.size+1, 0, none⟩=some v∧Below w.heap.size w ((w.alloc (.cells #[u] 22)).alloc (.cells #[v] 22)):=by
  refine ⟨?_, ?_, Mn.a.alloc (by simp) _⟩
  · rw [World.cell?_alloc_lt _ _ _ (by simp)]
    rw [cell_of_row _ w.heap.size 0 _ _ _ (heap_alloc_new _ _)]; rfl
  · have:=cell_of_row _ (w.alloc (.cells #[u] 22)).heap.size 0 _ _ _ (heap_alloc_new (w.alloc (.cells #[u] 22)) (.cells #[v] 22))
    rw [show (w.alloc (.cells #[u] 22)).heap.size=w.heap.size+1 by simp] at this
    rw [this]; rfl
theorem add_any (ha:IntsAt w a xs) (hb:IntsAt w b ys) (hn:xs.length=n) (hm:ys.length=m) (hl:n≤1000) (hl2:m≤9223372036854775807) :
    Calls Try.prog 80 #[.slice a n ca, .slice b m cb] w fun e w'=>∃ a' c', e=.returned (.tuple #[.slice a' (eachM addF xs ys).1.length c', .int .i64 (eachM addF xs ys).2])∧IRow w' w.heap.size (.slice a' (eachM addF xs ys).1.length c') (eachM addF xs ys).1∧Below w.heap.size w w':=by
  obtain ⟨k1, k2, k3⟩:=sE w (.slice a n ca) (.slice b m cb)
  have HK:=hide k3
  have HE:=hide (xV (w:=(w.alloc (.cells #[.slice a n ca] 22)).alloc (.cells #[.slice b m cb] 22)) (a:=a) (b:=b) (ca:=ca) (cb:=cb) (p1:=w.heap.size) (p2:=w.heap.size+1) 115 addF hent22 hn hm hl hl2 (fun w' i he hb' hi=>by
    have e:n=m:=by omega
    subst e
    have hs:=hb'.size
    have f1:w.heap.size<((w.alloc (.cells #[.slice a n ca] 22)).alloc (.cells #[.slice b n cb] 22)).heap.size:=by simp; omega
    have f2:w.heap.size+1<((w.alloc (.cells #[.slice a n ca] 22)).alloc (.cells #[.slice b n cb] 22)).heap.size:=by simp
    exact ygJ ((hb'.cell (p:=⟨w.heap.size, 0, none⟩) f1).trans k1) ((hb'.cell (p:=⟨w.heap.size+1, 0, none⟩) f2).trans k2) ((ha.later k3).later hb') ((hb.later k3).later hb') hn hm hi))
  clear ha hb hn hm k3
  go_enter Try.func80, Try.ntmps80
  go_wp2_with (go_at_call 114; refine HE.out.mono ?_; rintro e w1 ⟨a1, c1, rfl, h1, h2⟩)
  go_ret2
  exact ⟨a1, c1, rfl, h1.mono HK.out.size, HK.out.trans (h2.mono HK.out.size)⟩
theorem sub_any (ha:IntsAt w a xs) (hb:IntsAt w b ys) (hn:xs.length=n) (hm:ys.length=m) (hl:n≤1000) (hl2:m≤9223372036854775807) (hf:Fit ys) :
    Calls Try.prog 117 #[.slice a n ca, .slice b m cb] w fun e w'=>∃ a' c', e=.returned (.tuple #[.slice a' (eachM subF xs ys).1.length c', .int .i64 (eachM subF xs ys).2])∧IRow w' w.heap.size (.slice a' (eachM subF xs ys).1.length c') (eachM subF xs ys).1∧Below w.heap.size w w':=by
  obtain ⟨k1, k2, k3⟩:=sE w (.slice a n ca) (.slice b m cb)
  have HK:=hide k3
  have HE:=hide (xV (w:=(w.alloc (.cells #[.slice a n ca] 22)).alloc (.cells #[.slice b m cb] 22)) (a:=a) (b:=b) (ca:=ca) (cb:=cb) (p1:=w.heap.size) (p2:=w.heap.size+1) 131 subF hent26 hn hm hl hl2 (fun w' i he hb' hi=>by
    have e:n=m:=by omega
    subst e
    have hs:=hb'.size
    have f1:w.heap.size<((w.alloc (.cells #[.slice a n ca] 22)).alloc (.cells #[.slice b n cb] 22)).heap.size:=by simp; omega
    have f2:w.heap.size+1<((w.alloc (.cells #[.slice a n ca] 22)).alloc (.cells #[.slice b n cb] 22)).heap.size:=by simp
    exact yd3 ((hb'.cell (p:=⟨w.heap.size, 0, none⟩) f1).trans k1) ((hb'.cell (p:=⟨w.heap.size+1, 0, none⟩) f2).trans k2) ((ha.later k3).later hb') ((hb.later k3).later hb') hn hm hi hf))
  clear ha hb hn hm k3
  go_enter Try.func117, Try.ntmps117
  go_wp2_with (go_at_call 114; refine HE.out.mono ?_; rintro e w1 ⟨a1, c1, rfl, h1, h2⟩)
  go_ret2
  exact ⟨a1, c1, rfl, h1.mono HK.out.size, HK.out.trans (h2.mono HK.out.size)⟩
end
end Go.Proofs.Ytgjpkpmikbpcnaa.Ld
