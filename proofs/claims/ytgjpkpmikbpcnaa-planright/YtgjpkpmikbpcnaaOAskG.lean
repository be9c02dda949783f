import Derived.Test.YtgjpkpmikbpcnaaOChkAG
set_option maxRecDepth 100000
set_option maxHeartbeats 3200000
namespace Go.Proofs.Ytgjpkpmikbpcnaa
open Go.RowKit
abbrev Tsk:=Bool × Int
def bM (p:Prb) (t:Tsk):Bool:=if t.1=true then upB t.2 ((p.ss.length:Int)-1) else upB t.2 ((p.js.length:Int)-1)
def o5 (p:Prb) (t:Tsk):Int:=if bM p t=true then (if t.1=true then (p.ss.getD t.2.toNat hz).prio else (p.js.getD t.2.toNat jz).prio) else 0
def gJ (p:Prb) (t:Tsk):Int:=if bM p t=true then (if t.1=true then (p.ss.getD t.2.toNat hz).skills else (p.js.getD t.2.toNat jz).skills) else 0
theorem iE {p:Prb} {i:Int} (h:bM p (true,i)=true):∃ k:Nat,i=k∧k<p.ss.length:=by
 have:=upB_iff.1 (show upB i ((p.ss.length:Int)-1)=true from h);exact ⟨i.toNat,by omega,by omega⟩
theorem lG {p:Prb} {i:Int} (h:bM p (false,i)=true):∃ k:Nat,i=k∧k<p.js.length:=by
 have:=upB_iff.1 (show upB i ((p.js.length:Int)-1)=true from h);exact ⟨i.toNat,by omega,by omega⟩
theorem ycC {p:Prb} {k:Nat} (h:bM p (true,(k:Int))=true):o5 p (true,(k:Int))=(p.ss.getD k hz).prio:=by
 unfold o5;rw [if_pos h];simp
theorem yeN {p:Prb} {k:Nat} (h:bM p (false,(k:Int))=true):o5 p (false,(k:Int))=(p.js.getD k jz).prio:=by
 unfold o5;rw [if_pos h];simp
theorem wJ {p:Prb} {k:Nat} (h:bM p (true,(k:Int))=true):gJ p (true,(k:Int))=(p.ss.getD k hz).skills:=by
 unfold gJ;rw [if_pos h];simp
theorem yaO {p:Prb} {k:Nat} (h:bM p (false,(k:Int))=true):gJ p (false,(k:Int))=(p.js.getD k jz).skills:=by
 unfold gJ;rw [if_pos h];simp
theorem prio_no {p:Prb} {t:Tsk} (h:bM p t=false):o5 p t=0:=by unfold o5;rw [h];rfl
theorem wK {p:Prb} {t:Tsk} (h:bM p t=false):gJ p t=0:=by unfold gJ;rw [h];rfl
theorem cL {w:World} {v:Value} {L:List Shp} {k:Nat} (h:ShpsV w v L) (hk:k<L.length):∃ b off c x1 x2 xa,v=.slice (some ⟨b,off,none⟩) L.length c∧b<w.heap.size∧(∀ j,j<9→w.cell? ⟨b,off+k*9+j,none⟩=(rP (L.getD k hz) x1 x2 xa)[j]?)∧WinsV w x1 (L.getD k hz).pick.wins∧WinsV w x2 (L.getD k hz).deli.wins∧IntsV w xa (L.getD k hz).amt:=by
 obtain ⟨a,c,rfl,_,_,hc⟩:=h;obtain ⟨b,off,l,rfl,hl,hcs,x1,x2,xa,rfl,q1,q2,q3,_⟩:=hc k hk;have h0:w.cell? ⟨b,off+k*9+0,none⟩=some _:=hcs 0 (by decide);exact ⟨b,off,c,x1,x2,xa,rfl,block_lt_of_cell h0,hcs,q1,q2,q3⟩
theorem dM {w:World} {v:Value} {L:List Jb} {k:Nat} (h:JobsV w v L) (hk:k<L.length):∃ b off c x1 x2 xa,v=.slice (some ⟨b,off,none⟩) L.length c∧b<w.heap.size∧(∀ j,j<7→w.cell? ⟨b,off+k*7+j,none⟩=(pH (L.getD k jz) x1 x2 xa)[j]?)∧WinsV w x1 (L.getD k jz).stop.wins∧IntsV w x2 (L.getD k jz).drop∧IntsV w xa (L.getD k jz).pick:=by
 obtain ⟨a,c,rfl,_,_,hc⟩:=h;obtain ⟨b,off,l,rfl,hl,hcs,x1,x2,xa,rfl,q1,q2,q3,_⟩:=hc k hk;have h0:w.cell? ⟨b,off+k*7+0,none⟩=some _:=hcs 0 (by decide);exact ⟨b,off,c,x1,x2,xa,rfl,block_lt_of_cell h0,hcs,q1,q2,q3⟩
theorem fF {w:World} {x:aU} {p:Prb} (h:PrbV w x p) (s:Bool) (i:Int):Calls Try.prog 26 #[.agg (aL p x),.agg #[.bool s,.int .i64 i]] w fun e w'=>e=.returned (.bool (bM p (s,i)))∧Below w.heap.size w w':=by
 obtain ⟨ta,tc,da,dc,va,vc,ja,jc,sa,sc,rfl⟩:=h.open;have HB0:Hid (∀ A B,Below w.heap.size w ((w.alloc A).alloc B)):=fun A B=>((Below.refl _ _).alloc (Nat.le_refl _) A).alloc (by simp) B;unfold aL bM;clear h
 cases s with
 | true =>
  go_enter Try.func26,Try.ntmps26;go_wp2_with (go_at_call 58;refine (jI _ _ _).mono ?_;rintro e w' ⟨rfl,rfl⟩);go_ret;exact ⟨rfl,HB0.out _ _⟩
 | false =>
  go_enter Try.func26,Try.ntmps26;go_wp2_with (go_at_call 58;refine (jI _ _ _).mono ?_;rintro e w' ⟨rfl,rfl⟩);go_ret;exact ⟨rfl,HB0.out _ _⟩
theorem dF {w:World} {x:aU} {p:Prb} (h:PrbV w x p) (s:Bool) (i:Int):Calls Try.prog 27 #[.agg (aL p x),.agg #[.bool s,.int .i64 i]] w fun e w'=>e=.returned (.bool (bM p (s,i)))∧Below w.heap.size w w':=by
 obtain ⟨ta,tc,da,dc,va,vc,ja,jc,sa,sc,rfl⟩:=h.open;have hj:=SlV.bound h.j;have hs:=SlV.bound h.s;have HB0:Hid (∀ A B,Below w.heap.size w ((w.alloc A).alloc B)):=fun A B=>((Below.refl _ _).alloc (Nat.le_refl _) A).alloc (by simp) B;unfold aL bM;clear h
 cases s with
 | true =>
  go_enter Try.func27,Try.ntmps27;go_wp2_with (go_at_call 59;refine (bI _ _ _).mono ?_;rintro e w' ⟨rfl,rfl⟩);go_ret;exact ⟨rfl,HB0.out _ _⟩
 | false =>
  go_enter Try.func27,Try.ntmps27;go_wp2_with (go_at_call 59;refine (bI _ _ _).mono ?_;rintro e w' ⟨rfl,rfl⟩);go_ret;exact ⟨rfl,HB0.out _ _⟩
theorem uN {w:World} {x:aU} {p:Prb} (h:PrbV w x p) (s:Bool) (i:Int):Calls Try.prog 29 #[.agg (aL p x),.agg #[.bool s,.int .i64 i]] w fun e w'=>e=.returned (.int .u64 (gJ p (s,i)))∧Below w.heap.size w w':=by
 have HP:=hide h;have HB0:Hid (∀ A B,Below w.heap.size w ((w.alloc A).alloc B)):=fun A B=>((Below.refl _ _).alloc (Nat.le_refl _) A).alloc (by simp) B;obtain ⟨bb,hbb⟩:∃ b,bM p (s,i)=b:=⟨_,rfl⟩;have HT:=hide hbb
 cases bb with
 | false =>
  obtain ⟨ta,tc,da,dc,va,vc,ja,jc,sa,sc,rfl⟩:=h.open;rw [wK hbb];clear hbb h;unfold aL;go_enter Try.func29,Try.ntmps29;go_wp2_with (go_at_call 26;refine (fF (HP.out.on (HB0.out _ _)) _ _).mono ?_;rintro e w1 ⟨rfl,k1⟩;rw [HT.out];obtain ⟨hc1,hf1⟩:=aA k1;have K1:=hide k1;clear k1);go_ret;exact ⟨rfl,below_on (HB0.out _ _) K1.out⟩
 | true =>
  cases s with
  | true =>
   obtain ⟨k,rfl,hk⟩:=iE hbb;obtain ⟨b,off,cc,x1,x2,xa,he,hb,hcs,_,_,_⟩:=cL h.s hk;obtain ⟨ta,tc,da,dc,va,vc,ja,jc,sa,sc,rfl⟩:=h.open;simp only at he;injection he with he1 he2 he3;subst he1 he3;clear he2;have c7:w.cell? ⟨b,off+k*9+7,none⟩=some (.int .u64 (p.ss.getD k hz).skills):=hcs 7 (by decide);rw [wJ HT.out];obtain ⟨ln,hln⟩:∃ q,p.ss.length=q:=⟨_,rfl⟩;have hbd:=SlV.bound h.s;rw [hln] at hk HP hbd;have i1:(0:Int)≤(k:Int):=by omega
   have i2:(k:Int)<(ln:Int):=by omega
   unfold aL;rw [hln];clear hbb hcs h hln;go_enter Try.func29,Try.ntmps29;go_wp2_with (go_at_call 26;refine (fF (HP.out.on (HB0.out _ _)) _ _).mono ?_;rintro e w1 ⟨rfl,k1⟩;rw [HT.out];obtain ⟨hc1,hf1⟩:=aA k1;have d7:=(aA (below_on (HB0.out _ _) k1)).1 b (off+k*9+7) hb;rw [c7] at d7;have K1:=hide k1;clear k1);go_ret;exact ⟨rfl,below_on (HB0.out _ _) K1.out⟩
  | false =>
   obtain ⟨k,rfl,hk⟩:=lG hbb;obtain ⟨b,off,cc,x1,x2,xa,he,hb,hcs,_,_,_⟩:=dM h.j hk;obtain ⟨ta,tc,da,dc,va,vc,ja,jc,sa,sc,rfl⟩:=h.open;simp only at he;injection he with he1 he2 he3;subst he1 he3;clear he2;have c5:w.cell? ⟨b,off+k*7+5,none⟩=some (.int .u64 (p.js.getD k jz).skills):=hcs 5 (by decide);rw [yaO HT.out];obtain ⟨ln,hln⟩:∃ q,p.js.length=q:=⟨_,rfl⟩;have hbd:=SlV.bound h.j;rw [hln] at hk HP hbd;have i1:(0:Int)≤(k:Int):=by omega
   have i2:(k:Int)<(ln:Int):=by omega
   unfold aL;rw [hln];clear hbb hcs h hln;go_enter Try.func29,Try.ntmps29;go_wp2_with (go_at_call 26;refine (fF (HP.out.on (HB0.out _ _)) _ _).mono ?_;rintro e w1 ⟨rfl,k1⟩;rw [HT.out];obtain ⟨hc1,hf1⟩:=aA k1;have d5:=(aA (below_on (HB0.out _ _) k1)).1 b (off+k*7+5) hb;rw [c5] at d5;have K1:=hide k1;clear k1);go_ret;exact ⟨rfl,below_on (HB0.out _ _) K1.out⟩
theorem ydC {w:World} {x:aU} {p:Prb} (h:PrbV w x p) (s:Bool) (i:Int):Calls Try.prog 18 #[.agg (aL p x),.agg #[.bool s,.int .i64 i]] w fun e w'=>e=.returned (.tuple #[.int .i64 (o5 p (s,i)),.int .u64 (gJ p (s,i))])∧Below w.heap.size w w':=by
 have HP:=hide h;have HB0:Hid (∀ A B,Below w.heap.size w ((w.alloc A).alloc B)):=fun A B=>((Below.refl _ _).alloc (Nat.le_refl _) A).alloc (by simp) B;obtain ⟨bb,hbb⟩:∃ b,bM p (s,i)=b:=⟨_,rfl⟩;have HT:=hide hbb
 cases bb with
 | false =>
  obtain ⟨ta,tc,da,dc,va,vc,ja,jc,sa,sc,rfl⟩:=h.open;rw [prio_no hbb,wK hbb];clear hbb h;unfold aL;go_enter Try.func18,Try.ntmps18;go_wp2_with (go_at_call 27;refine (dF (HP.out.on (HB0.out _ _)) _ _).mono ?_;rintro e w1 ⟨rfl,k1⟩;rw [HT.out];obtain ⟨hc1,hf1⟩:=aA k1;have K1:=hide k1;clear k1)
  go_ret2
  exact ⟨rfl,below_on (HB0.out _ _) K1.out⟩
 | true =>
  cases s with
  | true =>
   obtain ⟨k,rfl,hk⟩:=iE hbb;obtain ⟨b,off,cc,x1,x2,xa,he,hb,hcs,_,_,_⟩:=cL h.s hk;obtain ⟨ta,tc,da,dc,va,vc,ja,jc,sa,sc,rfl⟩:=h.open;simp only at he;injection he with he1 he2 he3;subst he1 he3;clear he2;have c8:w.cell? ⟨b,off+k*9+8,none⟩=some (.int .i64 (p.ss.getD k hz).prio):=hcs 8 (by decide);have c7:w.cell? ⟨b,off+k*9+7,none⟩=some (.int .u64 (p.ss.getD k hz).skills):=hcs 7 (by decide);rw [ycC HT.out,wJ HT.out];obtain ⟨ln,hln⟩:∃ q,p.ss.length=q:=⟨_,rfl⟩;have hbd:=SlV.bound h.s;rw [hln] at hk HP hbd;have i1:(0:Int)≤(k:Int):=by omega
   have i2:(k:Int)<(ln:Int):=by omega
   unfold aL;rw [hln];clear hbb hcs h hln;go_enter Try.func18,Try.ntmps18;go_wp2_with (go_at_call 27;refine (dF (HP.out.on (HB0.out _ _)) _ _).mono ?_;rintro e w1 ⟨rfl,k1⟩;rw [HT.out];obtain ⟨hc1,hf1⟩:=aA k1;have d8:=(aA (below_on (HB0.out _ _) k1)).1 b (off+k*9+8) hb;rw [c8] at d8;have d7:=(aA (below_on (HB0.out _ _) k1)).1 b (off+k*9+7) hb;rw [c7] at d7;have K1:=hide k1;have e1:=hc1 w.heap.size 7 (by simp;omega);have e2:=hc1 (w.heap.size+1) 1 (by simp);simp [go_sem] at e1 e2;clear k1)
   go_quiet (fail)
   go_wp2
   go_ret2
   exact ⟨rfl,below_drewN (below_on (HB0.out _ _) K1.out) _⟩
  | false =>
   obtain ⟨k,rfl,hk⟩:=lG hbb;obtain ⟨b,off,cc,x1,x2,xa,he,hb,hcs,_,_,_⟩:=dM h.j hk;obtain ⟨ta,tc,da,dc,va,vc,ja,jc,sa,sc,rfl⟩:=h.open;simp only at he;injection he with he1 he2 he3;subst he1 he3;clear he2;have c6:w.cell? ⟨b,off+k*7+6,none⟩=some (.int .i64 (p.js.getD k jz).prio):=hcs 6 (by decide);have c5:w.cell? ⟨b,off+k*7+5,none⟩=some (.int .u64 (p.js.getD k jz).skills):=hcs 5 (by decide);rw [yeN HT.out,yaO HT.out];obtain ⟨ln,hln⟩:∃ q,p.js.length=q:=⟨_,rfl⟩;have hbd:=SlV.bound h.j;rw [hln] at hk HP hbd;have i1:(0:Int)≤(k:Int):=by omega
   have i2:(k:Int)<(ln:Int):=by omega
   unfold aL;rw [hln];clear hbb hcs h hln;go_enter Try.func18,Try.ntmps18;go_wp2_with (go_at_call 27;refine (dF (HP.out.on (HB0.out _ _)) _ _).mono ?_;rintro e w1 ⟨rfl,k1⟩;rw [HT.out];obtain ⟨hc1,hf1⟩:=aA k1;have d6:=(aA (below_on (HB0.out _ _) k1)).1 b (off+k*7+6) hb;rw [c6] at d6;have d5:=(aA (below_on (HB0.out _ _) k1)).1 b (off+k*7+5) hb;rw [c5] at d5;have K1:=hide k1;have e1:=hc1 w.heap.size 6 (by simp;omega);have e2:=hc1 (w.heap.size+1) 1 (by simp);simp [go_sem] at e1 e2;clear k1)
   go_quiet (fail)
   go_wp2
   go_ret2
   exact ⟨rfl,below_drewN (below_on (HB0.out _ _) K1.out) _⟩
end Go.Proofs.Ytgjpkpmikbpcnaa
namespace Go.Proofs.Ytgjpkpmikbpcnaa
open Go.RowKit
def ofM (k i:Int):(Bool × Int) × Bool:=if k=1 then ((false,i),true) else if k=2 then ((true,i),true) else if k=3 then ((true,i),true) else ((false,0),false)
def dZ (t:Bool × Int):Value:=.agg #[.bool t.1,.int .i64 t.2]
theorem iW (w:World) (k i:Int):Calls Try.prog 19 #[.agg #[.int .i64 k,.int .i64 i]] w fun e w'=>e=.returned (.tuple #[dZ (ofM k i).1,.bool (ofM k i).2])∧Below w.heap.size w w':=by
 have HB0:Hid (∀ A B,Below w.heap.size w ((w.alloc A).alloc B)):=fun A B=>((Below.refl _ _).alloc (Nat.le_refl _) A).alloc (by simp) B;unfold dZ ofM
 by_cases h1:k=1
 ·subst h1;rw [if_pos rfl];go_enter Try.func19,Try.ntmps19;go_wp2;refine bodyPost_ret (v:=(.tuple #[.agg #[.bool false,.int .i64 i],.bool true])) ?_ rfl ⟨rfl,(by repeat (first | exact HB0.out _ _ | (refine Below.setCell ?_ (by simp) _) | refine Below.drew ?_))⟩
  simp [results,Try.results19,go_sem]
 ·rw [if_neg h1];have e1:(k == 1)=false:=by simpa using h1
  by_cases h2:k=2
  ·subst h2;rw [if_pos rfl];clear h1 e1;go_enter Try.func19,Try.ntmps19;go_wp2;refine bodyPost_ret (v:=(.tuple #[.agg #[.bool true,.int .i64 i],.bool true])) ?_ rfl ⟨rfl,(by repeat (first | exact HB0.out _ _ | (refine Below.setCell ?_ (by simp) _) | refine Below.drew ?_))⟩
   simp [results,Try.results19,go_sem]
  ·rw [if_neg h2];have e2:(k == 2)=false:=by simpa using h2
   by_cases h3:k=3
   ·subst h3;rw [if_pos rfl];clear h1 e1 h2 e2;go_enter Try.func19,Try.ntmps19;go_wp2;refine bodyPost_ret (v:=(.tuple #[.agg #[.bool true,.int .i64 i],.bool true])) ?_ rfl ⟨rfl,(by repeat (first | exact HB0.out _ _ | (refine Below.setCell ?_ (by simp) _) | refine Below.drew ?_))⟩
    simp [results,Try.results19,go_sem]
   ·rw [if_neg h3];have e3:(k == 3)=false:=by simpa using h3
    go_enter Try.func19,Try.ntmps19;go_wp2;refine bodyPost_ret (v:=(.tuple #[.agg #[.bool false,.int .i64 0],.bool false])) ?_ rfl ⟨rfl,(by repeat (first | exact HB0.out _ _ | (refine Below.setCell ?_ (by simp) _) | refine Below.drew ?_))⟩
    simp [results,Try.results19,go_sem]
theorem gG (w:World) (k i:Int):Calls Try.prog 20 #[.agg #[.int .i64 k,.int .i64 i]] w fun e w'=>e=.returned (.tuple #[dZ (ofM k i).1,.bool (ofM k i).2])∧Below w.heap.size w w':=by
 have HB0:Hid (∀ A B,Below w.heap.size w ((w.alloc A).alloc B)):=fun A B=>((Below.refl _ _).alloc (Nat.le_refl _) A).alloc (by simp) B;unfold dZ ofM
 by_cases h1:k=1
 ·subst h1;rw [if_pos rfl];go_enter Try.func20,Try.ntmps20;go_wp2;refine bodyPost_ret (v:=(.tuple #[.agg #[.bool false,.int .i64 i],.bool true])) ?_ rfl ⟨rfl,(by repeat (first | exact HB0.out _ _ | (refine Below.setCell ?_ (by simp) _) | refine Below.drew ?_))⟩
  simp [results,Try.results20,go_sem]
 ·rw [if_neg h1];have e1:(k == 1)=false:=by simpa using h1
  by_cases h2:k=2
  ·subst h2;rw [if_pos rfl];clear h1 e1;go_enter Try.func20,Try.ntmps20;go_wp2;refine bodyPost_ret (v:=(.tuple #[.agg #[.bool true,.int .i64 i],.bool true])) ?_ rfl ⟨rfl,(by repeat (first | exact HB0.out _ _ | (refine Below.setCell ?_ (by simp) _) | refine Below.drew ?_))⟩
   simp [results,Try.results20,go_sem]
  ·rw [if_neg h2];have e2:(k == 2)=false:=by simpa using h2
   by_cases h3:k=3
   ·subst h3;rw [if_pos rfl];clear h1 e1 h2 e2;go_enter Try.func20,Try.ntmps20;go_wp2;refine bodyPost_ret (v:=(.tuple #[.agg #[.bool true,.int .i64 i],.bool true])) ?_ rfl ⟨rfl,(by repeat (first | exact HB0.out _ _ | (refine Below.setCell ?_ (by simp) _) | refine Below.drew ?_))⟩
    simp [results,Try.results20,go_sem]
   ·rw [if_neg h3];have e3:(k == 3)=false:=by simpa using h3
    go_enter Try.func20,Try.ntmps20;go_wp2;refine bodyPost_ret (v:=(.tuple #[.agg #[.bool false,.int .i64 0],.bool false])) ?_ rfl ⟨rfl,(by repeat (first | exact HB0.out _ _ | (refine Below.setCell ?_ (by simp) _) | refine Below.drew ?_))⟩
    simp [results,Try.results20,go_sem]
end Go.Proofs.Ytgjpkpmikbpcnaa
namespace Go.Proofs.Ytgjpkpmikbpcnaa
open Go.RowKit
theorem vY {w:World} {x:aU} {p:Prb} (h:PrbV w x p) {k:Nat} (hk:k<p.ss.length):Calls Try.prog 53 #[.agg (aL p x),.agg #[.int .i64 2,.int .i64 k]] w fun e w'=>∃ y,e=.returned (.agg #[.int .i64 (p.ss.getD k hz).pick.place,.int .i64 (p.ss.getD k hz).pick.serv,y])∧WinsV w' y (p.ss.getD k hz).pick.wins∧Below w.heap.size w w':=by
 have HB0:Hid (∀ A B C,Below w.heap.size w (((w.alloc A).alloc B).alloc C)):=fun A B C=>(((Below.refl _ _).alloc (Nat.le_refl _) A).alloc (by simp) B).alloc (by simp;omega) C;obtain ⟨b,off,cc,x1,x2,xa,he,hb,hcs,hw1,hw2,_⟩:=cL h.s hk;obtain ⟨ya,yc,rfl⟩:=WinsV.shape hw1;have HW:=hide hw1;obtain ⟨ta,tc,da,dc,va,vc,ja,jc,sa,sc,rfl⟩:=h.open;simp only at he;injection he with he1 he2 he3;subst he1 he3;clear he2;have c0:w.cell? ⟨b,off+k*9,none⟩=some (.int .i64 (p.ss.getD k hz).pick.place):=hcs 0 (by decide);have c1:w.cell? ⟨b,off+k*9+1,none⟩=some (.int .i64 (p.ss.getD k hz).pick.serv):=hcs 1 (by decide);have c2:w.cell? ⟨b,off+k*9+2,none⟩=some (.slice ya (p.ss.getD k hz).pick.wins.length yc):=hcs 2 (by decide);obtain ⟨ln,hln⟩:∃ q,p.ss.length=q:=⟨_,rfl⟩;have hbd:=SlV.bound h.s;rw [hln] at hk hbd;have i1:(0:Int)≤(k:Int):=by omega
 have i2:(k:Int)<(ln:Int):=by omega
 generalize (p.ss.getD k hz).pick=st at *
 have n1:¬ b=w.heap.size:=by omega
 have n2:¬ b=w.heap.size+1:=by omega
 have n3:¬ b=w.heap.size+1+1:=by omega
 have n4:¬ w.heap.size=b:=by omega
 have n5:b<w.heap.size+1:=by omega
 have n6:b<w.heap.size+1+1:=by omega
 unfold aL;rw [hln];clear hcs h hln hw1 hw2;go_enter Try.func53,Try.ntmps53;go_wp2;refine bodyPost_ret (v:=.agg #[.int .i64 st.place,.int .i64 st.serv,.slice ya st.wins.length yc]) ?_ rfl ⟨_,rfl,HW.out.on (HB0.out _ _ _),HB0.out _ _ _⟩
 simp [results,Try.results53,go_sem]
theorem vZ {w:World} {x:aU} {p:Prb} (h:PrbV w x p) {k:Nat} (hk:k<p.ss.length):Calls Try.prog 53 #[.agg (aL p x),.agg #[.int .i64 3,.int .i64 k]] w fun e w'=>∃ y,e=.returned (.agg #[.int .i64 (p.ss.getD k hz).deli.place,.int .i64 (p.ss.getD k hz).deli.serv,y])∧WinsV w' y (p.ss.getD k hz).deli.wins∧Below w.heap.size w w':=by
 have HB0:Hid (∀ A B C,Below w.heap.size w (((w.alloc A).alloc B).alloc C)):=fun A B C=>(((Below.refl _ _).alloc (Nat.le_refl _) A).alloc (by simp) B).alloc (by simp;omega) C;obtain ⟨b,off,cc,x1,x2,xa,he,hb,hcs,hw1,hw2,_⟩:=cL h.s hk;obtain ⟨ya,yc,rfl⟩:=WinsV.shape hw2;have HW:=hide hw2;obtain ⟨ta,tc,da,dc,va,vc,ja,jc,sa,sc,rfl⟩:=h.open;simp only at he;injection he with he1 he2 he3;subst he1 he3;clear he2;have c0:w.cell? ⟨b,off+k*9+3,none⟩=some (.int .i64 (p.ss.getD k hz).deli.place):=hcs 3 (by decide);have c1:w.cell? ⟨b,off+k*9+4,none⟩=some (.int .i64 (p.ss.getD k hz).deli.serv):=hcs 4 (by decide);have c2:w.cell? ⟨b,off+k*9+5,none⟩=some (.slice ya (p.ss.getD k hz).deli.wins.length yc):=hcs 5 (by decide);obtain ⟨ln,hln⟩:∃ q,p.ss.length=q:=⟨_,rfl⟩;have hbd:=SlV.bound h.s;rw [hln] at hk hbd;have i1:(0:Int)≤(k:Int):=by omega
 have i2:(k:Int)<(ln:Int):=by omega
 generalize (p.ss.getD k hz).deli=st at *
 have n1:¬ b=w.heap.size:=by omega
 have n2:¬ b=w.heap.size+1:=by omega
 have n3:¬ b=w.heap.size+1+1:=by omega
 have n4:¬ w.heap.size=b:=by omega
 have n5:b<w.heap.size+1:=by omega
 have n6:b<w.heap.size+1+1:=by omega
 unfold aL;rw [hln];clear hcs h hln hw1 hw2;go_enter Try.func53,Try.ntmps53;go_wp2;refine bodyPost_ret (v:=.agg #[.int .i64 st.place,.int .i64 st.serv,.slice ya st.wins.length yc]) ?_ rfl ⟨_,rfl,HW.out.on (HB0.out _ _ _),HB0.out _ _ _⟩
 simp [results,Try.results53,go_sem]
theorem yU {w:World} {x:aU} {p:Prb} (h:PrbV w x p) {k:Nat} (hk:k<p.js.length):Calls Try.prog 53 #[.agg (aL p x),.agg #[.int .i64 1,.int .i64 k]] w fun e w'=>∃ y,e=.returned (.agg #[.int .i64 (p.js.getD k jz).stop.place,.int .i64 (p.js.getD k jz).stop.serv,y])∧WinsV w' y (p.js.getD k jz).stop.wins∧Below w.heap.size w w':=by
 have HB0:Hid (∀ A B C,Below w.heap.size w (((w.alloc A).alloc B).alloc C)):=fun A B C=>(((Below.refl _ _).alloc (Nat.le_refl _) A).alloc (by simp) B).alloc (by simp;omega) C;obtain ⟨b,off,cc,x1,x2,xa,he,hb,hcs,hw1,hw2,_⟩:=dM h.j hk;obtain ⟨ya,yc,rfl⟩:=WinsV.shape hw1;have HW:=hide hw1;obtain ⟨ta,tc,da,dc,va,vc,ja,jc,sa,sc,rfl⟩:=h.open;simp only at he;injection he with he1 he2 he3;subst he1 he3;clear he2;have c0:w.cell? ⟨b,off+k*7,none⟩=some (.int .i64 (p.js.getD k jz).stop.place):=hcs 0 (by decide);have c1:w.cell? ⟨b,off+k*7+1,none⟩=some (.int .i64 (p.js.getD k jz).stop.serv):=hcs 1 (by decide);have c2:w.cell? ⟨b,off+k*7+2,none⟩=some (.slice ya (p.js.getD k jz).stop.wins.length yc):=hcs 2 (by decide);obtain ⟨ln,hln⟩:∃ q,p.js.length=q:=⟨_,rfl⟩;have hbd:=SlV.bound h.j;rw [hln] at hk hbd;have i1:(0:Int)≤(k:Int):=by omega
 have i2:(k:Int)<(ln:Int):=by omega
 generalize (p.js.getD k jz).stop=st at *
 have n1:¬ b=w.heap.size:=by omega
 have n2:¬ b=w.heap.size+1:=by omega
 have n3:¬ b=w.heap.size+1+1:=by omega
 have n4:¬ w.heap.size=b:=by omega
 have n5:b<w.heap.size+1:=by omega
 have n6:b<w.heap.size+1+1:=by omega
 unfold aL;rw [hln];clear hcs h hln hw1 hw2;go_enter Try.func53,Try.ntmps53;go_wp2;refine bodyPost_ret (v:=.agg #[.int .i64 st.place,.int .i64 st.serv,.slice ya st.wins.length yc]) ?_ rfl ⟨_,rfl,HW.out.on (HB0.out _ _ _),HB0.out _ _ _⟩
 simp [results,Try.results53,go_sem]
end Go.Proofs.Ytgjpkpmikbpcnaa
