import Derived.Test.YthkdnehgamefiaaGreatHg
import Derived.Deep.RegionLaw
namespace Go.Proofs.YthkdnehgamefiaaGreat
set_option linter.unusedVariables false
set_option maxHeartbeats 4000000
open Go.RowKit
theorem A9p (s:ByteArray) (hs:s.size<=1000000) (k:Nat) (g1:k + 2 < s.size) (sp:ByteArray) (hsz:sp.size<=1000000) (x y:Int) (x0:0<=x) (x1:x<=255) (y0:0<=y) (y1:y<=255)
  (hc:(s[k].toNat:Int)=120) (hx:(s[k + 1].toNat:Int)=x) (hy:(s[k + 2].toNat:Int)=y) (d1 d2:Int) (g2:0<=d1) (g3:0<=d2) (dx:-1<=d1/\d1<=15) (dy:-1<=d2/\d2<=15)
  (H1:aQ (∀ W,Calls Tryz.prog 169 #[.int .u8 x] W fun e w'=>e=.returned (.int .i64 d1)/\w'=W))
  (H2:aQ (∀ W,Calls Tryz.prog 169 #[.int .u8 y] W fun e w'=>e=.returned (.int .i64 d2)/\w'=W))
  (HP:aQ (∀ W,Calls Tryz.prog 151 #[.int .u8 120,.string sp] W fun e w'=>e=.returned (.bool (true && true))/\w'=W))
  {o:Option (ByteArray × Nat)} (HO:aQ (o=some (strOfNums [16 * d1 + d2],k + 3))) (w:World) :
  Calls Tryz.prog 150 #[.string s,.int .i64 (k:Int),.string sp] w fun e w'=>Ends o e/\Below w.heap.size w w':=by
 obtain ⟨-,dx⟩:=dx;obtain ⟨-,dy⟩:=dy;have ew:IntKind.u8.wrap (16 * d1 + d2)=16 * d1 + d2:=by rw [IntKind.wrap_u8];omega
 have K:=jY [16 * d1 + d2];simp only [List.map_cons,List.map_nil,List.length_cons,List.length_nil,Nat.zero_add] at K;have K2:∀ w:World,(convert 36 9 (.slice (some ⟨w.heap.size,0,none⟩) 1 1)).run Tryz.prog ((w.alloc (.cells #[.int .u8 (16 * d1 + d2)] 5)).drew)=.ok (.string (strOfNums [16 * d1 + d2])) ((w.alloc (.cells #[.int .u8 (16 * d1 + d2)] 5)).drew):=fun w=>K w.drew;clear K;have g1':(k:Int) + 2 < s.size:=by omega
 go_enter Tryz.func150,Tryz.ntmps150;go_wp2_with fail;refine (HP.o _).mono ?_;rintro e w1 ⟨rfl,rfl⟩;go_wp2_with fail;refine (H1.o _).mono ?_;rintro e w1 ⟨rfl,rfl⟩;go_wp2_with fail;refine (H2.o _).mono ?_;rintro e w1 ⟨rfl,rfl⟩;go_wp2_with fail;have v1:IntKind.i64.wrap ((k:Int) + 1)=(k:Int) + 1:=wI;have v2:IntKind.i64.wrap ((k:Int) + 2)=(k:Int) + 2:=wI;have v3:IntKind.i64.wrap ((k:Int) + 3)=(k:Int) + 3:=wI;have v4:IntKind.i64.wrap (16 * d1)=16 * d1:=wI;have v5:IntKind.i64.wrap (16 * d1 + d2)=16 * d1 + d2:=wI;have b1:(0:Int)<=(k:Int) + 1/\(k:Int) + 1 < s.size:=⟨by omega,by omega⟩;have b2:(0:Int)<=(k:Int) + 2/\(k:Int) + 2 < s.size:=⟨by omega,by omega⟩;have i1:∀ h,((s[((k:Int) + 1).toNat]'h).toNat:Int)=x:=fun h=>by
  have e:((k:Int) + 1).toNat=k + 1:=by omega
  simp only [e];exact hx
 have i2:∀ h,((s[((k:Int) + 2).toNat]'h).toNat:Int)=y:=fun h=>by
  have e:((k:Int) + 2).toNat=k + 2:=by omega
  simp only [e];exact hy
 refine wp_region_any (by kernel_rfl) ?_;try (change wpAny _ _ _ _ _ _ _ (World.drew _))
 refine tA 0 rfl ?_;go_simp;refine tA 1 rfl ?_;go_simp;refine tA 2 rfl ?_;go_simp;refine tA 3 rfl ?_;go_simp;refine tA 6 rfl ?_;go_simp;refine tA 7 rfl ?_;go_simp;refine tA 8 rfl ?_;go_simp;refine tA 9 rfl ?_;go_simp;refine tA 15 rfl ?_;go_simp;refine tA 16 rfl ?_;go_simp;refine wpAny_ready (rs:=[4]) (by kernel_rfl) (by simp) ?_;refine AllReady.cons rfl (fun K hK=>?_) ?_;rotate_left
 · exact AllReady.nil
 go_simp;go_at_call 169;refine (H1.o _).mono ?_;rintro e wy ⟨rfl,rfl⟩;go_simp;refine hK _ _ ?_;clear hK K;refine tA 5 rfl ?_;go_simp;refine wpAny_ready (rs:=[10]) (by kernel_rfl) (by simp) ?_;refine AllReady.cons rfl (fun K hK=>?_) ?_;rotate_left
 · exact AllReady.nil
 go_simp;go_at_call 169;refine (H2.o _).mono ?_;rintro e wy ⟨rfl,rfl⟩;go_simp;refine hK _ _ ?_;clear hK K;refine tA 11 rfl ?_;go_simp;refine tA 12 rfl ?_;go_simp;refine wpAny_ready (rs:=[13]) (by kernel_rfl) (by simp) ?_;refine AllReady.cons rfl (fun K hK=>?_) ?_;rotate_left
 · exact AllReady.nil
 go_simp;refine hK _ _ ?_;clear hK K;refine wpAny_ready (rs:=[14]) (by kernel_rfl) (by simp) ?_;refine AllReady.cons rfl (fun K hK=>?_) ?_;rotate_left
 · exact AllReady.nil
 go_simp;refine hK _ _ ?_;clear hK K;refine tA 17 rfl ?_;go_simp;refine tA 18 rfl ?_;go_simp;refine tA 19 rfl ?_;go_simp;refine wpAny_done (by kernel_rfl) ?_ _;go_wp2
 go_ret3
 exact ⟨oZ HO.o rfl (by omega),by go_grown⟩
theorem B2N {sp:ByteArray} {c:Int} (hi:isSp sp c=true):jF sp c=false:=by unfold jF;rw [hi];simp
theorem A8C {sp:ByteArray} {c:Int} (hi:isSp sp c=false) (h:c ≠ 92):jF sp c=(decide (32<=c) && decide (c<=126)):=by
 unfold jF;rw [hi];have:(c != 92)=true:=by simp [h]
 rw [this];simp
theorem A6f {s:ByteArray} {a:Nat}:hexN s a 2=2 ↔ a + 1 < s.size/\0<=iX (byt s a)/\0<=iX (byt s (a + 1)):=by
 constructor
 · intro h;obtain ⟨h1,h2,h3⟩:=Tx h;obtain ⟨-,-,h5⟩:=Tx h1;exact ⟨h2,h5,h3⟩
 · rintro ⟨h1,h2,h3⟩;exact CE (CE (k:=0) rfl (by omega) h2) h1 h3
theorem A3B (s:ByteArray) (hs:s.size<=1000000) (k:Nat) (hk2:k<=1000001) (sp:ByteArray) (hsz:sp.size<=1000000) (hsp:∀ c:Int,0<=c->c<=255->isSp sp c=true->32<=c/\c<=126) (w:World) :
  Calls Tryz.prog 150 #[.string s,.int .i64 (k:Int),.string sp] w fun e w'=>Ends (escO s k sp) e/\Below w.heap.size w w':=by
 by_cases hk:k < s.size
 ·
  obtain ⟨c,hc⟩:∃ c:Int,(s[k].toNat:Int)=c:=⟨_,rfl⟩;have hbc:byt s k=c:=by rw [dI hk,hc]
  have HF:=aH (kW (sp:=sp) hk hbc);obtain ⟨hc0,hc1⟩:0<=c/\c<=255:=by rw [<- hbc];exact tX s k
  have HSP:=aH (hsp c hc0 hc1);have HG:=aH (A8V s hs (k + 2) (by omega));rw [show ((k + 2:Nat):Int)=(k:Int) + 2 by omega] at HG;obtain ⟨o,ho⟩:∃ o,escO s k sp=o:=⟨_,rfl⟩;rw [ho] at HF ⊢;clear ho hbc hsp;by_cases h1:c=110
  ·
   subst h1;have HO:=aH (show o=some (⟨#[10]⟩,k + 1) by rw [HF.o];rfl);clear HF HSP HG;go_enter Tryz.func150,Tryz.ntmps150;go_wp2
   go_ret3
   exact ⟨oZ HO.o rfl (by omega),Below.refl _ _⟩
  have e1:(c == 110)=false:=aN.2 h1;by_cases h2:c=116
  ·
   subst h2;have HO:=aH (show o=some (⟨#[9]⟩,k + 1) by rw [HF.o];rfl);clear HF HSP HG;go_enter Tryz.func150,Tryz.ntmps150;go_wp2
   go_ret3
   exact ⟨oZ HO.o rfl (by omega),Below.refl _ _⟩
  have e2:(c == 116)=false:=aN.2 h2;have HP:=aH (fun W=>Ra sp hsz c hc0 hc1 W);by_cases h3:c=92
  ·
   subst h3;have HO:=aH (show o=some (strOfNums [92],k + 1) by rw [HF.o,if_neg h1,if_neg h2,if_pos (by simp)]);have K:=jY [92];simp only [List.map_cons,List.map_nil,List.length_cons,List.length_nil,Nat.zero_add] at K;clear HF HSP HG HP;go_enter Tryz.func150,Tryz.ntmps150;go_wp2
   go_ret3
   exact ⟨oZ HO.o rfl (by omega),by go_grown⟩
  have e3:(c == 92)=false:=aN.2 h3;obtain ⟨bi,hbi⟩:∃ bi,isSp sp c=bi:=⟨_,rfl⟩
  cases bi
  ·
   rw [A8C hbi h3] at HP
   have HF2:=aH (show o=if c=120 then (if hexN s (k + 1) 2=2 then some (strOfNums [valN s (k + 1) 2],k + 3) else none)
    else if c=117/\bG s ((k + 1:Nat):Int) 123=true then signO s (k + 2) else none by rw [HF.o,if_neg h1,if_neg h2,hbi,e3];simp)
   clear HF HSP hbi;by_cases h5:c=120
   ·
    subst h5;rw [aT (by decide),aT (by decide)] at HP;have HF3:=aH (show o=if hexN s (k + 1) 2=2 then some (strOfNums [valN s (k + 1) 2],k + 3) else none by rw [HF2.o,if_pos rfl]);clear HF2 HG;by_cases g1:k + 2 < s.size
    ·
     have g1':(k:Int) + 2 < s.size:=(by omega);obtain ⟨x,hx⟩:∃ x:Int,(s[k + 1].toNat:Int)=x:=⟨_,rfl⟩;have hxb:byt s (k + 1)=x:=(by rw [dI (by omega),hx]);obtain ⟨x0,x1⟩:0<=x/\x<=255:=(by rw [<- hxb];exact tX s (k + 1));obtain ⟨y,hy⟩:∃ y:Int,(s[k + 2].toNat:Int)=y:=⟨_,rfl⟩;have hyb:byt s (k + 2)=y:=(by rw [dI g1,hy]);obtain ⟨y0,y1⟩:0<=y/\y<=255:=(by rw [<- hyb];exact tX s (k + 2));have H1:=aH (fun W=>VG x x0 x1 W);have H2:=aH (fun W=>VG y y0 y1 W);have dx:=Ty x;have dy:=Ty y;have hi:=A6f (s:=s) (a:=k + 1);rw [hxb,show byt s (k + 1 + 1)=y from hyb] at hi;obtain ⟨d1,hd1⟩:∃ d,iX x=d:=⟨_,rfl⟩;obtain ⟨d2,hd2⟩:∃ d,iX y=d:=⟨_,rfl⟩;have hval:valN s (k + 1) 2=16 * d1 + d2:=(by show (0 * 16 + iX (byt s (k + 1))) * 16 + iX (byt s (k + 1 + 1))=_;rw [hxb,show byt s (k + 1 + 1)=y from hyb,hd1,hd2];omega);rw [hd1] at H1 dx hi;rw [hd2] at H2 dy hi;clear hd1 hd2 hxb hyb;by_cases g2:0<=d1
     ·
      by_cases g3:0<=d2
      · have HO:=aH (show o=some (strOfNums [16 * d1 + d2],k + 3) by rw [HF3.o,if_pos (hi.2 ⟨by omega,g2,g3⟩),hval]);exact A9p s hs k g1 sp hsz x y x0 x1 y0 y1 hc hx hy d1 d2 g2 g3 dx dy H1 H2 HP HO w
      ·
       have HO:=aH (show o=none by rw [HF3.o,if_neg (fun h=>g3 (hi.1 h).2.2)]);clear HF3 hi hval dx dy;go_enter Tryz.func150,Tryz.ntmps150;go_wp2_with fail;refine (HP.o _).mono ?_;rintro e w1 ⟨rfl,rfl⟩;go_wp2_with fail;refine (H1.o _).mono ?_;rintro e w1 ⟨rfl,rfl⟩;go_wp2_with fail;refine (H2.o _).mono ?_;rintro e w1 ⟨rfl,rfl⟩;go_wp2
       go_ret3
       exact ⟨jJ HO.o _ _,Below.refl _ _⟩
     ·
      have HO:=aH (show o=none by rw [HF3.o,if_neg (fun h=>g2 (hi.1 h).2.1)]);clear HF3 hi hval dx dy H2;go_enter Tryz.func150,Tryz.ntmps150;go_wp2_with fail;refine (HP.o _).mono ?_;rintro e w1 ⟨rfl,rfl⟩;go_wp2_with fail;refine (H1.o _).mono ?_;rintro e w1 ⟨rfl,rfl⟩;go_wp2
      go_ret3
      exact ⟨jJ HO.o _ _,Below.refl _ _⟩
    ·
     have g1':¬ (k:Int) + 2 < s.size:=(by omega);have HO:=aH (show o=none by rw [HF3.o,if_neg (fun h=>g1 (by have:=(A6f.1 h).1;omega))]);clear HF3;go_enter Tryz.func150,Tryz.ntmps150;go_wp2_with fail;refine (HP.o _).mono ?_;rintro e w1 ⟨rfl,rfl⟩;go_wp2
     go_ret3
     exact ⟨jJ HO.o _ _,Below.refl _ _⟩
   have e5:(c == 120)=false:=aN.2 h5;by_cases h6:c=117
   ·
    subst h6;by_cases g1:k + 1 < s.size
    ·
     obtain ⟨x,hx⟩:∃ x:Int,(s[k + 1].toNat:Int)=x:=⟨_,rfl⟩;have hxb:byt s (k + 1)=x:=(by rw [dI g1,hx]);have g1':(k:Int) + 1 < s.size:=(by omega);by_cases g2:x=123
     ·
      subst g2;have HO:=aH (show signO s (k + 2)=o by rw [HF2.o,gG g1,hxb];simp);rw [HO.o] at HG;clear HF2 hxb HO;go_enter Tryz.func150,Tryz.ntmps150;go_wp2_with fail;refine (HP.o _).mono ?_;rintro e w1 ⟨rfl,rfl⟩;go_wp2_with fail;refine (HG.o _).mono ?_;rintro e w1 ⟨⟨t,n,b,rfl,hr⟩,hb1⟩;go_wp2
      go_ret3
      exact ⟨⟨t,n,b,rfl,hr⟩,hb1⟩
     ·
      have e7:(x == 123)=false:=aN.2 g2;have HO:=aH (show o=none by rw [HF2.o,gG g1,hxb,e7];simp);clear HF2 hxb HG;go_enter Tryz.func150,Tryz.ntmps150;go_wp2_with fail;refine (HP.o _).mono ?_;rintro e w1 ⟨rfl,rfl⟩;go_wp2
      go_ret3
      exact ⟨jJ HO.o _ _,Below.refl _ _⟩
    ·
     have g1':¬ (k:Int) + 1 < s.size:=(by omega);have HO:=aH (show o=none by rw [HF2.o,jR g1];simp);clear HF2 HG;go_enter Tryz.func150,Tryz.ntmps150;go_wp2_with fail;refine (HP.o _).mono ?_;rintro e w1 ⟨rfl,rfl⟩;go_wp2
     go_ret3
     exact ⟨jJ HO.o _ _,Below.refl _ _⟩
   have e6:(c == 117)=false:=aN.2 h6;have HO:=aH (show o=none by rw [HF2.o,if_neg h5,if_neg (fun h=>h6 h.1)]);clear HF2 HG;have g:(32<=c/\c<=126)\/c < 32\/126 < c:=(by omega);rcases g with ⟨g,g'⟩ | g | g
   ·
    rw [aT g,aT g'] at HP;go_enter Tryz.func150,Tryz.ntmps150;go_wp2_with fail;refine (HP.o _).mono ?_;rintro e w1 ⟨rfl,rfl⟩;go_wp2
    go_ret3
    exact ⟨jJ HO.o _ _,Below.refl _ _⟩
   ·
    rw [aF (by omega:¬ 32<=c),Bool.false_and] at HP;go_enter Tryz.func150,Tryz.ntmps150;go_wp2_with fail;refine (HP.o _).mono ?_;rintro e w1 ⟨rfl,rfl⟩;go_wp2
    go_ret3
    exact ⟨jJ HO.o _ _,Below.refl _ _⟩
   ·
    rw [aF (by omega:¬ c<=126),Bool.and_false] at HP;have g0:32<=c:=(by omega);go_enter Tryz.func150,Tryz.ntmps150;go_wp2_with fail;refine (HP.o _).mono ?_;rintro e w1 ⟨rfl,rfl⟩;go_wp2
    go_ret3
    exact ⟨jJ HO.o _ _,Below.refl _ _⟩
  ·
   obtain ⟨g0,g1⟩:=HSP.o hbi;rw [B2N hbi] at HP;have HO:=aH (show o=some (strOfNums [c],k + 1) by rw [HF.o,if_neg h1,if_neg h2,hbi];simp);have K:=jY [c];simp only [List.map_cons,List.map_nil,List.length_cons,List.length_nil,Nat.zero_add] at K;clear HF HSP HG hbi;go_enter Tryz.func150,Tryz.ntmps150;go_wp2_with fail;refine (HP.o _).mono ?_;rintro e w1 ⟨rfl,rfl⟩;go_wp2
   go_ret3
   exact ⟨oZ HO.o rfl (by omega),by go_grown⟩
 ·
  have HO:=aH (qN (sp:=sp) hk);go_enter Tryz.func150,Tryz.ntmps150;go_wp2
  go_ret3
  exact ⟨jJ HO.o _ _,Below.refl _ _⟩
theorem Ke (sp:ByteArray):jF sp 92=false:=by unfold jF;simp
theorem A5v (s:ByteArray) (hs:s.size<=1000000) (k:Nat) (hk2:k<=2000000) (sp:ByteArray) (hsz:sp.size<=1000000) (hsp:∀ c:Int,0<=c->c<=255->isSp sp c=true->32<=c/\c<=126) (w:World) :
  Calls Tryz.prog 130 #[.string s,.int .i64 (k:Int),.string sp] w fun e w'=>Ends (readO s k sp) e/\Below w.heap.size w w':=by
 by_cases hk:k < s.size
 ·
  obtain ⟨c,hc⟩:∃ c:Int,(s[k].toNat:Int)=c:=⟨_,rfl⟩;have hbc:byt s k=c:=by rw [dI hk,hc]
  have HF:=aH (jB (sp:=sp) hk hbc);obtain ⟨hc0,hc1⟩:0<=c/\c<=255:=by rw [<- hbc];exact tX s k
  have HX1:=aH (one_byte hk);rw [hbc] at HX1;have HE:=aH (fun W=>A3B s hs (k + 1) (by omega) sp hsz hsp W);rw [show ((k + 1:Nat):Int)=(k:Int) + 1 by omega] at HE;have HP:=aH (fun W=>Ra sp hsz c hc0 hc1 W);obtain ⟨o,ho⟩:∃ o,readO s k sp=o:=⟨_,rfl⟩;rw [ho] at HF ⊢;clear ho hbc hsp;have hsl:(k:Int) + 1<=s.size:=by omega
  by_cases h1:c=92
  ·
   subst h1;rw [show escO s (k + 1) sp=o by rw [HF.o,Ke];simp] at HE;clear HF HX1 HP;go_enter Tryz.func130,Tryz.ntmps130;go_wp2_with fail;refine (HE.o _).mono ?_;rintro e w1 ⟨⟨t,n,b,rfl,hr⟩,hb1⟩;go_wp2
   go_ret3
   exact ⟨⟨t,n,b,rfl,hr⟩,hb1⟩
  ·
   have e1:(c == 92)=false:=aN.2 h1;obtain ⟨bp,hbp⟩:∃ bp,jF sp c=bp:=⟨_,rfl⟩;rw [hbp] at HP HF;clear hbp HE
   cases bp
   ·
    have HO:=aH (show o=none by rw [HF.o,if_neg h1];simp);clear HF HX1;go_enter Tryz.func130,Tryz.ntmps130;go_wp2_with fail;refine (HP.o _).mono ?_;rintro e w1 ⟨rfl,rfl⟩;go_wp2
    go_ret3
    exact ⟨jJ HO.o _ _,Below.refl _ _⟩
   ·
    have HO:=aH (show o=some (strOfNums [c],k + 1) by rw [HF.o];simp);clear HF;go_enter Tryz.func130,Tryz.ntmps130;go_wp2_with fail;refine (HP.o _).mono ?_;rintro e w1 ⟨rfl,rfl⟩;go_wp2
    go_ret3
    exact ⟨oZ HO.o HX1.o (by omega),Below.refl _ _⟩
 ·
  have HO:=aH (mF (sp:=sp) hk);go_enter Tryz.func130,Tryz.ntmps130;go_wp2
  go_ret3
  exact ⟨jJ HO.o _ _,Below.refl _ _⟩
theorem Lu {e:Ending} (h:Ends none e):∃ t n,e=.returned (.tuple #[.string t,.int .i64 n,.bool false]):=by obtain ⟨t,n,b,rfl,h⟩:=h;obtain rfl:b=false:=h;exact ⟨t,n,rfl⟩
theorem wY {u:ByteArray} {m:Nat} {e:Ending} (h:Ends (some (u,m)) e):e=.returned (.tuple #[.string u,.int .i64 (m:Int),.bool true]):=by obtain ⟨t,n,b,rfl,h⟩:=h;obtain ⟨rfl,rfl,rfl⟩:b=true/\t=u/\n=(m:Int):=h;rfl
theorem B4c (n:Int):(encS n).size<=4:=by
 unfold encS;split
 · rw [strOfNums_size,Jf];split <;> (try split) <;> (try split) <;> omega
 · decide
theorem JJ (c:Int):(strOfNums [c]).size<=4:=by rw [strOfNums_size];simp
theorem A2O {s:ByteArray} {a m:Nat} {u:ByteArray} (h:signO s a=some (u,m)):a < m/\m<=a + 7/\u.size<=4:=by
 unfold signO at h;split at h
 · have:=Gx s a 6;injection h with h;injection h with h1 h2;subst h1 h2;exact ⟨by omega,by omega,B4c _⟩
 · cases h
theorem B4d {s:ByteArray} {k m:Nat} {sp u:ByteArray} (h:escO s k sp=some (u,m)):k < m/\m<=k + 9/\u.size<=4:=by
 by_cases hk:k < s.size
 ·
  rw [kW hk rfl] at h;split at h
  · (injection h with h;injection h with h1 h2;subst h1 h2;exact ⟨by omega,by omega,by decide⟩)
  ·
   split at h
   · (injection h with h;injection h with h1 h2;subst h1 h2;exact ⟨by omega,by omega,by decide⟩)
   ·
    split at h
    · (injection h with h;injection h with h1 h2;subst h1 h2;exact ⟨by omega,by omega,JJ _⟩)
    ·
     split at h
     ·
      split at h
      · (injection h with h;injection h with h1 h2;subst h1 h2;exact ⟨by omega,by omega,JJ _⟩)
      · cases h
     ·
      split at h
      · obtain ⟨r1,r2,r3⟩:=A2O h;exact ⟨by omega,by omega,r3⟩
      · cases h
 · rw [qN hk] at h;cases h
theorem tK {s:ByteArray} {k m:Nat} {sp u:ByteArray} (h:readO s k sp=some (u,m)):k < s.size/\k < m/\m<=k + 10/\u.size<=4:=by
 by_cases hk:k < s.size
 ·
  rw [jB hk rfl] at h;refine ⟨hk,?_⟩;split at h
  · injection h with h;injection h with h1 h2;subst h1 h2;exact ⟨by omega,by omega,JJ _⟩
  ·
   split at h
   · have:=B4d h;exact ⟨by omega,by omega,this.2.2⟩
   · cases h
 · rw [mF hk] at h;cases h
theorem FP (t:ByteArray):t.toList.isEmpty=decide (t.size=0):=by rw [ByteArray.toList_eq,Bool.eq_iff_iff,List.isEmpty_iff_length_eq_zero,decide_eq_true_iff];simp
def txtF (s:ByteArray):Nat->Nat->ByteArray->Option (ByteArray × Nat)
 | 0,_,_=>none
 | f + 1,k,out =>
  if k < s.size then
   if byt s k=34 then (if out.size=0\/40 < out.size then none else some (out,k + 1))
   else match readO s k spT with
    | none=>none
    | some (u,m)=>txtF s f m (out ++ u)
  else none
theorem MP {s:ByteArray} {f k:Nat} {out:ByteArray} (hf:s.size < f + k) (hk:k < s.size) (hc:byt s k=34):txtF s f k out=if out.size=0\/40 < out.size then none else some (out,k + 1):=by obtain ⟨g,rfl⟩:∃ g,f=g + 1:=⟨f - 1,by omega⟩;unfold txtF;rw [if_pos hk,if_pos hc]
theorem A6h {s:ByteArray} {f k:Nat} {out:ByteArray} (hc:byt s k ≠ 34) (h:readO s k spT=none):txtF s f k out=none:=by
 cases f
 · rfl
 · unfold txtF;rw [if_neg hc,h];simp
theorem XP {s:ByteArray} {f k m:Nat} {out u:ByteArray} (hf:s.size < f + k) (hc:byt s k ≠ 34) (h:readO s k spT=some (u,m)):txtF s f k out=txtF s (f - 1) m (out ++ u):=by have hk:=(tK h).1;obtain ⟨g,rfl⟩:∃ g,f=g + 1:=⟨f - 1,by omega⟩;rw [txtF.eq_2,if_pos hk,if_neg hc,h];rfl
theorem tO {s:ByteArray} {f k:Nat} {out:ByteArray} (hk:¬ k < s.size):txtF s f k out=none:=by
 cases f
 · rfl
 · unfold txtF;rw [if_neg hk]
def txtO (s:ByteArray) (i:Int):Option (ByteArray × Nat):=if bG s i 34=true then txtF s (s.size + 1) (i.toNat + 1) ⟨#[]⟩ else none
def Zm:Option (ByteArray × Nat)->Value
 | none=>.tuple #[.string ⟨#[]⟩,.int .i64 0,.bool false]
 | some (u,m)=>.tuple #[.string u,.int .i64 (m:Int),.bool true]
theorem Jh {o:Option (ByteArray × Nat)} (h:o=none):Ending.returned (.tuple #[.string ⟨#[]⟩,.int .i64 0,.bool false])=.returned (Zm o):=by rw [h];rfl
theorem A9r {o:Option (ByteArray × Nat)} {u t:ByteArray} {m:Nat} {n:Int} (h:o=some (u,m)) (ht:t=u) (hn:n=(m:Int)):Ending.returned (.tuple #[.string t,.int .i64 n,.bool true])=.returned (Zm o):=by rw [h,ht,hn];rfl
set_option maxRecDepth 100000 in
theorem Dr (s:ByteArray) (hs:s.size<=1000000) (i:Int) (w:World) :
  Calls Tryz.prog 109 #[.string s,.int .i64 i] w fun e w'=>e=.returned (Zm (txtO s i))/\Below w.heap.size w w':=by
 have HF:=aH (show txtO s i=if bG s i 34=true then txtF s (s.size + 1) (i.toNat + 1) ⟨#[]⟩ else none from rfl);obtain ⟨o,ho⟩:∃ o,txtO s i=o:=⟨_,rfl⟩;rw [ho] at HF ⊢;clear ho;by_cases h0:0<=i
 ·
  obtain ⟨a,rfl⟩:∃ a:Nat,i=(a:Int):=⟨i.toNat,by omega⟩;rw [Int.toNat_natCast] at HF;by_cases h1:(a:Int) < s.size
  ·
   have ha:a < s.size:=(by omega);obtain ⟨c,hc⟩:∃ c:Int,(s[a].toNat:Int)=c:=⟨_,rfl⟩;have hbc:byt s a=c:=(by rw [dI ha,hc]);by_cases h2:c=34
   ·
    subst h2;have HT0:=aH (show txtF s (s.size + 1) (a + 1) ⟨#[]⟩=o by rw [HF.o,gG ha,hbc];rfl);have HB0:=aH (Below.refl w.heap.size w);have e9:decide (s.size<=a)=false:=aF (by omega);have e8:decide ((a:Int) < 0)=false:=aF (by omega);clear HF hbc;go_enter Tryz.func109,Tryz.ntmps109;go_wp2_with fail
    go_loopw [7,8] (fun b7 b8 wr=>∃ (k f:Nat) (out:ByteArray),b8=.int .i64 (k:Int)/\b7=.string out/\(k:Int)<=s.size + 20/\aQ (txtF s f k out=o/\s.size < f + k/\out.size<=4 * k)/\aQ (Below w.heap.size w wr)) (fun _ b8 _=>s.size + 20 - (intOf b8).toNat)
    case atStart=>exact ⟨a + 1,s.size + 1,⟨#[]⟩,by go_num,rfl,by omega,aH ⟨HT0.o,by omega,Nat.zero_le _⟩,HB0⟩
    case round =>
     obtain ⟨k,f,out,rfl,rfl,hk,HT,HB⟩:=hrel;clear HT0 HB0 hc;have hu:out.size<=5000000:=(by have:=HT.o.2.2;omega);by_cases hlt:(k:Int) < s.size
     ·
      have hk1:k < s.size:=(by omega);obtain ⟨c,hc⟩:∃ c:Int,(s[k].toNat:Int)=c:=⟨_,rfl⟩;have hbc:byt s k=c:=(by rw [dI hk1,hc]);by_cases h3:c=34
      ·
       subst h3;have HE:=aH (show o=if out.size=0\/40 < out.size then none else some (out,k + 1) by rw [<- HT.o.1,MP HT.o.2.1 hk1 hbc]);clear HT hbc;by_cases g1:out.size=0
       ·
        obtain rfl:out=⟨#[]⟩:=(by apply ByteArray.ext;have:out.data.size=0:=g1;exact Array.eq_empty_of_size_eq_zero this);have HE2:=aH (show o=none by rw [HE.o];rfl);clear HE g1 hu;go_wp2
        go_ret3
        exact ⟨Jh HE2.o,HB.o⟩
       ·
        have g3:out.toList.isEmpty=false:=(by rw [FP];exact aF g1);by_cases g2:40 < (out.size:Int)
        ·
         have HE2:=aH (show o=none by rw [HE.o,if_pos (.inr (by omega))]);clear HE;go_wp2
         go_ret3
         exact ⟨Jh HE2.o,HB.o⟩
        ·
         have HE2:=aH (show o=some (out,k + 1) by rw [HE.o,if_neg (by omega)]);clear HE;go_wp2
         go_ret3
         exact ⟨A9r HE2.o rfl (by omega),HB.o⟩
      ·
       have e3:(c == 34)=false:=aN.2 h3;have HO:=aH (fun W=>A5v s hs k (by omega) spT (by decide) (fun c h0 h1 h=>A4l h0 h1 h) W);obtain ⟨q,hq⟩:∃ q,readO s k spT=q:=⟨_,rfl⟩;rw [hq] at HO
       cases q with
       | none =>
        have HE:=aH (show o=none by rw [<- HT.o.1,A6h (by rw [hbc];exact h3) hq]);clear HT hbc hq;go_wp2_with fail;refine (HO.o _).mono ?_;rintro e w2 ⟨he,hb2⟩;obtain ⟨t,n,rfl⟩:=Lu he;have HB2:=aH (aD HB.o hb2);clear hb2 HB he;go_wp2
        go_ret3
        exact ⟨Jh HE.o,HB2.o⟩
       | some p =>
        obtain ⟨u,m⟩:=p;obtain ⟨q1,q2,q3,q4⟩:=tK hq
        have HT2:=aH (show txtF s (f - 1) m (out ++ u)=o/\s.size < (f - 1) + m/\(out ++ u).size<=4 * m by
         refine ⟨by rw [<- HT.o.1];exact (XP HT.o.2.1 (by rw [hbc];exact h3) hq).symm,by have:=HT.o.2.1;omega,?_⟩;have:=HT.o.2.2
         rw [ByteArray.size_append];omega)
        clear HT hbc hq;go_wp2_with fail;refine (HO.o _).mono ?_;rintro e w2 ⟨he,hb2⟩;obtain rfl:=wY he;have HB2:=aH (aD HB.o hb2);clear hb2 HB he;go_wp2
        go_roundw
        case rel=>exact ⟨m,f - 1,out ++ u,rfl,rfl,by omega,HT2,HB2⟩
        case measure=>simp [intOf];omega
     ·
      have HE:=aH (show o=none by rw [<- HT.o.1,tO (by omega)]);clear HT;go_wp2
      go_ret3
      exact ⟨Jh HE.o,HB.o⟩
   ·
    have e2:(c != 34)=true:=(by simp [h2]);have e3:(c == 34)=false:=aN.2 h2;have HE:=aH (show o=none by rw [HF.o,gG ha,hbc,e3];rfl);clear HF hbc;go_enter Tryz.func109,Tryz.ntmps109;go_wp2
    go_ret3
    exact ⟨Jh HE.o,Below.refl _ _⟩
  ·
   have HE:=aH (show o=none by rw [HF.o,jR (by omega)];rfl);clear HF;go_enter Tryz.func109,Tryz.ntmps109;go_wp2
   go_ret3
   exact ⟨Jh HE.o,Below.refl _ _⟩
 ·
  have HE:=aH (show o=none by rw [HF.o];unfold bG;rw [aF h0];rfl);clear HF;go_enter Tryz.func109,Tryz.ntmps109;go_wp2
  go_ret3
  exact ⟨Jh HE.o,Below.refl _ _⟩
end Go.Proofs.YthkdnehgamefiaaGreat
