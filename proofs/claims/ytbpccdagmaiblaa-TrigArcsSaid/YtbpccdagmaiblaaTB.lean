/- Angles of tangents and of points; headings. -/
import Derived.Test.YtbpccdagmaiblaaTA

/- TrG -/
namespace Go.Proofs.Ytbpccdagmaiblaa.Tr
open Go SX
noncomputable section
theorem zx_bd {x : Int} (h1 : -444758430 ≤ x) (h2 : x ≤ 444758430) : 0 ≤ mq x x ∧ mq x x ≤ 184224980 := by
  have h := mq_near (a := x) (b := x) (by omega) (by omega) (by omega) (by omega)
  have k := bil h1 h2 (d := x) h1 h2
  have k0 : 0 ≤ x * x := Nm.sqnn x
  omega
theorem at_bd {z : Int} (z1 : 0 ≤ z) (z2 : z ≤ 184224980) : (0 ≤ mq z 46684427 ∧ mq z 46684427 ≤ 8009782) ∧ (0 ≤ mq z (51130563 - mq z 46684427) ∧ mq z (51130563 - mq z 46684427) ≤ 8772618) ∧ (-9696052 ≤ mq z (-56512728 + mq z (51130563 - mq z 46684427)) ∧ mq z (-56512728 + mq z (51130563 - mq z 46684427)) ≤ 0) ∧ (0 ≤ mq z (63161284 + mq z (-56512728 + mq z (51130563 - mq z 46684427))) ∧ mq z (63161284 + mq z (-56512728 + mq z (51130563 - mq z 46684427))) ≤ 10836764) ∧ (-12281665 ≤ mq z (-71582788 + mq z (63161284 + mq z (-56512728 + mq z (51130563 - mq z 46684427)))) ∧ mq z (-71582788 + mq z (63161284 + mq z (-56512728 + mq z (51130563 - mq z 46684427)))) ≤ 0) ∧ (0 ≤ mq z (82595525 + mq z (-71582788 + mq z (63161284 + mq z (-56512728 + mq z (51130563 - mq z 46684427))))) ∧ mq z (82595525 + mq z (-71582788 + mq z (63161284 + mq z (-56512728 + mq z (51130563 - mq z 46684427))))) ≤ 14171152) ∧ (-16747725 ≤ mq z (-97612893 + mq z (82595525 + mq z (-71582788 + mq z (63161284 + mq z (-56512728 + mq z (51130563 - mq z 46684427)))))) ∧ mq z (-97612893 + mq z (82595525 + mq z (-71582788 + mq z (63161284 + mq z (-56512728 + mq z (51130563 - mq z 46684427)))))) ≤ 0) ∧ (0 ≤ mq z (119304647 + mq z (-97612893 + mq z (82595525 + mq z (-71582788 + mq z (63161284 + mq z (-56512728 + mq z (51130563 - mq z 46684427))))))) ∧ mq z (119304647 + mq z (-97612893 + mq z (82595525 + mq z (-71582788 + mq z (63161284 + mq z (-56512728 + mq z (51130563 - mq z 46684427))))))) ≤ 20469442) ∧ (-26317854 ≤ mq z (-153391689 + mq z (119304647 + mq z (-97612893 + mq z (82595525 + mq z (-71582788 + mq z (63161284 + mq z (-56512728 + mq z (51130563 - mq z 46684427)))))))) ∧ mq z (-153391689 + mq z (119304647 + mq z (-97612893 + mq z (82595525 + mq z (-71582788 + mq z (63161284 + mq z (-56512728 + mq z (51130563 - mq z 46684427)))))))) ≤ 0) ∧ (0 ≤ mq z (214748365 + mq z (-153391689 + mq z (119304647 + mq z (-97612893 + mq z (82595525 + mq z (-71582788 + mq z (63161284 + mq z (-56512728 + mq z (51130563 - mq z 46684427))))))))) ∧ mq z (214748365 + mq z (-153391689 + mq z (119304647 + mq z (-97612893 + mq z (82595525 + mq z (-71582788 + mq z (63161284 + mq z (-56512728 + mq z (51130563 - mq z 46684427))))))))) ≤ 36844996) ∧ (-61408327 ≤ mq z (-357913941 + mq z (214748365 + mq z (-153391689 + mq z (119304647 + mq z (-97612893 + mq z (82595525 + mq z (-71582788 + mq z (63161284 + mq z (-56512728 + mq z (51130563 - mq z 46684427)))))))))) ∧ mq z (-357913941 + mq z (214748365 + mq z (-153391689 + mq z (119304647 + mq z (-97612893 + mq z (82595525 + mq z (-71582788 + mq z (63161284 + mq z (-56512728 + mq z (51130563 - mq z 46684427)))))))))) ≤ 0) := by
  have h11 := mq_pos z1 z2 (by decide) (s := 46684427) (H := 46684427) (by decide) (by decide) (by decide)
  generalize mq z 46684427 = m11 at *
  have h10 := mq_pos z1 z2 (by decide) (s := 51130563 - m11) (H := 51130563) (by omega) (by omega) (by decide)
  generalize mq z (51130563 - m11) = m10 at *
  have h9 := mq_neg z1 z2 (by decide) (s := -56512728 + m10) (H := 56512728) (by omega) (by omega) (by decide)
  generalize mq z (-56512728 + m10) = m9 at *
  have h8 := mq_pos z1 z2 (by decide) (s := 63161284 + m9) (H := 63161284) (by omega) (by omega) (by decide)
  generalize mq z (63161284 + m9) = m8 at *
  have h7 := mq_neg z1 z2 (by decide) (s := -71582788 + m8) (H := 71582788) (by omega) (by omega) (by decide)
  generalize mq z (-71582788 + m8) = m7 at *
  have h6 := mq_pos z1 z2 (by decide) (s := 82595525 + m7) (H := 82595525) (by omega) (by omega) (by decide)
  generalize mq z (82595525 + m7) = m6 at *
  have h5 := mq_neg z1 z2 (by decide) (s := -97612893 + m6) (H := 97612893) (by omega) (by omega) (by decide)
  generalize mq z (-97612893 + m6) = m5 at *
  have h4 := mq_pos z1 z2 (by decide) (s := 119304647 + m5) (H := 119304647) (by omega) (by omega) (by decide)
  generalize mq z (119304647 + m5) = m4 at *
  have h3 := mq_neg z1 z2 (by decide) (s := -153391689 + m4) (H := 153391689) (by omega) (by omega) (by decide)
  generalize mq z (-153391689 + m4) = m3 at *
  have h2 := mq_pos z1 z2 (by decide) (s := 214748365 + m3) (H := 214748365) (by omega) (by omega) (by decide)
  generalize mq z (214748365 + m3) = m2 at *
  have h1 := mq_neg z1 z2 (by decide) (s := -357913941 + m2) (H := 357913941) (by omega) (by omega) (by decide)
  generalize mq z (-357913941 + m2) = m1 at *
  omega
theorem stepA {x s T P e M e2 : Int} (x1 : -444758430 ≤ x) (x2 : x ≤ 444758430) (hP : 0 ≤ P) (s1 : -M ≤ s) (s2 : s ≤ M) (hM : M ≤ 2147483648)
    (h1 : -(e * P) ≤ 1024 * (P * s - T)) (h2 : 1024 * (P * s - T) ≤ e * P) (he : 197810061056064900 * e + 549755813888 * M + 590295810358705651712 ≤ 1152921504606846976 * e2) :
    -(e2 * (1152921504606846976 * P)) ≤ 1024 * (1152921504606846976 * P * mq (mq x x) s - x * x * T) ∧ 1024 * (1152921504606846976 * P * mq (mq x x) s - x * x * T) ≤ e2 * (1152921504606846976 * P) := by
  obtain ⟨z1, z2⟩ := zx_bd x1 x2
  have hz := mq_near (a := x) (b := x) (by omega) (by omega) (by omega) (by omega)
  have hk := bil x1 x2 (d := x) x1 x2
  have k0 : 0 ≤ x * x := Nm.sqnn x
  generalize mq x x = z at *
  have hm := mq_near (a := z) (b := s) (by omega) (by omega) (by omega) (by omega)
  generalize mq z s = m at *
  generalize x * x = Z at *
  have b1 := bil (u := s) (d := 1073741824 * z - Z) s1 s2 hz.1 hz.2
  have b2 := bil (u := Z) (d := 1024 * (P * s - T)) (B := 197810061056064900) (S := e * P) (by omega) (by omega) h1 h2
  have p1 := bil (u := P) (d := 1073741824 * m - z * s) (B := P) (by omega) (by omega) hm.1 hm.2
  have p2 := bil (u := P) (d := s * (1073741824 * z - Z)) (B := P) (by omega) (by omega) b1.2 b1.1
  have hf := Int.mul_le_mul_of_nonneg_left he hP
  have id : 1024 * (1152921504606846976 * P * m - Z * T) = 1024 * 1073741824 * (P * (1073741824 * m - z * s)) + 1024 * (P * (s * (1073741824 * z - Z))) + Z * (1024 * (P * s - T)) := by grind
  have e1 : P * (197810061056064900 * e + 549755813888 * M + 590295810358705651712) = 197810061056064900 * (e * P) + 1024 * (P * (M * 536870912)) + 1024 * 1073741824 * (P * 536870912) := by grind
  have e2' : e2 * (1152921504606846976 * P) = P * (1152921504606846976 * e2) := by grind
  rw [id, e2']
  omega
def tL : List Int := [5136851466355833503165029182500125649951503713694505722166289944403058744430742990345377476833582471901350555523611540735370539306820120960085756611964727392534398116336371677921546638558908903585247316148224, -1485169470499053149774425395893094294424960771032491858321268597755117858595523732948924111134137819549742195384921800592681216340691016698252279754051449986366958287372921478971265768226816, 772907505323277876065981799436083630089542563360438538659753711586424720075806097814676812567431025369115260350287781136836358951921920100027669684934778578677822379786240, -478850282766271532082502002595694900296667878485642885966559887153040578270430715054386136345917107694145141912399225941718835401076952401045732420747264, 323039432719415812670270774471663670634703918179125184411584991392515076334402841377870325595008806253552919965481234142182525655580672, -229248035838245826073820485319973698794160571448555094349124627924039565622146586728718599713539600238805044395245568, 168250055909234453900537562568159004135580583995744679237823604388161034504135170998988452554342400, -126475838866453352447083313336610178619753424363461294247999814926614927390015488, 96794386085364012095207330352396389034351329418149197181353984, -75118300175778097228295418562102716769763328, 58949525625355179537727488, -46684427]
theorem at_ser {x : Int} (h1 : -444758430 ≤ x) (h2 : x ≤ 444758430) : -(809 * 4784065733063810973581885157618788676291241975216665977767007373648750357731006099232824032039924032894289638403441329240212719241920971274455782595989040464660523567661989180298099889009174801022976) ≤ 1024 * (4784065733063810973581885157618788676291241975216665977767007373648750357731006099232824032039924032894289638403441329240212719241920971274455782595989040464660523567661989180298099889009174801022976 * atanS (mq x x) - evL1 (x * x) tL) ∧ 1024 * (4784065733063810973581885157618788676291241975216665977767007373648750357731006099232824032039924032894289638403441329240212719241920971274455782595989040464660523567661989180298099889009174801022976 * atanS (mq x x) - evL1 (x * x) tL) ≤ 809 * 4784065733063810973581885157618788676291241975216665977767007373648750357731006099232824032039924032894289638403441329240212719241920971274455782595989040464660523567661989180298099889009174801022976 := by
  obtain ⟨z1, z2⟩ := zx_bd h1 h2
  have hb := at_bd z1 z2
  unfold atanS
  simp only [tL, evL1, Int.mul_zero, Int.add_zero]
  have g11 := stepA (x := x) (s := 46684427) (T := 46684427) (P := 1) (e := 0) (M := 46684427) (e2 := 535) h1 h2 (by decide) (by decide) (by decide) (by decide) (by decide) (by decide) (by decide)
  generalize hm11 : mq (mq x x) 46684427 = m11 at *
  have q10 : (58949525625355179537727488 + x * x * (-46684427)) = 58949525625355179537727488 - x * x * 46684427 := by grind
  have g10 := stepA (x := x) (s := (51130563 - m11)) (T := (58949525625355179537727488 + x * x * (-46684427))) (P := 1152921504606846976) (e := 535) (M := 51130563) (e2 := 629) h1 h2 (by decide) (by omega) (by omega) (by decide) (by omega) (by omega) (by decide)
  generalize hm10 : mq (mq x x) (51130563 - m11) = m10 at *
  have g9 := stepA (x := x) (s := (-56512728 + m10)) (T := (-75118300175778097228295418562102716769763328 + x * x * (58949525625355179537727488 + x * x * (-46684427)))) (P := 1329227995784915872903807060280344576) (e := 629) (M := 56512728) (e2 := 647) h1 h2 (by decide) (by omega) (by omega) (by decide) (by omega) (by omega) (by decide)
  generalize hm9 : mq (mq x x) (-56512728 + m10) = m9 at *
  have g8 := stepA (x := x) (s := (63161284 + m9)) (T := (96794386085364012095207330352396389034351329418149197181353984 + x * x * (-75118300175778097228295418562102716769763328 + x * x * (58949525625355179537727488 + x * x * (-46684427))))) (P := 1532495540865888858358347027150309183618739122183602176) (e := 647) (M := 63161284) (e2 := 654) h1 h2 (by decide) (by omega) (by omega) (by decide) (by omega) (by omega) (by decide)
  generalize hm8 : mq (mq x x) (63161284 + m9) = m8 at *
  have g7 := stepA (x := x) (s := (-71582788 + m8)) (T := (-126475838866453352447083313336610178619753424363461294247999814926614927390015488 + x * x * (96794386085364012095207330352396389034351329418149197181353984 + x * x * (-75118300175778097228295418562102716769763328 + x * x * (58949525625355179537727488 + x * x * (-46684427)))))) (P := 1766847064778384329583297500742918515827483896875618958121606201292619776) (e := 654) (M := 71582788) (e2 := 659) h1 h2 (by decide) (by omega) (by omega) (by decide) (by omega) (by omega) (by decide)
  generalize hm7 : mq (mq x x) (-71582788 + m8) = m7 at *
  have g6 := stepA (x := x) (s := (82595525 + m7)) (T := (168250055909234453900537562568159004135580583995744679237823604388161034504135170998988452554342400 + x * x * (-126475838866453352447083313336610178619753424363461294247999814926614927390015488 + x * x * (96794386085364012095207330352396389034351329418149197181353984 + x * x * (-75118300175778097228295418562102716769763328 + x * x * (58949525625355179537727488 + x * x * (-46684427))))))) (P := 2037035976334486086268445688409378161051468393665936250636140449354381299763336706183397376) (e := 659) (M := 82595525) (e2 := 665) h1 h2 (by decide) (by omega) (by omega) (by decide) (by omega) (by omega) (by decide)
  generalize hm6 : mq (mq x x) (82595525 + m7) = m6 at *
  have g5 := stepA (x := x) (s := (-97612893 + m6)) (T := (-229248035838245826073820485319973698794160571448555094349124627924039565622146586728718599713539600238805044395245568 + x * x * (168250055909234453900537562568159004135580583995744679237823604388161034504135170998988452554342400 + x * x * (-126475838866453352447083313336610178619753424363461294247999814926614927390015488 + x * x * (96794386085364012095207330352396389034351329418149197181353984 + x * x * (-75118300175778097228295418562102716769763328 + x * x * (58949525625355179537727488 + x * x * (-46684427)))))))) (P := 2348542582773833227889480596789337027375682548908319870707290971532209025114608443463698998384768703031934976) (e := 665) (M := 97612893) (e2 := 673) h1 h2 (by decide) (by omega) (by omega) (by decide) (by omega) (by omega) (by decide)
  generalize hm5 : mq (mq x x) (-97612893 + m6) = m5 at *
  have g4 := stepA (x := x) (s := (119304647 + m5)) (T := (323039432719415812670270774471663670634703918179125184411584991392515076334402841377870325595008806253552919965481234142182525655580672 + x * x * (-229248035838245826073820485319973698794160571448555094349124627924039565622146586728718599713539600238805044395245568 + x * x * (168250055909234453900537562568159004135580583995744679237823604388161034504135170998988452554342400 + x * x * (-126475838866453352447083313336610178619753424363461294247999814926614927390015488 + x * x * (96794386085364012095207330352396389034351329418149197181353984 + x * x * (-75118300175778097228295418562102716769763328 + x * x * (58949525625355179537727488 + x * x * (-46684427))))))))) (P := 2707685248164858261307045101702230179137145581421695874189921465443966120903931272499975005961073806735733604454495675614232576) (e := 673) (M := 119304647) (e2 := 685) h1 h2 (by decide) (by omega) (by omega) (by decide) (by omega) (by omega) (by decide)
  generalize hm4 : mq (mq x x) (119304647 + m5) = m4 at *
  have g3 := stepA (x := x) (s := (-153391689 + m4)) (T := (-478850282766271532082502002595694900296667878485642885966559887153040578270430715054386136345917107694145141912399225941718835401076952401045732420747264 + x * x * (323039432719415812670270774471663670634703918179125184411584991392515076334402841377870325595008806253552919965481234142182525655580672 + x * x * (-229248035838245826073820485319973698794160571448555094349124627924039565622146586728718599713539600238805044395245568 + x * x * (168250055909234453900537562568159004135580583995744679237823604388161034504135170998988452554342400 + x * x * (-126475838866453352447083313336610178619753424363461294247999814926614927390015488 + x * x * (96794386085364012095207330352396389034351329418149197181353984 + x * x * (-75118300175778097228295418562102716769763328 + x * x * (58949525625355179537727488 + x * x * (-46684427)))))))))) (P := 3121748550315992231381597229793166305748598142664971150859156959625371738819765620120306103063491971159826931121406622895447975679288285306290176) (e := 685) (M := 153391689) (e2 := 703) h1 h2 (by decide) (by omega) (by omega) (by decide) (by omega) (by omega) (by decide)
  generalize hm3 : mq (mq x x) (-153391689 + m4) = m3 at *
  have g2 := stepA (x := x) (s := (214748365 + m3)) (T := (772907505323277876065981799436083630089542563360438538659753711586424720075806097814676812567431025369115260350287781136836358951921920100027669684934778578677822379786240 + x * x * (-478850282766271532082502002595694900296667878485642885966559887153040578270430715054386136345917107694145141912399225941718835401076952401045732420747264 + x * x * (323039432719415812670270774471663670634703918179125184411584991392515076334402841377870325595008806253552919965481234142182525655580672 + x * x * (-229248035838245826073820485319973698794160571448555094349124627924039565622146586728718599713539600238805044395245568 + x * x * (168250055909234453900537562568159004135580583995744679237823604388161034504135170998988452554342400 + x * x * (-126475838866453352447083313336610178619753424363461294247999814926614927390015488 + x * x * (96794386085364012095207330352396389034351329418149197181353984 + x * x * (-75118300175778097228295418562102716769763328 + x * x * (58949525625355179537727488 + x * x * (-46684427))))))))))) (P := 3599131035634557106248430806148785487095757694641533306480604458089470064537190296255232548883112685719936728506816716098566612844395439751206812144692131084107776) (e := 703) (M := 214748365) (e2 := 736) h1 h2 (by decide) (by omega) (by omega) (by decide) (by omega) (by omega) (by decide)
  generalize hm2 : mq (mq x x) (214748365 + m3) = m2 at *
  have g1 := stepA (x := x) (s := (-357913941 + m2)) (T := (-1485169470499053149774425395893094294424960771032491858321268597755117858595523732948924111134137819549742195384921800592681216340691016698252279754051449986366958287372921478971265768226816 + x * x * (772907505323277876065981799436083630089542563360438538659753711586424720075806097814676812567431025369115260350287781136836358951921920100027669684934778578677822379786240 + x * x * (-478850282766271532082502002595694900296667878485642885966559887153040578270430715054386136345917107694145141912399225941718835401076952401045732420747264 + x * x * (323039432719415812670270774471663670634703918179125184411584991392515076334402841377870325595008806253552919965481234142182525655580672 + x * x * (-229248035838245826073820485319973698794160571448555094349124627924039565622146586728718599713539600238805044395245568 + x * x * (168250055909234453900537562568159004135580583995744679237823604388161034504135170998988452554342400 + x * x * (-126475838866453352447083313336610178619753424363461294247999814926614927390015488 + x * x * (96794386085364012095207330352396389034351329418149197181353984 + x * x * (-75118300175778097228295418562102716769763328 + x * x * (58949525625355179537727488 + x * x * (-46684427)))))))))))) (P := 4149515568880992958512407863691161151012446232242436899995657329690652811412908146399707048947103794288197886611300789182395151075411775307886874834113963687061181803401509523685376) (e := 736) (M := 357913941) (e2 := 809) h1 h2 (by decide) (by omega) (by omega) (by decide) (by omega) (by omega) (by decide)
  generalize hm1 : mq (mq x x) (-357913941 + m2) = m1 at *
  omega
/-- The angle by the series; 2^690 times it, exactly. -/
def aF (x : Int) : Int := mq x (atanS (mq x x))
def AA (x : Int) : Int := x * evL1 (x * x) tL
def KA : Int := 5136851466355833503165029182500125649951503713694505722166289944403058744430742990345377476833582471901350555523611540735370539306820120960085756611964727392534398116336371677921546638558908903585247316148224
theorem at_in {x : Int} (h1 : -444758430 ≤ x) (h2 : x ≤ 444758430) : 536870912 ≤ atanS (mq x x) ∧ atanS (mq x x) ≤ 1073741824 := by
  obtain ⟨z1, z2⟩ := zx_bd h1 h2
  have hb := at_bd z1 z2
  unfold atanS
  omega
theorem aF_near {x : Int} (h1 : -444758430 ≤ x) (h2 : x ≤ 444758430) : -(848 * KA) ≤ 1024 * (KA * aF x - AA x) ∧ 1024 * (KA * aF x - AA x) ≤ 848 * KA := by
  have hs := at_ser h1 h2
  have hi := at_in h1 h2
  unfold aF AA KA
  generalize atanS (mq x x) = s at *
  have h := mq_near (a := x) (b := s) (by omega) (by omega) (by omega) (by omega)
  have b := bil h1 h2 hs.1 hs.2
  generalize evL1 (x * x) tL = T at *
  generalize mq x s = r at *
  have e2 : x * (1024 * (4784065733063810973581885157618788676291241975216665977767007373648750357731006099232824032039924032894289638403441329240212719241920971274455782595989040464660523567661989180298099889009174801022976 * s - T)) = 1024 * (4784065733063810973581885157618788676291241975216665977767007373648750357731006099232824032039924032894289638403441329240212719241920971274455782595989040464660523567661989180298099889009174801022976 * (x * s) - x * T) := by grind
  omega
theorem aF_pos {x : Int} (h1 : 0 ≤ x) (h2 : x ≤ 444758430) : 0 ≤ aF x ∧ aF x ≤ 444758430 := by
  have hi := at_in (x := x) (by omega) h2
  unfold aF
  have h := mq_pos h1 h2 (by decide) (s := atanS (mq x x)) (H := 1073741824) (by omega) hi.2 (by decide)
  omega
theorem aF_neg {x : Int} (h1 : x ≤ 0) (h2 : -444758430 ≤ x) : aF x ≤ 0 ∧ -444758430 ≤ aF x := by
  have hi := at_in (x := x) h2 (by omega)
  unfold aF
  generalize atanS (mq x x) = s at *
  have h := mq_near (a := x) (b := s) (by omega) (by omega) (by omega) (by omega)
  have k := Int.mul_nonneg (show 0 ≤ -x by omega) (show 0 ≤ s by omega)
  have k2 := Int.mul_nonneg (show 0 ≤ -x by omega) (show 0 ≤ 1073741824 - s by omega)
  have e1 : -x * s = -(x * s) := by grind
  have e2 : -x * (1073741824 - s) = -(1073741824 * x) + x * s := by grind
  omega
def comp : List Int → List Int → List Int
  | [], _ => []
  | c :: l, b => addL [c] (mulL b (comp l b))
theorem comp_ev (b : List Int) (x : Int) : ∀ l, ev (comp l b) x = ev l (ev b x)
  | [] => rfl
  | c :: l => by
    have ih := comp_ev b x l
    simp only [comp, addL_ev, mulL_ev, ih, ev]
    grind
def sigL : List Int := [((638512875 * 2 ^ 10091 : Nat) : Int), (-((212837625 * 2 ^ 8650 : Nat) : Int)), ((42567525 * 2 ^ 7208 : Nat) : Int), (-((2027025 * 2 ^ 5767 : Nat) : Int)), ((225225 * 2 ^ 4324 : Nat) : Int), (-((4095 * 2 ^ 2883 : Nat) : Int)), ((105 * 2 ^ 1441 : Nat) : Int), (-1)]
def gamL : List Int := [((638512875 * 2 ^ 10811 : Nat) : Int), (-((638512875 * 2 ^ 9370 : Nat) : Int)), ((212837625 * 2 ^ 7928 : Nat) : Int), (-((14189175 * 2 ^ 6487 : Nat) : Int)), ((2027025 * 2 ^ 5044 : Nat) : Int), (-((45045 * 2 ^ 3603 : Nat) : Int)), ((1365 * 2 ^ 2161 : Nat) : Int), (-((15 * 2 ^ 720 : Nat) : Int))]
def bL : List Int := 0 :: mulL tL tL
def gL : List Int := addL (smul 1073741824 (mulL tL (comp sigL bL))) (smul (-1) (comp gamL bL))
def shL : List Int := 0 :: inter sigL
def chL : List Int := inter gamL
def GB : Int := ((220296066848763 * 2 ^ 10788 : Nat) : Int)
theorem g_b : ile (444758430 * evA gL (444758430 * 444758430)) GB = true := by kernel_rfl
/-- The sine and cosine of the exact series' angle. -/
theorem comp_near {x : Int} (h1 : -444758430 ≤ x) (h2 : x ≤ 444758430) : -GB ≤ 1073741824 * ev shL (AA x) - x * ev chL (AA x) ∧ 1073741824 * ev shL (AA x) - x * ev chL (AA x) ≤ GB := by
  have q := bil h1 h2 (d := x) h1 h2
  have hg := ev_bd (x := x * x) (B := 444758430 * 444758430) (by omega) (by omega) gL
  have k := bil h1 h2 hg.1 hg.2
  have hb := g_b
  rw [ile_iff, decide_eq_true_eq] at hb
  have ea : AA x = x * ev tL (x * x) := by unfold AA; rw [ev_evL1]
  have eb : ev bL (x * x) = AA x * AA x := by
    rw [ea]; unfold bL
    have e0 : ev (0 :: mulL tL tL) (x * x) = 0 + x * x * ev (mulL tL tL) (x * x) := rfl
    rw [e0, mulL_ev]; grind
  have es : ev shL (AA x) = AA x * ev sigL (AA x * AA x) := by
    unfold shL
    have e0 : ev (0 :: inter sigL) (AA x) = 0 + AA x * ev (inter sigL) (AA x) := rfl
    rw [e0, inter_ev]; omega
  have ec : ev chL (AA x) = ev gamL (AA x * AA x) := by unfold chL; rw [inter_ev]
  have eg : ev gL (x * x) = 1073741824 * (ev tL (x * x) * ev sigL (AA x * AA x)) - ev gamL (AA x * AA x) := by
    unfold gL
    rw [addL_ev, smul_ev, smul_ev, mulL_ev, comp_ev, comp_ev, eb]; omega
  have e : 1073741824 * ev shL (AA x) - x * ev chL (AA x) = x * ev gL (x * x) := by
    rw [es, ec, eg]
    generalize ev sigL (AA x * AA x) = p
    generalize ev gamL (AA x * AA x) = r
    rw [ea]; grind
  rw [e]
  generalize x * ev gL (x * x) = v at *
  generalize evA gL (444758430 * 444758430) = w at *
  omega
end
end Go.Proofs.Ytbpccdagmaiblaa.Tr

/- TrT -/
namespace Go.Proofs.Ytbpccdagmaiblaa.Tr
open Go SX
noncomputable section
def BB : Int := 480000000 * KA
def EE : Int := ((53 * 2 ^ 684 : Nat) : Int)
theorem AA_in {x : Int} (h1 : -444758430 ≤ x) (h2 : x ≤ 444758430) : -BB ≤ AA x ∧ AA x ≤ BB := by
  have q := bil h1 h2 (d := x) h1 h2
  have hg := ev_bd (x := x * x) (B := 444758430 * 444758430) (by omega) (by omega) tL
  have k := bil h1 h2 hg.1 hg.2
  have hb : 444758430 * evA tL (444758430 * 444758430) ≤ BB := by decide +kernel
  unfold AA
  rw [← ev_evL1]
  omega
def shA : List Int := [0, ((638512875 * 2 ^ 431 : Nat) : Int), 0, (-((212837625 * 2 ^ 370 : Nat) : Int)), 0, ((42567525 * 2 ^ 308 : Nat) : Int), 0, (-((2027025 * 2 ^ 247 : Nat) : Int)), 0, ((225225 * 2 ^ 184 : Nat) : Int), 0, (-((4095 * 2 ^ 123 : Nat) : Int)), 0, ((105 * 2 ^ 61 : Nat) : Int), 0, (-1), 0]
def chA : List Int := [((638512875 * 2 ^ 461 : Nat) : Int), 0, (-((638512875 * 2 ^ 400 : Nat) : Int)), 0, ((212837625 * 2 ^ 338 : Nat) : Int), 0, (-((14189175 * 2 ^ 277 : Nat) : Int)), 0, ((2027025 * 2 ^ 214 : Nat) : Int), 0, (-((45045 * 2 ^ 153 : Nat) : Int)), 0, ((1365 * 2 ^ 91 : Nat) : Int), 0, (-16106127360), 0]
def KP : Int := KA ^ 15
theorem sh_scl : scl KA 1 shL = smul KP shA := by decide +kernel
theorem ch_scl : scl KA 1 chL = smul KP chA := by decide +kernel
def TOT : Int := ((186110423996583 * 2 ^ 10793 : Nat) : Int)
theorem lip_b : GB + 1073741824 * (evL shL BB * EE) + 444758430 * (evL chL BB * EE) ≤ TOT := by decide +kernel
theorem EE_is : 1024 * EE = 848 * KA := by decide +kernel
theorem KA_BB : 0 < KA ∧ 480000000 * KA = BB := by decide +kernel
theorem at_big {x : Int} (h1 : -444758430 ≤ x) (h2 : x ≤ 444758430) : -TOT ≤ KP * (1073741824 * ev shA (aF x) - x * ev chA (aF x)) ∧ KP * (1073741824 * ev shA (aF x) - x * ev chA (aF x)) ≤ TOT := by
  have hc := comp_near h1 h2
  have hA := AA_in h1 h2
  have hn := aF_near h1 h2
  have hE := EE_is
  have hl := lip_b
  obtain ⟨hk, hB⟩ := KA_BB
  have ha : -444758430 ≤ aF x ∧ aF x ≤ 444758430 := by
    rcases Int.le_total 0 x with h | h
    · have := aF_pos h h2; omega
    · have := aF_neg h h1; omega
  have b := bil ha.1 ha.2 (d := KA) (S := KA) (by omega) (by omega)
  rw [Int.mul_comm (aF x) KA] at b
  have x1 : -BB ≤ KA * aF x ∧ KA * aF x ≤ BB := by
    generalize KA * aF x = p at *
    generalize BB = q at *
    generalize KA = r at *
    omega
  have d1 : -EE ≤ KA * aF x - AA x ∧ KA * aF x - AA x ≤ EE := by
    generalize KA * aF x = p at *
    generalize AA x = q at *
    generalize EE = r at *
    generalize KA = s at *
    omega
  have l1 := ev_lip x1.1 x1.2 hA.1 hA.2 d1.1 d1.2 shL
  have l2 := ev_lip x1.1 x1.2 hA.1 hA.2 d1.1 d1.2 chL
  have l3 := bil h1 h2 l2.1 l2.2
  have s1 : ev shL (KA * aF x) = KP * ev shA (aF x) := by
    have h := scl_ev KA (aF x) shL 1
    rw [sh_scl, smul_ev] at h; omega
  have s2 : ev chL (KA * aF x) = KP * ev chA (aF x) := by
    have h := scl_ev KA (aF x) chL 1
    rw [ch_scl, smul_ev] at h; omega
  rw [s1] at l1
  rw [s2] at l3
  generalize ev shA (aF x) = p at *
  generalize ev chA (aF x) = q at *
  generalize ev shL (AA x) = p2 at *
  generalize ev chL (AA x) = q2 at *
  generalize evL shL BB * EE = m at *
  generalize evL chL BB * EE = m2 at *
  have i1 : KP * (1073741824 * p - x * q) = 1073741824 * (KP * p - p2) - x * (KP * q - q2) + (1073741824 * p2 - x * q2) := by grind
  rw [i1]
  generalize KP * p - p2 = r1 at *
  generalize x * (KP * q - q2) = r2 at *
  generalize 1073741824 * p2 - x * q2 = r3 at *
  generalize GB = gb at *
  generalize TOT = tt at *
  omega
def mu : Int := ((4648743392743778398805109375 * 2 ^ 777 : Nat) : Int)
theorem KP_b : 0 < KP ∧ 1024 * TOT * mu ≤ 1139 * (KP * DT) ∧ 0 < mu := by decide +kernel
def tsL : List Int := addL snL (smul (-mu) shA)
def tcL : List Int := addL cnL (smul (-mu) chA)
theorem ts_b : 1024 * (1073741824 * evA tsL 480000000 + 444758430 * evA tcL 480000000) ≤ 1 * DT := by decide +kernel
/-- The sine of the angle is the tangent times its cosine. -/
theorem at_N {x : Int} (h1 : -444758430 ≤ x) (h2 : x ≤ 444758430) : -(1140 * DT) ≤ 1024 * (1073741824 * sN (aF x) - x * cN (aF x)) ∧ 1024 * (1073741824 * sN (aF x) - x * cN (aF x)) ≤ 1140 * DT := by
  have hb := at_big h1 h2
  obtain ⟨hk, hm, h0⟩ := KP_b
  have ht := ts_b
  have ha : -480000000 ≤ aF x ∧ aF x ≤ 480000000 := by
    rcases Int.le_total 0 x with h | h
    · have := aF_pos h h2; omega
    · have := aF_neg h h1; omega
  have v1 := ev_bd ha.1 ha.2 tsL
  have v2 := ev_bd ha.1 ha.2 tcL
  have v3 := bil h1 h2 v2.1 v2.2
  have e1 : ev tsL (aF x) = sN (aF x) - mu * ev shA (aF x) := by unfold tsL sN; rw [addL_ev, smul_ev]; grind
  have e2 : ev tcL (aF x) = cN (aF x) - mu * ev chA (aF x) := by unfold tcL cN; rw [addL_ev, smul_ev]; grind
  rw [e1] at v1
  rw [e2] at v3
  generalize sN (aF x) = p at *
  generalize cN (aF x) = q at *
  generalize ev shA (aF x) = p2 at *
  generalize ev chA (aF x) = q2 at *
  generalize evA tsL 480000000 = w1 at *
  generalize evA tcL 480000000 = w2 at *
  -- what lies under KP
  have t1 : -(1139 * DT) ≤ 1024 * (mu * (1073741824 * p2 - x * q2)) ∧ 1024 * (mu * (1073741824 * p2 - x * q2)) ≤ 1139 * DT := by
    generalize 1073741824 * p2 - x * q2 = v at *
    have c1 := Int.mul_le_mul_of_nonneg_left hb.1 (Int.le_of_lt h0)
    have c2 := Int.mul_le_mul_of_nonneg_left hb.2 (Int.le_of_lt h0)
    have i1 : mu * (KP * v) = KP * (mu * v) := by grind
    have i2 : mu * -TOT = -(TOT * mu) := by grind
    have i3 : mu * TOT = TOT * mu := by grind
    have i4 : 1024 * TOT * mu = 1024 * (TOT * mu) := by grind
    rw [i1, i2] at c1
    rw [i1, i3] at c2
    rw [i4] at hm
    constructor
    · refine Int.le_of_mul_le_mul_left (a := KP) ?_ hk
      have i5 : KP * -(1139 * DT) = -(1139 * (KP * DT)) := by grind
      have i6 : KP * (1024 * (mu * v)) = 1024 * (KP * (mu * v)) := by grind
      rw [i5, i6]
      generalize KP * (mu * v) = a at *
      generalize KP * DT = b at *
      generalize TOT * mu = c at *
      omega
    · refine Int.le_of_mul_le_mul_left (a := KP) ?_ hk
      have i5 : KP * (1139 * DT) = 1139 * (KP * DT) := by grind
      have i6 : KP * (1024 * (mu * v)) = 1024 * (KP * (mu * v)) := by grind
      rw [i5, i6]
      generalize KP * (mu * v) = a at *
      generalize KP * DT = b at *
      generalize TOT * mu = c at *
      omega
  have i : 1073741824 * p - x * q = mu * (1073741824 * p2 - x * q2) + 1073741824 * (p - mu * p2) - x * (q - mu * q2) := by grind
  rw [i]
  generalize mu * (1073741824 * p2 - x * q2) = a at *
  generalize p - mu * p2 = b at *
  generalize x * (q - mu * q2) = c at *
  generalize DT = d at *
  omega
/-- The same in units of 2^-44. -/
theorem at_T {x : Int} (h1 : -444758430 ≤ x) (h2 : x ≤ 444758430) : -(1141 * 17592186044416) ≤ 1024 * (1073741824 * sT (aF x) - x * cT (aF x)) ∧ 1024 * (1073741824 * sT (aF x) - x * cT (aF x)) ≤ 1141 * 17592186044416 := by
  have h := at_N h1 h2
  have f1 := fl (sN (aF x))
  have f2 := fl (cN (aF x))
  change DT * sT (aF x) ≤ _ ∧ _ < DT * sT (aF x) + DT at f1
  change DT * cT (aF x) ≤ _ ∧ _ < DT * cT (aF x) + DT at f2
  have hd := DT_pos
  generalize sT (aF x) = s at *
  generalize cT (aF x) = c at *
  generalize sN (aF x) = p at *
  generalize cN (aF x) = q at *
  generalize DT = d at *
  have b := bil h1 h2 (d := q * 17592186044416 - d * c) (S := d) (by omega) (by omega)
  have i1 : x * (q * 17592186044416 - d * c) = 17592186044416 * (x * q) - d * (x * c) := by grind
  rw [i1] at b
  constructor
  · refine Int.le_of_mul_le_mul_left (a := d) ?_ hd
    have i2 : d * -(1141 * 17592186044416) = -(1141 * 17592186044416 * d) := by grind
    have i3 : d * (1024 * (1073741824 * s - x * c)) = 1024 * 1073741824 * (d * s) - 1024 * (d * (x * c)) := by grind
    rw [i2, i3]; omega
  · refine Int.le_of_mul_le_mul_left (a := d) ?_ hd
    have i2 : d * (1141 * 17592186044416) = 1141 * 17592186044416 * d := by grind
    have i3 : d * (1024 * (1073741824 * s - x * c)) = 1024 * 1073741824 * (d * s) - 1024 * (d * (x * c)) := by grind
    rw [i2, i3]; omega
end
end Go.Proofs.Ytbpccdagmaiblaa.Tr

/- TrX -/
namespace Go.Proofs.Ytbpccdagmaiblaa.Tr
open Go SX
theorem absP {a : Int} (h1 : 0 ≤ a) (h2 : a ≤ 1152921504606846976) : absv a = a := by
  unfold absv; rw [if_neg (by omega), if_neg (by omega)]; omega
theorem absN {a : Int} (h1 : a ≤ 0) (h2 : -1152921504606846976 ≤ a) : absv a = -a := by
  unfold absv; rw [if_neg (by omega), if_neg (by omega)]; omega
theorem divv_nr {v d : Int} (hd : 1 ≤ d) (h : -1152921504606846976 ≤ divZ v d ∧ divZ v d ≤ 1152921504606846976) : -d ≤ 2 * (d * divv v d - v) ∧ 2 * (d * divv v d - v) ≤ d := by
  have k := divZ_near (v := v) hd
  unfold divv
  rw [if_neg (by omega), satv_id (by unfold mx; omega) (by unfold mx; omega)]
  exact k
theorem divZ_in {v d B : Int} (hd : 1 ≤ d) (_hB : 0 ≤ B) (h1 : -(B * d) ≤ v) (h2 : v ≤ B * d) : -B - 1 ≤ divZ v d ∧ divZ v d ≤ B + 1 := by
  have k := divZ_near (v := v) hd
  generalize divZ v d = q at *
  constructor
  · refine Int.not_lt.1 fun hc => ?_
    have k1 := Int.mul_le_mul_of_nonneg_left (show q ≤ -B - 2 by omega) (show 0 ≤ d by omega)
    have e : d * (-B - 2) = -(B * d) - 2 * d := by grind
    omega
  · refine Int.not_lt.1 fun hc => ?_
    have k1 := Int.mul_le_mul_of_nonneg_left (show B + 2 ≤ q by omega) (show 0 ≤ d by omega)
    have e : d * (B + 2) = B * d + 2 * d := by grind
    omega
theorem slope_T {t : Int} (t1 : 0 ≤ t) (t2 : t ≤ 1073741824) : (0 ≤ slopeF t ∧ slopeF t ≤ 843314857) ∧ -(3696 * 17592186044416) ≤ 1024 * (1073741824 * sT (slopeF t) - t * cT (slopeF t)) ∧ 1024 * (1073741824 * sT (slopeF t) - t * cT (slopeF t)) ≤ 3696 * 17592186044416 := by
  rcases Int.lt_or_le 444758426 t with h | h
  · have hs : slopeF t = aF (divv (satv (t - 1073741824) * 2 ^ 30) (satv (t + 1073741824))) + 843314857 := by
      unfold slopeF aF
      rw [if_pos h]; omega
    rw [hs, satv_id (a := t - 1073741824) (by unfold mx; omega) (by unfold mx; omega), satv_id (a := t + 1073741824) (by unfold mx; omega) (by unfold mx; omega)]
    have hp : (2 : Int) ^ 30 = 1073741824 := by decide
    rw [hp]
    have hi := divZ_in (v := (t - 1073741824) * 1073741824) (d := t + 1073741824) (B := 1073741824) (by omega) (by decide) (by omega) (by omega)
    have hn := divv_nr (v := (t - 1073741824) * 1073741824) (d := t + 1073741824) (by omega) (by omega)
    generalize divv ((t - 1073741824) * 1073741824) (t + 1073741824) = d at *
    have d2 : d ≤ 0 := by
      refine Int.not_lt.1 fun hc => ?_
      have k := Int.mul_le_mul_of_nonneg_left (show 1 ≤ d by omega) (show 0 ≤ t + 1073741824 by omega)
      omega
    have d1 : -444758430 ≤ d := by
      refine Int.not_lt.1 fun hc => ?_
      have k := Int.mul_le_mul_of_nonneg_left (show d ≤ -444758431 by omega) (show 0 ≤ t + 1073741824 by omega)
      omega
    have ha := aF_neg d2 d1
    have hT := at_T d1 (x := d) (by omega)
    have b1 := sT_in (x := aF d) (by omega) (by omega)
    have b2 := cT_in (x := aF d) (by omega) (by omega)
    have u1 := sum_s (x := aF d) (y := 843314857) (by omega) (by omega) (by decide) (by decide)
    have u2 := sum_c (x := aF d) (y := 843314857) (by omega) (by omega) (by decide) (by decide)
    rw [sTE, cTE] at u1 u2
    refine ⟨by omega, ?_⟩
    generalize sT (aF d + 843314857) = S at *
    generalize cT (aF d + 843314857) = C at *
    generalize sT (aF d) = s at *
    generalize cT (aF d) = c at *
    -- X = (1 + t) s + (1 - t) c
    have q1 := bil (u := t + 1073741824) (B := 2147483648) (by omega) (by omega) hT.1 hT.2
    have q2 := bil (u := c) (d := 2 * ((t + 1073741824) * d - (t - 1073741824) * 1073741824)) (B := 17592186044418) (S := 2147483648) (by omega) (by omega) (by omega) (by omega)
    have i1 : 1024 * 1073741824 * ((1073741824 + t) * s + (1073741824 - t) * c) = (t + 1073741824) * (1024 * (1073741824 * s - d * c)) + 512 * (c * (2 * ((t + 1073741824) * d - (t - 1073741824) * 1073741824))) := by grind
    have q3 := bil (u := t) (B := 1073741824) (by omega) (by omega) (d := s) (S := 17592186044418) (by omega) (by omega)
    have q4 := bil (u := t) (B := 1073741824) (by omega) (by omega) (d := 17592186044416 * C - (c * 12439554042487 - s * 12439554053316)) (S := 8 * 17592186044416) (by omega) (by omega)
    have i2 : 17592186044416 * (1073741824 * S - t * C) = 1073741824 * (17592186044416 * S - (s * 12439554042487 + c * 12439554053316)) - t * (17592186044416 * C - (c * 12439554042487 - s * 12439554053316)) + 12439554042487 * ((1073741824 + t) * s + (1073741824 - t) * c) + (10829) * (t * s + 1073741824 * c) := by grind
    generalize (1073741824 + t) * s + (1073741824 - t) * c = X at *
    generalize (t + 1073741824) * (1024 * (1073741824 * s - d * c)) = p1 at *
    generalize c * (2 * ((t + 1073741824) * d - (t - 1073741824) * 1073741824)) = p2 at *
    generalize t * (17592186044416 * C - (c * 12439554042487 - s * 12439554053316)) = p3 at *
    generalize t * s = p4 at *
    generalize t * C = p5 at *
    omega
  · have hs : slopeF t = aF t := by unfold slopeF aF; rw [if_neg (by omega)]
    rw [hs]
    have h1 := aF_pos t1 (by omega)
    have h2 := at_T (x := t) (by omega) (by omega)
    omega
/-- Two numbers, the lesser over the greater. -/
theorem base_T {n m : Int} (n0 : 0 ≤ n) (hnm : n ≤ m) (m0 : 1 ≤ m) (hm : m ≤ 1152921504606846976) :
    ∃ a, slopeF (divv (n * 2 ^ 30) m) = a ∧ (0 ≤ a ∧ a ≤ 843314857) ∧ (-(m * (4210 * 17592186044416)) ≤ 1099511627776 * (m * sT a - n * cT a) ∧ 1099511627776 * (m * sT a - n * cT a) ≤ m * (4210 * 17592186044416)) ∧ (-1 ≤ sT a ∧ sT a ≤ 17592186044417) ∧ (7322000000000 ≤ cT a ∧ cT a ≤ 17592186044417) := by
  have hp : (2 : Int) ^ 30 = 1073741824 := by decide
  rw [hp]
  have hi := divZ_in (v := n * 1073741824) (d := m) (B := 1073741824) m0 (by decide) (by omega) (by omega)
  have hn := divv_nr (v := n * 1073741824) (d := m) m0 (by omega)
  generalize divv (n * 1073741824) m = t at *
  have t1 : 0 ≤ t := by
    refine Int.not_lt.1 fun hc => ?_
    have k := Int.mul_le_mul_of_nonneg_left (show t ≤ -1 by omega) (show 0 ≤ m by omega)
    omega
  have t2 : t ≤ 1073741824 := by
    refine Int.not_lt.1 fun hc => ?_
    have k := Int.mul_le_mul_of_nonneg_left (show 1073741825 ≤ t by omega) (show 0 ≤ m by omega)
    omega
  obtain ⟨hr, hT⟩ := slope_T t1 t2
  generalize slopeF t = a at *
  have b1 := sT_in (x := a) (by omega) (by omega)
  have b2 := cT_in (x := a) (by omega) (by omega)
  have j1 := jord (z := a) (by omega) (by omega)
  have j2 := jord (z := -a + 1686629713) (by omega) (by omega)
  have j3 := sQ (x := -a) (by omega) (by omega)
  rw [cT_neg] at j3
  refine ⟨a, rfl, hr, ?_, by omega, by omega⟩
  have q1 := bil (u := m) (B := m) (by omega) (by omega) hT.1 hT.2
  have q2 := bil (u := cT a) (B := 17592186044418) (by omega) (by omega) hn.1 hn.2
  have i : 1099511627776 * (m * sT a - n * cT a) = m * (1024 * (1073741824 * sT a - t * cT a)) + 512 * (cT a * (2 * (m * t - n * 1073741824))) := by grind
  rw [i]
  generalize m * (1024 * (1073741824 * sT a - t * cT a)) = p1 at *
  generalize cT a * (2 * (m * t - n * 1073741824)) = p2 at *
  omega
/-- The first quarter. -/
theorem quarter_T {u v r : Int} (u0 : 0 ≤ u) (v0 : 0 ≤ v) (u1 : u ≤ 1152921504606846976) (v1 : v ≤ 1152921504606846976) (h0 : 1 ≤ u ∨ 1 ≤ v) (m : Int) (hm : m = if v < u then u else v)
    (hr : r = if v < u then 1686629713 - slopeF (divv (v * 2 ^ 30) u) else slopeF (divv (u * 2 ^ 30) v)) :
    (0 ≤ r ∧ r ≤ 1686629713) ∧ (-(m * (4350 * 17592186044416)) ≤ 1099511627776 * (u * cT r - v * sT r) ∧ 1099511627776 * (u * cT r - v * sT r) ≤ m * (4350 * 17592186044416)) ∧ m * 7320000000000 ≤ v * cT r + u * sT r := by
  rcases Int.lt_or_le v u with h | h
  · rw [if_pos h] at hm hr
    subst hm
    obtain ⟨a, ha, hin, hT, hs, hc⟩ := base_T v0 (Int.le_of_lt h) (by omega) u1
    rw [ha] at hr
    have k1 := sQ (x := -a) (by omega) (by omega)
    have k2 := cQ (x := -a) (by omega) (by omega)
    have k3 := sT_neg a
    rw [show -a + 1686629713 = r by omega] at k1 k2
    rw [cT_neg] at k1
    refine ⟨by omega, ?_⟩
    have q1 := bil (u := m) (B := m) (by omega) (by omega) (d := cT r - sT a) (S := 1101) (by omega) (by omega)
    have q2 := bil (u := v) (B := m) (by omega) (by omega) (d := sT r - cT a) (S := 1101) (by omega) (by omega)
    have q3 := bil (u := m) (B := m) (by omega) (by omega) (d := sT r - cT a) (S := 1101) (by omega) (by omega)
    have q4 := bil (u := v) (B := m) (by omega) (by omega) (d := cT r - sT a) (S := 1101) (by omega) (by omega)
    have q5 := Int.mul_le_mul_of_nonneg_left hc.1 (show 0 ≤ m by omega)
    have q6 := Int.mul_le_mul_of_nonneg_left hs.1 v0
    have i1 : m * (cT r - sT a) = m * cT r - m * sT a := by grind
    have i2 : v * (sT r - cT a) = v * sT r - v * cT a := by grind
    have i3 : m * (sT r - cT a) = m * sT r - m * cT a := by grind
    have i4 : v * (cT r - sT a) = v * cT r - v * sT a := by grind
    rw [i1] at q1
    rw [i2] at q2
    rw [i3] at q3
    rw [i4] at q4
    omega
  · rw [if_neg (by omega)] at hm hr
    subst hm
    obtain ⟨a, ha, hin, hT, hs, hc⟩ := base_T u0 h (by omega) v1
    rw [ha] at hr
    subst hr
    have q5 := Int.mul_le_mul_of_nonneg_left hc.1 v0
    have q6 := Int.mul_le_mul_of_nonneg_left hs.1 u0
    omega
/-- The half above. -/
theorem half_T {u v r s X : Int} (m : Int) (hu : 0 ≤ u ∧ u ≤ m) (hv : 0 ≤ v ∧ v ≤ m) (hr : 0 ≤ r ∧ r ≤ 1686629713) (hX : X = v ∧ s = r ∨ X = -v ∧ s = 3373259426 - r)
    (h1 : -(m * (4350 * 17592186044416)) ≤ 1099511627776 * (u * cT r - v * sT r)) (h2 : 1099511627776 * (u * cT r - v * sT r) ≤ m * (4350 * 17592186044416)) (h3 : m * 7320000000000 ≤ v * cT r + u * sT r) :
    (0 ≤ s ∧ s ≤ 3373259426) ∧ (-(m * (4630 * 17592186044416)) ≤ 1099511627776 * (u * cT s - X * sT s) ∧ 1099511627776 * (u * cT s - X * sT s) ≤ m * (4630 * 17592186044416)) ∧ m * 7310000000000 ≤ X * cT s + u * sT s := by
  rcases hX with ⟨rfl, rfl⟩ | ⟨rfl, rfl⟩
  · omega
  · have k1 := sP (x := -r) (by omega) (by omega)
    have k2 := cP (x := -r) (by omega) (by omega)
    have k3 := sT_neg r
    rw [show -r + 3373259426 = 3373259426 - r by omega] at k1 k2
    rw [cT_neg] at k2
    refine ⟨by omega, ?_⟩
    generalize 3373259426 - r = s at *
    have q1 := bil (u := u) (B := m) (by omega) (by omega) (d := cT s + cT r) (S := 2201) (by omega) (by omega)
    have q2 := bil (u := v) (B := m) (by omega) (by omega) (d := sT s - sT r) (S := 2201) (by omega) (by omega)
    have q3 := bil (u := u) (B := m) (by omega) (by omega) (d := sT s - sT r) (S := 2201) (by omega) (by omega)
    have q4 := bil (u := v) (B := m) (by omega) (by omega) (d := cT s + cT r) (S := 2201) (by omega) (by omega)
    have i1 : u * (cT s + cT r) = u * cT s + u * cT r := by grind
    have i2 : v * (sT s - sT r) = v * sT s - v * sT r := by grind
    have i3 : u * (sT s - sT r) = u * sT s - u * sT r := by grind
    have i4 : v * (cT s + cT r) = v * cT s + v * cT r := by grind
    rw [i1] at q1
    rw [i2] at q2
    rw [i3] at q3
    rw [i4] at q4
    have j1 : -v * sT s = -(v * sT s) := by grind
    have j2 : -v * cT s = -(v * cT s) := by grind
    rw [j1, j2]
    omega
/-- The angle of a point: its sine and cosine lie as the point. -/
theorem atan_T {y x Y X m : Int} (hY : satv y = Y) (hX : satv x = X) (h0 : Y ≠ 0 ∨ X ≠ 0) (hm : m = if absv X < absv Y then absv Y else absv X) :
    (-3373259426 ≤ atanF y x ∧ atanF y x ≤ 3373259426) ∧ (-(m * (4632 * 17592186044416)) ≤ 1099511627776 * (Y * cT (atanF y x) - X * sT (atanF y x)) ∧ 1099511627776 * (Y * cT (atanF y x) - X * sT (atanF y x)) ≤ m * (4632 * 17592186044416)) ∧ m * 7300000000000 ≤ X * cT (atanF y x) + Y * sT (atanF y x) := by
  have Y1 : -1152921504606846976 ≤ Y ∧ Y ≤ 1152921504606846976 := hY ▸ ⟨satv_lo y, satv_hi y⟩
  have X1 : -1152921504606846976 ≤ X ∧ X ≤ 1152921504606846976 := hX ▸ ⟨satv_lo x, satv_hi x⟩
  have aY : (0 ≤ Y ∧ absv Y = Y) ∨ (Y < 0 ∧ absv Y = -Y) := by
    rcases Int.lt_or_le Y 0 with h | h
    · exact .inr ⟨h, absN (by omega) (by omega)⟩
    · exact .inl ⟨h, absP (by omega) (by omega)⟩
  have aX : (0 ≤ X ∧ absv X = X) ∨ (X < 0 ∧ absv X = -X) := by
    rcases Int.lt_or_le X 0 with h | h
    · exact .inr ⟨h, absN (by omega) (by omega)⟩
    · exact .inl ⟨h, absP (by omega) (by omega)⟩
  have su : satv (absv Y) = absv Y := satv_id (by unfold mx; omega) (by unfold mx; omega)
  have sv : satv (absv X) = absv X := satv_id (by unfold mx; omega) (by unfold mx; omega)
  have ha : ∃ r s, (r = if absv X < absv Y then 1686629713 - slopeF (divv (absv X * 2 ^ 30) (absv Y)) else slopeF (divv (absv Y * 2 ^ 30) (absv X))) ∧ (s = if X < 0 then 3373259426 - r else r) ∧ atanF y x = if Y < 0 then -s else s := by
    refine ⟨_, _, rfl, rfl, ?_⟩
    unfold atanF
    rw [hY, hX, if_neg (by omega)]
  obtain ⟨r, s, hr, hs, ha⟩ := ha
  generalize absv Y = u at *
  generalize absv X = v at *
  obtain ⟨k1, k2, k3⟩ := quarter_T (u := u) (v := v) (r := r) (by omega) (by omega) (by omega) (by omega) (by omega) m hm hr
  have hmu : u ≤ m ∧ v ≤ m := by rw [hm]; split <;> omega
  have hX' : X = v ∧ s = r ∨ X = -v ∧ s = 3373259426 - r := by
    rcases aX with ⟨h, e⟩ | ⟨h, e⟩
    · rw [if_neg (by omega)] at hs; omega
    · rw [if_pos h] at hs; omega
  obtain ⟨l1, l2, l3⟩ := half_T m (by omega) (by omega) k1 hX' k2.1 k2.2 k3
  rcases aY with ⟨h, e⟩ | ⟨h, e⟩
  · rw [if_neg (by omega)] at ha
    rw [ha, ← e]
    omega
  · rw [if_pos h] at ha
    rw [ha, cT_neg]
    have n := sT_neg s
    have e' : Y = -u := by omega
    subst e'
    have q1 := bil (u := X) (B := m) (by omega) (by omega) (d := sT (-s) + sT s) (S := 1) (by omega) (by omega)
    have q2 := bil (u := u) (B := m) (by omega) (by omega) (d := sT (-s) + sT s) (S := 1) (by omega) (by omega)
    have i1 : X * (sT (-s) + sT s) = X * sT (-s) + X * sT s := by grind
    have i2 : u * (sT (-s) + sT s) = u * sT (-s) + u * sT s := by grind
    rw [i1] at q1
    rw [i2] at q2
    have j1 : -u * sT (-s) = -(u * sT (-s)) := by grind
    have j2 : -u * cT s = -(u * cT s) := by grind
    rw [j1, j2]
    omega
theorem cT0 : cT 0 = 17592186044416 := by decide +kernel
/-- Sine or cosine is great. -/
theorem circ_T {w : Int} (w1 : -3373259426 ≤ w) (w2 : w ≤ 3373259426) : 8796093022208 ≤ sT w ∨ sT w ≤ -8796093022208 ∨ 8796093022208 ≤ cT w ∨ cT w ≤ -8796093022208 := by
  have h := diff_c w1 w2 w1 w2
  rw [Int.sub_self, cT0] at h
  refine Decidable.byContradiction fun hc => ?_
  have k1 := bil (u := sT w) (d := sT w) (B := 8796093022208) (S := 8796093022208) (by omega) (by omega) (by omega) (by omega)
  have k2 := bil (u := cT w) (d := cT w) (B := 8796093022208) (S := 8796093022208) (by omega) (by omega) (by omega) (by omega)
  omega
/-- The angle of a point near the circle. -/
theorem angle_T {w y x F : Int} (w1 : -3373259426 ≤ w) (w2 : w ≤ 3373259426) (hF : F ≤ 100000000000) (y1 : -F ≤ 16384 * y - sT w) (y2 : 16384 * y - sT w ≤ F) (x1 : -F ≤ 16384 * x - cT w) (x2 : 16384 * x - cT w ≤ F) :
    (-3373259426 ≤ atanF y x ∧ atanF y x ≤ 3373259426) ∧ ∃ z, (z = atanF y x - w ∨ z = atanF y x - w - 6746518852 ∨ z = atanF y x - w + 6746518852) ∧ -3373259426 ≤ z ∧ z ≤ 3373259426 ∧ -(100 * (2 * F + 79747)) ≤ 868352 * z ∧ 868352 * z ≤ 100 * (2 * F + 79747) := by
  have bs := sT_in w1 w2
  have bc := cT_in w1 w2
  have hs : satv y = y := satv_id (by unfold mx; omega) (by unfold mx; omega)
  have hx : satv x = x := satv_id (by unfold mx; omega) (by unfold mx; omega)
  have hg := circ_T w1 w2
  obtain ⟨m, hm⟩ : ∃ m, m = if absv x < absv y then absv y else absv x := ⟨_, rfl⟩
  obtain ⟨ha, hT, hd⟩ := atan_T hs hx (by omega) hm
  have hmm : 500000000 ≤ m ∧ m ≤ 1090000000 := by
    have ey : (0 ≤ y ∧ absv y = y) ∨ (y < 0 ∧ absv y = -y) := by
      rcases Int.lt_or_le y 0 with h | h
      · exact .inr ⟨h, absN (by omega) (by omega)⟩
      · exact .inl ⟨h, absP (by omega) (by omega)⟩
    have ex : (0 ≤ x ∧ absv x = x) ∨ (x < 0 ∧ absv x = -x) := by
      rcases Int.lt_or_le x 0 with h | h
      · exact .inr ⟨h, absN (by omega) (by omega)⟩
      · exact .inl ⟨h, absP (by omega) (by omega)⟩
    rw [hm]
    split <;> omega
  refine ⟨ha, ?_⟩
  generalize atanF y x = a at *
  have ba := sT_in ha.1 ha.2
  have bb := cT_in ha.1 ha.2
  have q1 := bil (u := sT a) (d := 16384 * x - cT w) (B := 17592186044418) (by omega) (by omega) x1 x2
  have q2 := bil (u := cT a) (d := 16384 * y - sT w) (B := 17592186044418) (by omega) (by omega) y1 y2
  have q3 := bil (u := cT a) (d := 16384 * x - cT w) (B := 17592186044418) (by omega) (by omega) x1 x2
  have q4 := bil (u := sT a) (d := 16384 * y - sT w) (B := 17592186044418) (by omega) (by omega) y1 y2
  have i1 : sT a * (16384 * x - cT w) = 16384 * (x * sT a) - sT a * cT w := by grind
  have i2 : cT a * (16384 * y - sT w) = 16384 * (y * cT a) - cT a * sT w := by grind
  have i3 : cT a * (16384 * x - cT w) = 16384 * (x * cT a) - cT a * cT w := by grind
  have i4 : sT a * (16384 * y - sT w) = 16384 * (y * sT a) - sT a * sT w := by grind
  rw [i1] at q1
  rw [i2] at q2
  rw [i3] at q3
  rw [i4] at q4
  have n := near_ang ha.1 ha.2 w1 w2 (e := 2 * F + 75247) (by omega) (by omega) (by omega)
  obtain ⟨z, hz, z1, z2, z3, z4⟩ := n
  exact ⟨z, hz, z1, z2, by omega, by omega⟩
end Go.Proofs.Ytbpccdagmaiblaa.Tr

/- TrY -/
namespace Go.Proofs.Ytbpccdagmaiblaa.Tr
open Go SX
theorem prod_near {u v p q F : Int} (u1 : -F ≤ u - p) (u2 : u - p ≤ F) (v1 : -F ≤ v - q) (v2 : v - q ≤ F) (_hF : 0 ≤ F) (p1 : -17592186044418 ≤ p) (p2 : p ≤ 17592186044418) (q1 : -17592186044418 ≤ q) (q2 : q ≤ 17592186044418) :
    -((17592186044418 + F) * F + 17592186044418 * F) ≤ u * v - p * q ∧ u * v - p * q ≤ (17592186044418 + F) * F + 17592186044418 * F := by
  have k1 := bil (u := u) (B := 17592186044418 + F) (by omega) (by omega) v1 v2
  have k2 := bil (u := q) q1 q2 u1 u2
  have e : u * v - p * q = u * (v - q) + q * (u - p) := by grind
  rw [e]
  generalize (17592186044418 + F) * F = a at *
  omega
theorem U4_is {c n : Int} (c1 : -1152921504606846976 ≤ c) (c2 : c ≤ 1152921504606846976) (n1 : 1 ≤ n) (n2 : n ≤ 1152921504606846976) : U 4 [c, n, 30] = divv (c * 1073741824) n := by
  show divv (satv c * 2 ^ (30 : Int).toNat) (satv n) = _
  rw [satv_id (a := c) (by unfold mx; omega) (by unfold mx; omega), satv_id (a := n) (by unfold mx; omega) (by unfold mx; omega)]
  rfl
theorem sq_sp {c s : Int} (c1 : -1152921504606846976 ≤ c) (c2 : c ≤ 1152921504606846976) (s1 : -1152921504606846976 ≤ s) (s2 : s ≤ 1152921504606846976) :
    ∃ r, U 32 [c, s] = satv r ∧ Nm.Sp r (c * c + s * s) := by
  refine ⟨((rootN (sqL [c, s]).toNat : Nat) : Int), ?_, ?_⟩
  · show satv ((rootF (sqL [c, s]).toNat : Nat) : Int) = _
    rw [rootF_eq]
  · have h := sp_root (sqL [c, s]).toNat
    have e : sqL [c, s] = c * c + s * s := by
      show (0 + satv s * satv s) + satv c * satv c = _
      rw [satv_id (a := c) (by unfold mx; omega) (by unfold mx; omega), satv_id (a := s) (by unfold mx; omega) (by unfold mx; omega)]
      omega
    have k1 := Nm.sqnn c
    have k2 := Nm.sqnn s
    rw [e] at h ⊢
    rw [show (((c * c + s * s).toNat : Nat) : Int) = c * c + s * s from Int.toNat_of_nonneg (by omega)] at h
    exact h
/-- A length near one. -/
theorem len_near {r S d : Int} (h : Nm.Sp r S) (d0 : 0 ≤ d) (d1 : d ≤ 1000) (h1 : 1152921504606846976 - 2147483648 * d ≤ S) (h2 : S ≤ 1152921504606846976 + 2147483648 * d) : 1073741824 - d - 2 ≤ r ∧ r ≤ 1073741824 + d + 2 := by
  have h0 := h.nn
  have h3 := h.hi
  have e1 : (1073741824 + d + 2) * (1073741824 + d + 2) = 1152921504606846976 + 2147483648 * d + 4294967296 + d * d + 4 * d + 4 := by grind
  have e2 : (1073741824 - d - 2) * (1073741824 - d - 2) = 1152921504606846976 - 2147483648 * d - 4294967296 + d * d + 4 * d + 4 := by grind
  have hd := bil (u := d) (d := d) (B := 1000) (S := 1000) (by omega) (by omega) (by omega) (by omega)
  constructor
  · rcases Int.lt_or_le r (1073741824 - d - 2) with hl | hl
    · have k := Int.mul_le_mul (Int.le_of_lt hl) (Int.le_of_lt hl) h0 (by omega)
      omega
    · exact hl
  · rcases Int.lt_or_le (1073741824 + d + 2) r with hl | hl
    · have k := Int.mul_le_mul (Int.le_of_lt hl) (Int.le_of_lt hl) (by omega) (by omega)
      rcases h.lo with h4 | h4
      · omega
      · have k2 := Int.mul_nonneg (show 0 ≤ r - (1073741824 + d + 2) by omega) (show 0 ≤ r - 1 by omega)
        have e3 : (r - (1073741824 + d + 2)) * (r - 1) = r * r - r - (1073741824 + d + 2) * r + (1073741824 + d + 2) := by grind
        have k3 := Int.mul_nonneg (show 0 ≤ 1073741824 + d + 2 by omega) (show 0 ≤ r - (1073741824 + d + 2) by omega)
        have e4 : (1073741824 + d + 2) * (r - (1073741824 + d + 2)) = (1073741824 + d + 2) * r - (1073741824 + d + 2) * (1073741824 + d + 2) := by grind
        omega
    · exact hl
theorem quot_near {c n : Int} (c1 : -1073743000 ≤ c) (c2 : c ≤ 1073743000) (n1 : 1073741000 ≤ n) (n2 : n ≤ 1073743000) : ∃ p, U 4 [c, n, 30] = p ∧ -n ≤ 2 * (n * p - c * 1073741824) ∧ 2 * (n * p - c * 1073741824) ≤ n := by
  refine ⟨_, rfl, ?_⟩
  rw [U4_is (by omega) (by omega) (by omega) (by omega)]
  have hi := divZ_in (v := c * 1073741824) (d := n) (B := 2147483648) (by omega) (by decide) (by omega) (by omega)
  exact divv_nr (by omega) (by omega)
/-- Divided by a length near one, a number stays near itself. -/
theorem quot_step {c n p d : Int} (c1 : -1073743000 ≤ c) (c2 : c ≤ 1073743000) (d0 : 0 ≤ d) (d1 : d ≤ 800) (n1 : 1073741824 - d ≤ n) (n2 : n ≤ 1073741824 + d) (h1 : -n ≤ 2 * (n * p - c * 1073741824)) (h2 : 2 * (n * p - c * 1073741824) ≤ n) : -(d + 1) ≤ p - c ∧ p - c ≤ d + 1 := by
  have e : n * (p - c) = (n * p - c * 1073741824) + c * (1073741824 - n) := by grind
  have b := bil (u := c) c1 c2 (d := 1073741824 - n) (S := d) (by omega) (by omega)
  have hd := bil (u := d) (d := d) (B := 800) (S := 800) (by omega) (by omega) (by omega) (by omega)
  constructor
  · refine Int.not_lt.1 fun hc => ?_
    have k := Int.mul_le_mul_of_nonneg_left (show p - c ≤ -(d + 2) by omega) (show 0 ≤ n by omega)
    have k2 := Int.mul_le_mul_of_nonneg_right n1 (show 0 ≤ d + 2 by omega)
    have e2 : n * -(d + 2) = -(n * (d + 2)) := by grind
    have e3 : (1073741824 - d) * (d + 2) = 1073741824 * d + 2147483648 - d * d - 2 * d := by grind
    omega
  · refine Int.not_lt.1 fun hc => ?_
    have k := Int.mul_le_mul_of_nonneg_left (show d + 2 ≤ p - c by omega) (show 0 ≤ n by omega)
    have k2 := Int.mul_le_mul_of_nonneg_right n1 (show 0 ≤ d + 2 by omega)
    have e3 : (1073741824 - d) * (d + 2) = 1073741824 * d + 2147483648 - d * d - 2 * d := by grind
    omega
/-- A point near the circle, made of length one: its numbers stay near. -/
theorem unit_T {h C S n p q m r s : Int} (h1 : -3373259426 ≤ h) (h2 : h ≤ 3373259426) (c1 : -70000 ≤ 16384 * C - cT h) (c2 : 16384 * C - cT h ≤ 70000) (s1 : -70000 ≤ 16384 * S - sT h) (s2 : 16384 * S - sT h ≤ 70000)
    (en : n = U 32 [C, S]) (ep : p = U 4 [C, n, 30]) (eq : q = U 4 [S, n, 30]) (em : m = U 32 [p, q]) (er : r = U 4 [p, m, 30]) (es : s = U 4 [q, m, 30]) :
    (1073741800 ≤ n ∧ n ≤ 1073741850) ∧ (1073741820 ≤ m ∧ m ≤ 1073741828) ∧ (-17 ≤ r - C ∧ r - C ≤ 17) ∧ (-17 ≤ s - S ∧ s - S ≤ 17) := by
  have bc := cT_in h1 h2
  have bs := sT_in h1 h2
  have g := diff_c h1 h2 h1 h2
  rw [Int.sub_self, cT0] at g
  have g1 := prod_near c1 c2 c1 c2 (by decide) (by omega) (by omega) (by omega) (by omega)
  have g2 := prod_near s1 s2 s1 s2 (by decide) (by omega) (by omega) (by omega) (by omega)
  have i1 : 16384 * C * (16384 * C) = 268435456 * (C * C) := by grind
  have i2 : 16384 * S * (16384 * S) = 268435456 * (S * S) := by grind
  rw [i1] at g1
  rw [i2] at g2
  obtain ⟨n', hn', spn⟩ := sq_sp (c := C) (s := S) (by omega) (by omega) (by omega) (by omega)
  have ln := len_near spn (d := 9) (by decide) (by decide) (by omega) (by omega)
  rw [hn', satv_id (by unfold mx; omega) (by unfold mx; omega)] at en
  subst en
  obtain ⟨p', hp', np1, np2⟩ := quot_near (c := C) (n := n) (by omega) (by omega) (by omega) (by omega)
  obtain ⟨q', hq', nq1, nq2⟩ := quot_near (c := S) (n := n) (by omega) (by omega) (by omega) (by omega)
  rw [hp'] at ep
  rw [hq'] at eq
  subst ep eq
  have sp := quot_step (c := C) (n := n) (p := p) (d := 11) (by omega) (by omega) (by decide) (by decide) (by omega) (by omega) np1 np2
  have sq := quot_step (c := S) (n := n) (p := q) (d := 11) (by omega) (by omega) (by decide) (by decide) (by omega) (by omega) nq1 nq2
  have us := Nm.unit_sum (n := n) (K := 1073741824) (rs := [p, q]) (qs := [C, S]) (by decide) (by omega) ⟨⟨np1, np2⟩, ⟨nq1, nq2⟩, trivial⟩ (show 2 ≤ 4 by decide) (by
    have e : Nm.sq [C, S] = C * C + S * S := by show (0 + S * S) + C * C = _; omega
    rw [e]; exact spn)
  have e : Nm.sq [p, q] = p * p + q * q := by show (0 + q * q) + p * p = _; omega
  rw [e] at us
  have lo : 1152921504606846976 - 2147483648 * 2 ≤ p * p + q * q := by
    refine Int.not_lt.1 fun hc => ?_
    have k := Int.mul_le_mul_of_nonneg_left (show p * p + q * q - 1073741824 * 1073741824 ≤ -4294967297 by omega) (show 0 ≤ n by omega)
    generalize n * (p * p + q * q - 1073741824 * 1073741824) = a at *
    omega
  have hi : p * p + q * q ≤ 1152921504606846976 + 2147483648 * 2 := by
    refine Int.not_lt.1 fun hc => ?_
    have k := Int.mul_le_mul_of_nonneg_left (show 4294967297 ≤ p * p + q * q - 1073741824 * 1073741824 by omega) (show 0 ≤ n by omega)
    generalize n * (p * p + q * q - 1073741824 * 1073741824) = a at *
    omega
  obtain ⟨m', hm', spm⟩ := sq_sp (c := p) (s := q) (by omega) (by omega) (by omega) (by omega)
  have lm := len_near spm (d := 2) (by decide) (by decide) (by omega) (by omega)
  rw [hm', satv_id (by unfold mx; omega) (by unfold mx; omega)] at em
  subst em
  obtain ⟨r', hr', nr1, nr2⟩ := quot_near (c := p) (n := m) (by omega) (by omega) (by omega) (by omega)
  obtain ⟨s', hs', ns1, ns2⟩ := quot_near (c := q) (n := m) (by omega) (by omega) (by omega) (by omega)
  rw [hr'] at er
  rw [hs'] at es
  subst er es
  have sr := quot_step (c := p) (n := m) (p := r) (d := 4) (by omega) (by omega) (by decide) (by decide) (by omega) (by omega) nr1 nr2
  have ss := quot_step (c := q) (n := m) (p := s) (d := 4) (by omega) (by omega) (by decide) (by decide) (by omega) (by omega) ns1 ns2
  omega
/-- Rounded products of small numbers. -/
theorem U16_is {r s : Int} (r1 : -1073743000 ≤ r) (r2 : r ≤ 1073743000) (s1 : -1073743000 ≤ s) (s2 : s ≤ 1073743000) :
    ∃ y, U 16 [30, r, s, r, s] = y ∧ -536870912 ≤ 1073741824 * y - 2 * (r * s) ∧ 1073741824 * y - 2 * (r * s) ≤ 536870912 := by
  refine ⟨_, rfl, ?_⟩
  show _ ≤ 1073741824 * satv (rnd (((0 : Int) + satv r * satv s) + satv r * satv s) (30 : Int).toNat) - _ ∧ 1073741824 * satv (rnd (((0 : Int) + satv r * satv s) + satv r * satv s) (30 : Int).toNat) - _ ≤ _
  rw [satv_id (a := r) (by unfold mx; omega) (by unfold mx; omega), satv_id (a := s) (by unfold mx; omega) (by unfold mx; omega)]
  have b := bil r1 r2 s1 s2
  have hr := rnd_nr (((0 : Int) + r * s) + r * s) 30
  have e : ((2 ^ 30 : Nat) : Int) = 1073741824 := by decide
  have e' : (30 : Int).toNat = 30 := by decide
  rw [e] at hr
  rw [e', satv_id (by unfold mx; omega) (by unfold mx; omega)]
  omega
theorem U18_is {r s : Int} (r1 : -1073743000 ≤ r) (r2 : r ≤ 1073743000) (s1 : -1073743000 ≤ s) (s2 : s ≤ 1073743000) :
    ∃ y, U 18 [30, 1, r, r, s, s] = y ∧ -536870912 ≤ 1073741824 * y - (r * r - s * s) ∧ 1073741824 * y - (r * r - s * s) ≤ 536870912 := by
  refine ⟨_, rfl, ?_⟩
  show _ ≤ 1073741824 * satv (rnd (((0 : Int) + satv r * satv r) - (0 + satv s * satv s)) (30 : Int).toNat) - _ ∧ 1073741824 * satv (rnd (((0 : Int) + satv r * satv r) - (0 + satv s * satv s)) (30 : Int).toNat) - _ ≤ _
  rw [satv_id (a := r) (by unfold mx; omega) (by unfold mx; omega), satv_id (a := s) (by unfold mx; omega) (by unfold mx; omega)]
  have b := bil r1 r2 r1 r2
  have b' := bil s1 s2 s1 s2
  have hr := rnd_nr (((0 : Int) + r * r) - (0 + s * s)) 30
  have e : ((2 ^ 30 : Nat) : Int) = 1073741824 := by decide
  have e' : (30 : Int).toNat = 30 := by decide
  rw [e] at hr
  rw [e', satv_id (by unfold mx; omega) (by unfold mx; omega)]
  omega
/-- The heading. -/
theorem yaw_T {a h C S n p q m r s y x : Int} (h1 : -1610612737 ≤ h) (h2 : h ≤ 1610612737) (a1 : -1 ≤ 2 * h - a) (a2 : 2 * h - a ≤ 1) (c1 : -70000 ≤ 16384 * C - cT h) (c2 : 16384 * C - cT h ≤ 70000) (s1 : -70000 ≤ 16384 * S - sT h) (s2 : 16384 * S - sT h ≤ 70000)
    (en : n = U 32 [C, S]) (ep : p = U 4 [C, n, 30]) (eq : q = U 4 [S, n, 30]) (em : m = U 32 [p, q]) (er : r = U 4 [p, m, 30]) (es : s = U 4 [q, m, 30]) (ey : y = U 16 [30, r, s, r, s]) (ex : x = U 18 [30, 1, r, r, s, s]) :
    (1073741800 ≤ n ∧ n ≤ 1073741850) ∧ (1073741820 ≤ m ∧ m ≤ 1073741828) ∧ 40000000 < C ∧ (-400 ≤ atanF y x - a ∧ atanF y x - a ≤ 400) ∧ (-1152921504606846976 ≤ y ∧ y ≤ 1152921504606846976) ∧ (-1152921504606846976 ≤ x ∧ x ≤ 1152921504606846976) := by
  obtain ⟨hn, hm, hr, hs⟩ := unit_T (by omega) (by omega) c1 c2 s1 s2 en ep eq em er es
  have bc := cT_in (x := h) (by omega) (by omega)
  have bs := sT_in (x := h) (by omega) (by omega)
  obtain ⟨y', hy', ny1, ny2⟩ := U16_is (r := r) (s := s) (by omega) (by omega) (by omega) (by omega)
  obtain ⟨x', hx', nx1, nx2⟩ := U18_is (r := r) (s := s) (by omega) (by omega) (by omega) (by omega)
  rw [hy'] at ey
  rw [hx'] at ex
  subst ey ex
  have hC : 40000000 < C := by
    have m1 := sQ (x := h) (by omega) (by omega)
    have m2 := sQ (x := -h) (by omega) (by omega)
    rw [cT_neg] at m2
    rcases Int.le_total 0 h with h0 | h0
    · have j := jord (z := -h + 1686629713) (by omega) (by omega)
      omega
    · have j := jord (z := h + 1686629713) (by omega) (by omega)
      omega
  have g1 := prod_near (u := 16384 * r) (p := cT h) (v := 16384 * r) (q := cT h) (F := 348528) (by omega) (by omega) (by omega) (by omega) (by decide) (by omega) (by omega) (by omega) (by omega)
  have g2 := prod_near (u := 16384 * s) (p := sT h) (v := 16384 * s) (q := sT h) (F := 348528) (by omega) (by omega) (by omega) (by omega) (by decide) (by omega) (by omega) (by omega) (by omega)
  have g3 := prod_near (u := 16384 * r) (p := cT h) (v := 16384 * s) (q := sT h) (F := 348528) (by omega) (by omega) (by omega) (by omega) (by decide) (by omega) (by omega) (by omega) (by omega)
  have k1 := sum_c (x := h) (y := h) (by omega) (by omega) (by omega) (by omega)
  have k2 := sum_s (x := h) (y := h) (by omega) (by omega) (by omega) (by omega)
  rw [Int.mul_comm (sT h) (cT h)] at k2
  rw [show h + h = 2 * h by omega] at k1 k2
  have i1 : 16384 * r * (16384 * r) = 268435456 * (r * r) := by grind
  have i2 : 16384 * s * (16384 * s) = 268435456 * (s * s) := by grind
  have i3 : 16384 * r * (16384 * s) = 268435456 * (r * s) := by grind
  rw [i1] at g1
  rw [i2] at g2
  rw [i3] at g3
  obtain ⟨hA, z, hz, z1, z2, z3, z4⟩ := angle_T (w := 2 * h) (y := y) (x := x) (F := 1410000) (by omega) (by omega) (by decide) (by omega) (by omega) (by omega) (by omega)
  have b1 := bil (u := r) (d := s) (B := 1073743000) (S := 1073743000) (by omega) (by omega) (by omega) (by omega)
  have b2 := bil (u := r) (d := r) (B := 1073743000) (S := 1073743000) (by omega) (by omega) (by omega) (by omega)
  have b3 := bil (u := s) (d := s) (B := 1073743000) (S := 1073743000) (by omega) (by omega) (by omega) (by omega)
  refine ⟨hn, hm, hC, ?_, by omega, by omega⟩
  omega
end Go.Proofs.Ytbpccdagmaiblaa.Tr

/- TrZ -/
namespace Go.Proofs.Ytbpccdagmaiblaa.Tr
open Go SX
/-- The sine is at most about its angle. -/
theorem sT_le {z : Int} (z1 : 0 ≤ z) (z2 : z ≤ 1686629713) : 100 * sT z ≤ 2408448 * z ∧ -100 ≤ 100 * sT z := by
  have j := jord z1 z2
  refine ⟨?_, by omega⟩
  have h1 := fl (sN z)
  have hb := ev_bd (x := z) (B := 1686629713) (by omega) (by omega) l2L
  have hc := c1_b
  rw [ile_iff, decide_eq_true_eq] at hc
  have e : sN z = z * (c1L + z * ev l2L z) := by
    unfold sN
    rw [snL_is]; simp only [ev]; grind
  have k := bil (u := z) (B := 1686629713) (by omega) (by omega) hb.1 hb.2
  have hd := c1_D
  have hp := DT_pos
  change DT * sT z ≤ _ ∧ _ < DT * sT z + DT at h1
  generalize sT z = q at *
  generalize z * ev l2L z = v at *
  generalize 1686629713 * evA l2L 1686629713 = m at *
  generalize hcc : c1L = c at *
  rw [e] at h1
  have k1 := Int.mul_nonneg z1 (show 0 ≤ 147 * c - 100 * (c + v) by omega)
  have e2 : z * (147 * c - 100 * (c + v)) = 147 * (z * c) - 100 * (z * (c + v)) := by grind
  have e3 : DT * q = 1073741824 * (c * q) := by rw [← hd]; grind
  have e4 : z * (c + v) * 17592186044416 = 17592186044416 * (z * (c + v)) := by grind
  rw [e3, e4] at h1
  have hc0 : 0 < c := by omega
  refine Int.le_of_mul_le_mul_left (a := c) ?_ hc0
  have e5 : c * (2408448 * z) = 2408448 * (z * c) := by grind
  have e6 : c * (100 * q) = 100 * (c * q) := by grind
  rw [e5, e6]
  omega
/-- Half of a number. -/
theorem half_is {a : Int} (a1 : -8589934592 ≤ a) (a2 : a ≤ 8589934592) : ∃ h, U 2 [a, 536870912, 30] = h ∧ -1 ≤ 2 * h - a ∧ 2 * h - a ≤ 1 := by
  refine ⟨_, rfl, ?_⟩
  show _ ≤ 2 * satv (rnd (satv a * satv 536870912) (30 : Int).toNat) - _ ∧ 2 * satv (rnd (satv a * satv 536870912) (30 : Int).toNat) - _ ≤ _
  rw [satv_id (a := a) (by unfold mx; omega) (by unfold mx; omega), satv_id (a := 536870912) (by unfold mx; omega) (by unfold mx; omega)]
  have hr := rnd_nr (a * 536870912) 30
  have e : ((2 ^ 30 : Nat) : Int) = 1073741824 := by decide
  have e' : (30 : Int).toNat = 30 := by decide
  rw [e] at hr
  rw [e', satv_id (by unfold mx; omega) (by unfold mx; omega)]
  omega
/-- The length of one number. -/
theorem len_one {a : Int} (a1 : -1152921504606846976 ≤ a) (a2 : a ≤ 1152921504606846976) : U 32 [a] = if a < 0 then -a else a := by
  have h := sp_root (sqL [a]).toNat
  have e : sqL [a] = a * a := by
    show (0 + satv a * satv a) = _
    rw [satv_id (a := a) (by unfold mx; omega) (by unfold mx; omega)]
    omega
  have k1 := Nm.sqnn a
  show satv ((rootF (sqL [a]).toNat : Nat) : Int) = _
  rw [rootF_eq]
  rw [e] at h ⊢
  rw [show (((a * a).toNat : Nat) : Int) = a * a from Int.toNat_of_nonneg k1] at h
  generalize ((rootN (a * a).toNat : Nat) : Int) = r at *
  obtain ⟨b, hb, hb0, hbb⟩ : ∃ b, (if a < 0 then -a else a) = b ∧ 0 ≤ b ∧ a * a = b * b := by
    refine ⟨_, rfl, ?_, ?_⟩
    · split <;> omega
    · split
      · grind
      · rfl
  rw [hb]
  have hb2 : b ≤ 1152921504606846976 := by rw [← hb]; split <;> omega
  have h0 := h.nn
  have h1 := h.hi
  have h2 := h.lo
  rw [hbb] at h1 h2
  have lo : b ≤ r := by
    refine Int.not_lt.1 fun hc => ?_
    have k := Int.mul_le_mul (show r + 1 ≤ b by omega) (show r + 1 ≤ b by omega) (by omega) (by omega)
    have e3 : (r + 1) * (r + 1) = r * r + 2 * r + 1 := by grind
    omega
  have hi : r ≤ b := by
    refine Int.not_lt.1 fun hc => ?_
    rcases h2 with h2 | h2
    · omega
    · have k := Int.mul_nonneg (show 0 ≤ r - (b + 1) by omega) (show 0 ≤ r by omega)
      have k2 := Int.mul_nonneg hb0 (show 0 ≤ r - (b + 1) by omega)
      have e3 : (r - (b + 1)) * r = r * r - b * r - r := by grind
      have e4 : b * (r - (b + 1)) = b * r - b * b - b := by grind
      omega
  rw [satv_id (by unfold mx; omega) (by unfold mx; omega)]
  omega
theorem sath_no {a : Int} (a1 : -1152921504606846976 ≤ a) (a2 : a ≤ 1152921504606846976) : sath a = false := by
  unfold sath
  rw [decide_eq_false (by omega), decide_eq_false (by omega)]; rfl
theorem U39_no {y x : Int} (y1 : -1152921504606846976 ≤ y ∧ y ≤ 1152921504606846976) (x1 : -1152921504606846976 ≤ x ∧ x ≤ 1152921504606846976) : U 39 [y, x] = 0 := by
  show b2i (sath y || sath x) = 0
  rw [sath_no y1.1 y1.2, sath_no x1.1 x1.2]; rfl
theorem U5_no {c n : Int} (c1 : -1073741824 ≤ c) (c2 : c ≤ 1073741824) (n1 : 1 ≤ n) (n2 : n ≤ 1152921504606846976) (h : -(1073741824 * n) ≤ c * 8) (h' : c * 8 ≤ 1073741824 * n) : U 5 [c, n, 30] = 0 := by
  show b2i (sath c || sath n || divh (satv c * 2 ^ (30 : Int).toNat) (satv n)) = 0
  rw [sath_no (by omega) (by omega), sath_no (by omega) n2, satv_id (a := c) (by unfold mx; omega) (by unfold mx; omega), satv_id (a := n) (by unfold mx; omega) (by unfold mx; omega)]
  have e' : (2 : Int) ^ (30 : Int).toNat = 1073741824 := by decide
  have hi := divZ_in (v := c * 1073741824) (d := n) (B := 144115188075855872) n1 (by decide) (by omega) (by omega)
  unfold divh
  rw [e', if_neg (by omega), sath_no (by omega) (by omega)]; rfl
/-- A number divided by a length and multiplied by a number of this length. -/
theorem axis_T {a n s q : Int} (a1 : -3221225472 ≤ a) (a2 : a ≤ 3221225472) (hn : n = if a < 0 then -a else a) (n0 : 1 ≤ n) (s1 : -8 ≤ s) (s2 : s ≤ n + 8) (s3 : s ≤ 1073741824) (hq : q = U 4 [s, n, 30]) :
    (-17179869184 < q ∧ q < 17179869184) ∧ ∃ S, U 2 [a, q, 30] = S ∧ (a < 0 → -2 ≤ S + s ∧ S + s ≤ 2) ∧ (0 ≤ a → -2 ≤ S - s ∧ S - s ≤ 2) := by
  have n3 : n ≤ 3221225472 := by rw [hn]; split <;> omega
  rw [U4_is (by omega) (by omega) n0 (by omega)] at hq
  have hi := divZ_in (v := s * 1073741824) (d := n) (B := 12884901888) n0 (by decide) (by omega) (by omega)
  have hd := divv_nr (v := s * 1073741824) (d := n) n0 (by omega)
  rw [← hq] at hd
  have qb : -17179869184 < q ∧ q < 17179869184 := by
    have e : q = divZ (s * 1073741824) n := by
      rw [hq]; unfold divv
      rw [if_neg (by omega), satv_id (by unfold mx; omega) (by unfold mx; omega)]
    omega
  refine ⟨qb, _, rfl, ?_⟩
  have b := bil a1 a2 (d := q) (S := 17179869184) (by omega) (by omega)
  show (a < 0 → _ ≤ satv (rnd (satv a * satv q) (30 : Int).toNat) + s ∧ satv (rnd (satv a * satv q) (30 : Int).toNat) + s ≤ _) ∧ (0 ≤ a → _ ≤ satv (rnd (satv a * satv q) (30 : Int).toNat) - s ∧ satv (rnd (satv a * satv q) (30 : Int).toNat) - s ≤ _)
  rw [satv_id (a := a) (by unfold mx; omega) (by unfold mx; omega), satv_id (a := q) (by unfold mx; omega) (by unfold mx; omega)]
  have hr := rnd_nr (a * q) 30
  have e : ((2 ^ 30 : Nat) : Int) = 1073741824 := by decide
  have e' : (30 : Int).toNat = 30 := by decide
  rw [e] at hr
  rw [e', satv_id (by unfold mx; omega) (by unfold mx; omega)]
  generalize rnd (a * q) 30 = R at *
  rcases Int.lt_or_le a 0 with h | h
  · rw [if_pos h] at hn
    have e2 : n * q = -(a * q) := by rw [hn]; grind
    rw [e2] at hd
    exact ⟨fun _ => by omega, fun h' => by omega⟩
  · rw [if_neg (by omega)] at hn
    have e2 : n * q = a * q := by rw [hn]
    rw [e2] at hd
    exact ⟨fun h' => by omega, fun _ => by omega⟩
end Go.Proofs.Ytbpccdagmaiblaa.Tr
