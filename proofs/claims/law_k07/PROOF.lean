import PyProof.Rows.All
import Wide.All
import OpenK.AllK
import Wide.FinOn
import HandS.ForMost
import HandS.Walk
import HandS.TupAny
import HandS.IsInst
import HandS.Conv
import HandS.Deep
import HandS.Codes
import HandS.Zip
import HandS.More
import HandS.Replace
import HandS.Rev
import HandS.Evl
import HandS.Wide
import PyProof.JoinWalk
import PyProof.CollectStr
import PyProof.ListRange
import HandS.RevTup
import PyProof.StrBlock2
import KE.SortData
import HandS.AnyAll
import HandS.EndTab
import HandS.Nested
import HandS.SetFor
import HandS.Strs
import PySem.Challenge.RW_guessrests_k07_families
set_option Elab.async false
set_option linter.all false
set_option maxRecDepth 100000
/-! Words of our own over the hand layer: symbolic steps (w_ ..), a ledger of owned objects (Ow). -/
namespace G
open PySem PySem.Spec PyProof.Rows L2

/-! ### steps -/
section
variable {K : PySem.W.Frag} {σ : L2.St} {H : Hp} {Q : VK} {D : Ends} {ta tb tc te : TE} {t u : TS} {r r' : R2} {x y v : V}
theorem w_seq (h : t { D with nx := u D } σ H) : tSeq t u D σ H := h
theorem w_next (h : D.nx σ H) : tNext D σ H := h
theorem w_asg {g : TG} (h : te σ H fun x H1 => g x σ H1 D.nx) : tAsg te g D σ H := h
theorem w_gname {i : Nat} {P : L2.St → Hp → Prop} (h : P (σ.set i (some v)) H) : gName i v σ H P := h
theorem w_drop (h : te σ H fun _ H1 => D.nx σ H1) : tDrop te D σ H := h
theorem w_ret (h : te σ H D.rt) : tRet te D σ H := h
theorem w_retN (h : D.rt .non H) : tRetN D σ H := h
theorem w_brk (h : D.bk σ H) : tBreak D σ H := h
theorem w_cont (h : D.ct σ H) : tCont D σ H := h
theorem w_if {c : TT} (h : c σ H fun b H1 => if b = true then t D σ H1 else u D σ H1) : tIfS c t u D σ H := h
theorem w_var {i : Nat} (e : σ[i]? = some (some v)) (h : Q v H) : tVar i σ H Q := ⟨v, e, h⟩
theorem w_c (h : Q v H) : tC v σ H Q := h
theorem w_op (h : ta σ H fun x H1 => tb σ H1 fun y H2 => r x y H2 Q) : tOp r ta tb σ H Q := h
theorem w_un {r : V → Hp → VK → Prop} (h : ta σ H fun x H1 => r x H1 Q) : tUn r ta σ H Q := h
theorem w_I0 {g : Int → Int → V} {i j : Int} (h : Q (g i j) H) : rI0 g (.int i) (.int j) H Q := ⟨i, j, rfl, rfl, h⟩
theorem w_I {C : Int → Int → Prop} {g : Int → Int → V} {i j : Int} (c : C i j) (h : Q (g i j) H) : rI C g (.int i) (.int j) H Q := ⟨i, j, rfl, rfl, c, h⟩
theorem w_U {g : Int → V} {i : Int} (h : Q (g i) H) : rU g (.int i) H Q := ⟨i, rfl, h⟩
theorem w_eqI {i j : Int} (h : Q (.bl (decide (i = j))) H) : rEq (.int i) (.int j) H Q := ⟨rfl, by
  rw [show decide (V.int i = V.int j) = decide (i = j) from by
    by_cases e : i = j
    · subst e; simp
    · rw [decide_eq_false e, decide_eq_false (fun q => e (V.int.inj q))]]
  exact h⟩
theorem w_neI {i j : Int} (h : Q (.bl (!decide (i = j))) H) : rNe (.int i) (.int j) H Q := ⟨rfl, by
  rw [show decide (V.int i = V.int j) = decide (i = j) from by
    by_cases e : i = j
    · subst e; simp
    · rw [decide_eq_false e, decide_eq_false (fun q => e (V.int.inj q))]]
  exact h⟩
theorem w_eqS {i j : Str} (h : Q (.bl (decide (i = j))) H) : rEq (.str i) (.str j) H Q := ⟨rfl, by
  rw [show decide (V.str i = V.str j) = decide (i = j) from by
    by_cases e : i = j
    · subst e; simp
    · rw [decide_eq_false e, decide_eq_false (fun q => e (V.str.inj q))]]
  exact h⟩
theorem w_neS {i j : Str} (h : Q (.bl (!decide (i = j))) H) : rNe (.str i) (.str j) H Q := ⟨rfl, by
  rw [show decide (V.str i = V.str j) = decide (i = j) from by
    by_cases e : i = j
    · subst e; simp
    · rw [decide_eq_false e, decide_eq_false (fun q => e (V.str.inj q))]]
  exact h⟩
theorem w_neB {i j : Bool} (h : Q (.bl (!decide (i = j))) H) : rNe (.bl i) (.bl j) H Q := ⟨rfl, by
  rw [show decide (V.bl i = V.bl j) = decide (i = j) from by
    by_cases e : i = j
    · subst e; simp
    · rw [decide_eq_false e, decide_eq_false (fun q => e (V.bl.inj q))]]
  exact h⟩
theorem w_test {P : Bool → Hp → Prop} (h : te σ H fun x H' => ∃ k, x = .bl k ∧ P k H') : tTest te σ H P := h
theorem w_B {P : Bool → Hp → Prop} (h : te σ H fun x H' => ∃ k, x = .bl k ∧ P k H') : tB te σ H P := h
theorem w_ex {b : Bool} {P : Bool → Hp → Prop} (h : P b H) : ∃ k, V.bl b = .bl k ∧ P k H := ⟨b, rfl, h⟩
theorem w_not {c : TT} {P : Bool → Hp → Prop} (h : c σ H fun c H1 => P (!c) H1) : tNot c σ H P := h
theorem w_and {c d : TT} {P : Bool → Hp → Prop} (h : c σ H fun b H1 => if b = true then d σ H1 P else P false H1) : tAnd c d σ H P := h
theorem w_or {c d : TT} {P : Bool → Hp → Prop} (h : c σ H fun b H1 => if b = true then P true H1 else d σ H1 P) : tOr c d σ H P := h
theorem w_yes {P : Bool → Hp → Prop} (h : P true H) : tYes σ H P := h
theorem w_ifE {c : TT} (h : c σ H fun b H1 => if b = true then ta σ H1 Q else tb σ H1 Q) : tIf c ta tb σ H Q := h
theorem w_nil {P : List V → Hp → Prop} (h : P [] H) : tNil σ H P := h
theorem w_cons {tr : TA} {P : List V → Hp → Prop} (h : ta σ H fun x H1 => tr σ H1 fun xs H2 => P (x :: xs) H2) : tCons ta tr σ H P := h
theorem w_cb {rc : List V → Hp → VK → Prop} {tr : TA} (h : tr σ H fun vs H1 => rc vs H1 Q) : tCB rc tr σ H Q := h
theorem w_call {sp : Sp} {dvs : List V} {E : XK} {tr : TA} (h : tr σ H fun vs H1 => sp (vs ++ dvs) H1 Q E) : tCall sp dvs E tr σ H Q := h
theorem w_tup {tr : TA} (h : tr σ H fun xs H1 => xs.length ≤ sizeLine ∧ ∀ p, H1 p = none → Q (.ref p) (upd H1 p (.tup xs))) : tTup tr σ H Q := h
theorem w_lst {tr : TA} (h : tr σ H fun xs H1 => xs.length ≤ sizeLine ∧ ∀ p, H1 p = none → Q (.ref p) (upd H1 p (.lst xs))) : tLst tr σ H Q := h
theorem w_sl {rs : V → Option Int → Option Int → Hp → VK → Prop} {tl th : TO} (h : te σ H fun x H1 => tl σ H1 fun l H2 => th σ H2 fun u H3 => rs x l u H3 Q) : tSl rs te tl th σ H Q := h
theorem w_noP {P : Option Int → Hp → Prop} (h : P none H) : tNoPart σ H P := h
theorem w_part {P : Option Int → Hp → Prop} (h : te σ H fun x H1 => ∃ i, x = .int i ∧ P (some i) H1) : tPart te σ H P := h
theorem w_exI {i : Int} {P : Option Int → Hp → Prop} (h : P (some i) H) : ∃ j, V.int i = .int j ∧ P (some j) H := ⟨i, rfl, h⟩
theorem w_slS {z : Str} {lo hi : Option Int} (l : z.length ≤ sizeLine) (h : Q (.str (cutS z lo hi)) H) : rSlS (.str z) lo hi H Q := ⟨z, rfl, l, h⟩
theorem w_bm {T : String} {rm : V → List V → Hp → VK → Prop} {tr : TA} (h : ta σ H fun x H1 => tyV K T x H1 ∧ tr σ H1 fun xs H2 => rm x xs H2 Q) : tBM K T rm ta tr σ H Q := h
theorem w_bm0 {T : String} {rm : V → List V → Hp → VK → Prop} (h : ta σ H fun x H1 => tyV K T x H1 ∧ rm x [] H1 Q) : tBM0 K T rm ta σ H Q := h
theorem w_m1 {rm : V → List V → Hp → VK → Prop} (h : ta σ H fun x H1 => (∃ a, x = .str a) ∧ te σ H1 fun y H2 => rm x [y] H2 Q) : tM1 rm ta te σ H Q := h
theorem w_m0 {rm : V → List V → Hp → VK → Prop} (h : ta σ H fun x H1 => (∃ a, x = .str a) ∧ rm x [] H1 Q) : tM0 rm ta σ H Q := h
theorem w_isS {x : Str} {A : Prop} (h : A) : (∃ a, V.str x = .str a) ∧ A := ⟨⟨x, rfl⟩, h⟩
theorem w_notV (h : ta σ H fun x H1 => ∃ c, x = .bl c ∧ Q (.bl (!c)) H1) : tNotV ta σ H Q := h
theorem w_andV (h : ta σ H fun x H1 => ∃ c, x = .bl c ∧ if c = true then tb σ H1 Q else Q (.bl false) H1) : tAndV ta tb σ H Q := h
theorem w_orV (h : ta σ H fun x H1 => ∃ c, x = .bl c ∧ if c = true then Q (.bl true) H1 else tb σ H1 Q) : tOrV ta tb σ H Q := h
theorem w_chain (h : ta σ H fun x H1 => tb σ H1 fun y H2 => r x y H2 fun z H3 => ∃ k, z = .bl k ∧ (if k = true then tc σ H3 fun w' H4 => r' y w' H4 Q else Q (.bl false) H3)) : tChain r r' ta tb tc σ H Q := h
theorem w_lenS {z : Str} (l : z.length ≤ sizeLine) (h : Q (.int (z.length : Int)) H) : ∃ z', [V.str z] = [.str z'] ∧ z'.length ≤ sizeLine ∧ Q (.int (z'.length : Int)) H := ⟨z, rfl, l, h⟩
theorem w_sub {to ti : TE} {ts : TSet} {P : L2.St → Hp → Prop} (h : to σ H fun o H1 => ti σ H1 fun i H2 => ts o i v H2 fun H3 => P σ H3) : gSub to ti ts v σ H P := h
theorem w_aug {i : Nat} {ti : TIp} (e : σ[i]? = some (some x)) (h : te σ H fun y H1 => ti x y H1 fun z H2 => D.nx (σ.set i (some z)) H2) : tAug i te ti D σ H := ⟨x, e, h⟩
theorem w_ip {f : Int → Int → Int} {i j : Int} (h : Q (.int (f i j)) H) : ipI f (.int i) (.int j) H Q := ⟨i, j, rfl, rfl, h⟩
theorem w_int1 {i : Int} (h : Q (.int i) H) : (∃ j, [V.int i] = [.int j] ∧ Q (.int j) H) ∨ ∃ k, [V.int i] = [.bl k] ∧ Q (.int (if k then 1 else 0)) H := .inl ⟨i, rfl, h⟩
theorem w_int1b {b : Bool} (h : Q (.int (if b then 1 else 0)) H) : (∃ j, [V.bl b] = [.int j] ∧ Q (.int j) H) ∨ ∃ k, [V.bl b] = [.bl k] ∧ Q (.int (if k then 1 else 0)) H := .inr ⟨b, rfl, h⟩
theorem w_lenL {p : Addr} {ys : List V} (e : SqL K H p ys) (h : Q (.int (ys.length : Int)) H) : ∃ p' ys', [V.ref p] = [.ref p'] ∧ (SqL K H p' ys' ∨ SqT K H p' ys') ∧ Q (.int (ys'.length : Int)) H := ⟨p, ys, rfl, .inl e, h⟩
theorem w_lenT {p : Addr} {ys : List V} (e : SqT K H p ys) (h : Q (.int (ys.length : Int)) H) : ∃ p' ys', [V.ref p] = [.ref p'] ∧ (SqL K H p' ys' ∨ SqT K H p' ys') ∧ Q (.int (ys'.length : Int)) H := ⟨p, ys, rfl, .inr e, h⟩
theorem w_addS {i j : Str} (l : i.length + j.length ≤ sizeLine) (h : Q (.str (i ++ j)) H) : ∃ i' j', V.str i = .str i' ∧ V.str j = .str j' ∧ i'.length + j'.length ≤ sizeLine ∧ Q (.str (i' ++ j')) H := ⟨i, j, rfl, rfl, l, h⟩
theorem w_append {l : Addr} {xs : List V} (e : H l = some (.lst xs)) (z : xs.length < sizeLine) (h : Q .non (upd H l (.lst (xs ++ [y])))) : rAppend (.ref l) [y] H Q := ⟨l, xs, y, rfl, rfl, e, z, h⟩
theorem w_tyL {p : Addr} {xs : List V} {A : Prop} (e : SqL K H p xs) (h : A) : tyV K "list" (.ref p) H ∧ A := ⟨.inl ⟨rfl, _, e⟩, h⟩
theorem w_ixL {p : Addr} {xs : List V} {i : Int} (e : SqL K H p xs) (a : atI xs i = some v) (h : Q v H) : rIxL K (.ref p) (.int i) H Q := ⟨p, xs, i, v, rfl, rfl, e, a, h⟩
theorem w_ixT {p : Addr} {xs : List V} {i : Int} (e : SqT K H p xs) (a : atI xs i = some v) (h : Q v H) : rIxT K (.ref p) (.int i) H Q := ⟨p, xs, i, v, rfl, rfl, e, a, h⟩
theorem or2 {b : Bool} {X Y : Prop} (hT : X) (hF : X → b = false → Y) : if b = true then X else Y := by
  cases b with
  | true => rw [if_pos rfl]; exact hT
  | false => rw [if_neg (by decide)]; exact hF hT rfl
theorem iteNT {A B : Prop} (h : B) : if (!true) = true then A else B := h
theorem iteNF {A B : Prop} (h : A) : if (!false) = true then A else B := h
theorem w_ixS {z : Str} {i : Int} {c : Nat} (l : z.length ≤ sizeLine) (a : atI z.cps.toList i = some c) (h : Q (.str ⟨#[c]⟩) H) : rIxS (.str z) (.int i) H Q := ⟨z, i, c, rfl, rfl, l, a, h⟩
end

theorem w_gtup2 {K : PySem.W.Frag} {σ : L2.St} {H : Hp} {i j : Nat} {a : Addr} {x y : V} {P : L2.St → Hp → Prop} (h : SqT K H a [x, y]) (k : P ((σ.set i (some x)).set j (some y)) H) : gTup K 2 (gCons (gName i) (gCons (gName j) gNil)) (.ref a) σ H P :=
  ⟨a, [x, y], rfl, h, rfl, x, [y], rfl, y, [], rfl, rfl, k⟩
/-! ### loops: the walked thing first, then the turns -/
abbrev at_ (J : It) : TI := fun _ H R => R J H
section
variable {K : PySem.W.Frag} {σ : L2.St} {H : Hp} {Q : VK} {D : Ends} {ta : TA} {tb : TS} {te : TE} {tt : TT} {g : TG} {wi : TI} {vs : List Nat} {R : It → Hp → Prop}
theorem w_forR1 (h : ta σ H fun us H1 => ∃ j : Int, us = [.int j] ∧ -(2 ^ 62) ≤ j ∧ j < 2 ^ 62 ∧ tFor (at_ (Itr 0 j.toNat)) g tb D σ H1) : tFor (iRng1 ta) g tb D σ H := h
theorem w_lcR1 (h : ta σ H fun us H1 => ∃ j : Int, us = [.int j] ∧ -(2 ^ 62) ≤ j ∧ j < 2 ^ 62 ∧ tLc (at_ (Itr 0 j.toNat)) g tt te vs σ H1 Q) : tLc (iRng1 ta) g tt te vs σ H Q := h
theorem w_lc2R1 {wi1 : TI} {g1 : TG} {tt1 : TT} {vs1 : List Nat} (h : ta σ H fun us H1 => ∃ j : Int, us = [.int j] ∧ -(2 ^ 62) ≤ j ∧ j < 2 ^ 62 ∧ tLc2 (at_ (Itr 0 j.toNat)) g tt wi1 g1 tt1 te vs vs1 σ H1 Q) : tLc2 (iRng1 ta) g tt wi1 g1 tt1 te vs vs1 σ H Q := h
theorem w_forR2 (h : ta σ H fun us H1 => ∃ i j : Int, us = [.int i, .int j] ∧ (-(2 ^ 62) ≤ i ∧ i < 2 ^ 62 ∧ -(2 ^ 62) ≤ j ∧ j < 2 ^ 62) ∧ tFor (at_ (Itr i (j - i).toNat)) g tb D σ H1) : tFor (iRng2 ta) g tb D σ H := h
theorem w_lcR2 (h : ta σ H fun us H1 => ∃ i j : Int, us = [.int i, .int j] ∧ (-(2 ^ 62) ≤ i ∧ i < 2 ^ 62 ∧ -(2 ^ 62) ≤ j ∧ j < 2 ^ 62) ∧ tLc (at_ (Itr i (j - i).toNat)) g tt te vs σ H1 Q) : tLc (iRng2 ta) g tt te vs σ H Q := h
theorem w_lc2R2 {wi1 : TI} {g1 : TG} {tt1 : TT} {vs1 : List Nat} (h : ta σ H fun us H1 => ∃ i j : Int, us = [.int i, .int j] ∧ (-(2 ^ 62) ≤ i ∧ i < 2 ^ 62 ∧ -(2 ^ 62) ≤ j ∧ j < 2 ^ 62) ∧ tLc2 (at_ (Itr i (j - i).toNat)) g tt wi1 g1 tt1 te vs vs1 σ H1 Q) : tLc2 (iRng2 ta) g tt wi1 g1 tt1 te vs vs1 σ H Q := h
theorem w_forL {tl : TE} (h : tl σ H fun x H1 => ∃ a, x = .ref a ∧ (∃ xs, SqL K H1 a xs) ∧ tFor (at_ (Itl K a)) g tb D σ H1) : tFor (iList K tl) g tb D σ H := h
theorem w_lcL {tl : TE} (h : tl σ H fun x H1 => ∃ a, x = .ref a ∧ (∃ xs, SqL K H1 a xs) ∧ tLc (at_ (Itl K a)) g tt te vs σ H1 Q) : tLc (iList K tl) g tt te vs σ H Q := h
theorem w_lc2L {tl : TE} {wi1 : TI} {g1 : TG} {tt1 : TT} {vs1 : List Nat} (h : tl σ H fun x H1 => ∃ a, x = .ref a ∧ (∃ xs, SqL K H1 a xs) ∧ tLc2 (at_ (Itl K a)) g tt wi1 g1 tt1 te vs vs1 σ H1 Q) : tLc2 (iList K tl) g tt wi1 g1 tt1 te vs vs1 σ H Q := h
theorem w_forT {tl : TE} (h : tl σ H fun x H1 => ∃ a, x = .ref a ∧ (∃ xs, SqT K H1 a xs) ∧ tFor (at_ (Itt K a)) g tb D σ H1) : tFor (iTup K tl) g tb D σ H := h
theorem w_lcT {tl : TE} (h : tl σ H fun x H1 => ∃ a, x = .ref a ∧ (∃ xs, SqT K H1 a xs) ∧ tLc (at_ (Itt K a)) g tt te vs σ H1 Q) : tLc (iTup K tl) g tt te vs σ H Q := h
theorem w_lc2T {tl : TE} {wi1 : TI} {g1 : TG} {tt1 : TT} {vs1 : List Nat} (h : tl σ H fun x H1 => ∃ a, x = .ref a ∧ (∃ xs, SqT K H1 a xs) ∧ tLc2 (at_ (Itt K a)) g tt wi1 g1 tt1 te vs vs1 σ H1 Q) : tLc2 (iTup K tl) g tt wi1 g1 tt1 te vs vs1 σ H Q := h
theorem w_forS {tl : TE} (h : tl σ H fun v H1 => ∃ x, v = .str x ∧ tFor (at_ (Its x)) g tb D σ H1) : tFor (iStr tl) g tb D σ H := h
theorem w_lcS {tl : TE} (h : tl σ H fun v H1 => ∃ x, v = .str x ∧ tLc (at_ (Its x)) g tt te vs σ H1 Q) : tLc (iStr tl) g tt te vs σ H Q := h
theorem w_lc2S {tl : TE} {wi1 : TI} {g1 : TG} {tt1 : TT} {vs1 : List Nat} (h : tl σ H fun v H1 => ∃ x, v = .str x ∧ tLc2 (at_ (Its x)) g tt wi1 g1 tt1 te vs vs1 σ H1 Q) : tLc2 (iStr tl) g tt wi1 g1 tt1 te vs vs1 σ H Q := h
theorem for_R {lo : Int} {n : Nat} (Pv : Nat → L2.St → Hp → Prop) (h0 : Pv 0 σ H)
    (hs : ∀ i σ' H', i < n → Pv i σ' H' → g (.int (lo + (i : Int))) σ' H' fun σ2 H2 => tb { nx := Pv (i + 1), rt := D.rt, ct := Pv (i + 1), bk := D.nx } σ2 H2)
    (hd : ∀ σ' H', Pv n σ' H' → D.nx σ' H') : tFor (at_ (Itr lo n)) g tb D σ H := for_range Pv h0 hs hd
theorem for_L {a : Addr} {xs : List V} (Pv : Nat → L2.St → Hp → Prop) (h0 : Pv 0 σ H) (hl : ∀ i σ' H', i ≤ xs.length → Pv i σ' H' → SqL K H' a xs)
    (hs : ∀ i x σ' H', xs[i]? = some x → Pv i σ' H' → g x σ' H' fun σ2 H2 => tb { nx := Pv (i + 1), rt := D.rt, ct := Pv (i + 1), bk := D.nx } σ2 H2)
    (hd : ∀ σ' H', Pv xs.length σ' H' → D.nx σ' H') : tFor (at_ (Itl K a)) g tb D σ H := for_list Pv h0 hl hs hd
theorem for_T {a : Addr} {xs : List V} (Pv : Nat → L2.St → Hp → Prop) (h0 : Pv 0 σ H) (hl : ∀ i σ' H', i ≤ xs.length → Pv i σ' H' → SqT K H' a xs)
    (hs : ∀ i x σ' H', xs[i]? = some x → Pv i σ' H' → g x σ' H' fun σ2 H2 => tb { nx := Pv (i + 1), rt := D.rt, ct := Pv (i + 1), bk := D.nx } σ2 H2)
    (hd : ∀ σ' H', Pv xs.length σ' H' → D.nx σ' H') : tFor (at_ (Itt K a)) g tb D σ H := for_tup Pv h0 hl hs hd
theorem for_S {z : Str} (Pv : Nat → L2.St → Hp → Prop) (h0 : Pv 0 σ H)
    (hs : ∀ i c σ' H', z.cps.toList[i]? = some c → Pv i σ' H' → g (.str ⟨#[c]⟩) σ' H' fun σ2 H2 => tb { nx := Pv (i + 1), rt := D.rt, ct := Pv (i + 1), bk := D.nx } σ2 H2)
    (hd : ∀ σ' H', Pv z.cps.size σ' H' → D.nx σ' H') : tFor (at_ (Its z)) g tb D σ H :=
  for_it walk_str Pv h0 (fun _ _ _ _ _ => trivial) (fun i x σ' H' H'' _ p y => by
    obtain ⟨rfl, c, hc, rfl⟩ := y
    exact hs i c σ' _ (by rw [Array.getElem?_toList]; exact hc) p) hd
theorem lc_R {lo : Int} {n : Nat} (W : Addr → Nat → Hp → Prop) (h0 : ∀ Dl, H Dl = none → W Dl 0 (upd H Dl (.lst [])))
    (hs : ∀ Dl i H', i < n → W Dl i H' → g (.int (lo + (i : Int))) (wipe σ vs) H' fun σ2 H2 => wipe σ2 vs = wipe σ vs ∧ tt σ2 H2 fun b H3 =>
      if b = true then te σ2 H3 fun y H4 => ∃ acc, H4 Dl = some (.lst acc) ∧ acc.length < sizeLine ∧ W Dl (i + 1) (upd H4 Dl (.lst (acc ++ [y]))) else W Dl (i + 1) H3)
    (hd : ∀ Dl H', W Dl n H' → Q (.ref Dl) H') : tLc (at_ (Itr lo n)) g tt te vs σ H Q := fun Dl hD => lc_range (W Dl) (h0 Dl hD) (hs Dl) (hd Dl)
theorem lc_L {a : Addr} {xs : List V} (W : Addr → Nat → Hp → Prop) (h0 : ∀ Dl, H Dl = none → W Dl 0 (upd H Dl (.lst []))) (hl : ∀ Dl i H', i ≤ xs.length → W Dl i H' → SqL K H' a xs)
    (hs : ∀ Dl i x H', xs[i]? = some x → W Dl i H' → g x (wipe σ vs) H' fun σ2 H2 => wipe σ2 vs = wipe σ vs ∧ tt σ2 H2 fun b H3 =>
      if b = true then te σ2 H3 fun y H4 => ∃ acc, H4 Dl = some (.lst acc) ∧ acc.length < sizeLine ∧ W Dl (i + 1) (upd H4 Dl (.lst (acc ++ [y]))) else W Dl (i + 1) H3)
    (hd : ∀ Dl H', W Dl xs.length H' → Q (.ref Dl) H') : tLc (at_ (Itl K a)) g tt te vs σ H Q := fun Dl hD => lc_list (W Dl) (h0 Dl hD) (hl Dl) (hs Dl) (hd Dl)
theorem lc_T {a : Addr} {xs : List V} (W : Addr → Nat → Hp → Prop) (h0 : ∀ Dl, H Dl = none → W Dl 0 (upd H Dl (.lst []))) (hl : ∀ Dl i H', i ≤ xs.length → W Dl i H' → SqT K H' a xs)
    (hs : ∀ Dl i x H', xs[i]? = some x → W Dl i H' → g x (wipe σ vs) H' fun σ2 H2 => wipe σ2 vs = wipe σ vs ∧ tt σ2 H2 fun b H3 =>
      if b = true then te σ2 H3 fun y H4 => ∃ acc, H4 Dl = some (.lst acc) ∧ acc.length < sizeLine ∧ W Dl (i + 1) (upd H4 Dl (.lst (acc ++ [y]))) else W Dl (i + 1) H3)
    (hd : ∀ Dl H', W Dl xs.length H' → Q (.ref Dl) H') : tLc (at_ (Itt K a)) g tt te vs σ H Q := fun Dl hD => lc_tup (W Dl) (h0 Dl hD) (hl Dl) (hs Dl) (hd Dl)
theorem lc_S {z : Str} (W : Addr → Nat → Hp → Prop) (h0 : ∀ Dl, H Dl = none → W Dl 0 (upd H Dl (.lst [])))
    (hs : ∀ Dl i c H', z.cps.toList[i]? = some c → W Dl i H' → g (.str ⟨#[c]⟩) (wipe σ vs) H' fun σ2 H2 => wipe σ2 vs = wipe σ vs ∧ tt σ2 H2 fun b H3 =>
      if b = true then te σ2 H3 fun y H4 => ∃ acc, H4 Dl = some (.lst acc) ∧ acc.length < sizeLine ∧ W Dl (i + 1) (upd H4 Dl (.lst (acc ++ [y]))) else W Dl (i + 1) H3)
    (hd : ∀ Dl H', W Dl z.cps.size H' → Q (.ref Dl) H') : tLc (at_ (Its z)) g tt te vs σ H Q := fun Dl hD =>
  lc_it walk_str (W Dl) (h0 Dl hD) (fun _ _ _ _ => trivial) (fun i x H' H'' _ p y => by
    obtain ⟨rfl, c, hc, rfl⟩ := y
    exact hs Dl i c _ (by rw [Array.getElem?_toList]; exact hc) p) (hd Dl)
/-- a word between a statement and the rest -/
theorem w_cut {t u : TS} (M : L2.St → Hp → Prop) (h : t { nx := M, rt := D.rt, bk := D.bk, ct := D.ct } σ H) (k : ∀ σ' H', M σ' H' → u D σ' H') : Evl.tCut t u D σ H := ⟨M, h, k⟩
end

/-! ### texts as lists of codes -/
abbrev S (l : List Nat) : Str := SX.S l
theorem S_len (l : List Nat) : (S l).length = l.length := SX.S_len l
theorem S_inj {a b : List Nat} (h : S a = S b) : a = b := SX.S_inj h
theorem S_eq {a b : List Nat} : decide (S a = S b) = decide (a = b) := by
  by_cases e : a = b
  · subst e; simp
  · rw [decide_eq_false e, decide_eq_false (fun q => e (S_inj q))]
theorem S_cat (a b : List Nat) : S a ++ S b = S (a ++ b) := SX.S_cat a b
theorem S_tl (a : List Nat) : (S a).cps.toList = a := rfl

/-! ### the ledger of a def: what it owns (made here, or handed over to be changed) -/
structure Ow (H0 : Hp) (M : List Addr) (H : Hp) (L : List (Addr × HO)) : Prop where
  has : ∀ p ∈ L, H p.1 = some p.2
  nd : (L.map (·.1)).Nodup
  fr : ∀ b o, H0 b = some o → b ∉ M → H b = some o
  ow : ∀ p ∈ L, p.1 ∈ M ∨ H0 p.1 = none
  mL : ∀ a ∈ M, a ∈ L.map (·.1)
  ml : ∀ a ∈ M, ∃ ys, H0 a = some (.lst ys)
section
variable {K : PySem.W.Frag} {H0 H H' : Hp} {M : List Addr} {L : List (Addr × HO)} {a p b : Addr} {o o' u : HO} {xs ys : List V}
theorem Ow.start0 : Ow H [] H [] := ⟨by simp, by simp, fun _ _ h _ => h, by simp, by simp, by simp⟩
theorem Ow.start1 (h : H a = some (.lst xs)) : Ow H [a] H [(a, .lst xs)] := by
  refine ⟨fun p hp => ?_, by simp, fun _ _ h _ => h, fun p hp => ?_, fun b hb => ?_, fun b hb => ?_⟩
  · rw [List.mem_singleton.mp hp]; exact h
  · rw [List.mem_singleton.mp hp]; simp
  · rw [List.mem_singleton.mp hb]; simp
  · rw [List.mem_singleton.mp hb]; exact ⟨xs, h⟩
theorem Ow.get (O : Ow H0 M H L) (i : Nat) (e : L[i]? = some (a, o)) : H a = some o := O.has (a, o) (List.mem_of_getElem? e)
theorem Ow.lst (O : Ow H0 M H L) (i : Nat) (e : L[i]? = some (a, .lst xs)) : SqL K H a xs := .inl (.inl (O.get i e))
theorem Ow.tup (O : Ow H0 M H L) (i : Nat) (e : L[i]? = some (a, .tup xs)) : SqT K H a xs := .inl (.inl (O.get i e))
theorem Ow.free (O : Ow H0 M H L) (n : H p = none) : p ∉ L.map (·.1) ∧ H0 p = none := by
  have h1 : p ∉ L.map (·.1) := fun h => by
    obtain ⟨q, hq, e⟩ := List.mem_map.mp h
    have := O.has q hq
    rw [e, n] at this
    cases this
  refine ⟨h1, ?_⟩
  cases e : H0 p with
  | none => rfl
  | some u =>
    have hM : p ∉ M := fun h => h1 (O.mL p h)
    rw [O.fr p u e hM] at n
    cases n
theorem Ow.new (O : Ow H0 M H L) (n : H p = none) : Ow H0 M (upd H p o) (L ++ [(p, o)]) := by
  obtain ⟨h1, h2⟩ := O.free n
  refine ⟨fun q hq => ?_, ?_, fun c v hc hM => ?_, fun q hq => ?_, fun c hc => ?_, O.ml⟩
  · rcases List.mem_append.mp hq with h | h
    · rw [upd_ne]
      · exact O.has q h
      · intro e; exact h1 (e ▸ List.mem_map.mpr ⟨q, h, rfl⟩)
    · rw [List.mem_singleton.mp h]; exact upd_same
  · rw [List.map_append, List.nodup_append]
    refine ⟨O.nd, by simp, fun c hc d hd e => ?_⟩
    subst e
    have : c = p := by simpa using hd
    exact h1 (this ▸ hc)
  · rw [upd_ne]
    · exact O.fr c v hc hM
    · intro e; subst e; rw [h2] at hc; cases hc
  · rcases List.mem_append.mp hq with h | h
    · exact O.ow q h
    · rw [List.mem_singleton.mp h]; exact .inr h2
  · rw [List.map_append]; exact List.mem_append_left _ (O.mL c hc)
/-- an owned object changes: in its own place -/
theorem Ow.put (O : Ow H0 M H L) (i : Nat) (e : L[i]? = some (a, o)) (k : ∀ b v, H b = some v → b ≠ a → H' b = some v) (h : H' a = some o') : Ow H0 M H' (L.set i (a, o')) := by
  have hi : i < L.length := (List.getElem?_eq_some_iff.mp e).1
  have ha : L[i] = (a, o) := (List.getElem?_eq_some_iff.mp e).2
  have em : (L.set i (a, o')).map (·.1) = L.map (·.1) := by
    apply List.ext_getElem?
    intro j
    rw [List.getElem?_map, List.getElem?_map, List.getElem?_set]
    by_cases hj : i = j
    · subst hj
      rw [if_pos rfl, if_pos hi, e]; rfl
    · rw [if_neg hj]
  refine ⟨fun q hq => ?_, by rw [em]; exact O.nd, fun c v hc hM => ?_, fun q hq => ?_, fun c hc => by rw [em]; exact O.mL c hc, O.ml⟩
  · obtain ⟨j, hj, e2⟩ := List.getElem_of_mem hq
    rw [List.getElem_set] at e2
    by_cases hij : i = j
    · rw [if_pos hij] at e2; rw [← e2]; exact h
    · rw [if_neg hij] at e2
      have hj' : j < L.length := by rw [List.length_set] at hj; exact hj
      have hm : q ∈ L := e2 ▸ List.getElem_mem hj'
      refine k q.1 q.2 (O.has q hm) fun z => ?_
      have n := O.nd
      have h1 : (L.map (·.1))[j]? = some a := by rw [List.getElem?_map, List.getElem?_eq_getElem hj', e2]; exact congrArg some z
      have h2 : (L.map (·.1))[i]? = some a := by rw [List.getElem?_map, e]; rfl
      exact hij (nd_ix n h2 h1)
  · have h1 := O.fr c v hc hM
    by_cases hca : c = a
    · subst hca
      have hm : (c, o) ∈ L := List.mem_of_getElem? e
      rcases O.ow _ hm with q | q
      · exact absurd q hM
      · rw [q] at hc; cases hc
    · exact k c v h1 hca
  · obtain ⟨j, hj, e2⟩ := List.getElem_of_mem hq
    rw [List.getElem_set] at e2
    by_cases hij : i = j
    · rw [if_pos hij] at e2; rw [← e2]; exact O.ow (a, o) (List.mem_of_getElem? e)
    · rw [if_neg hij] at e2
      have hj' : j < L.length := by rw [List.length_set] at hj; exact hj
      exact O.ow q (e2 ▸ List.getElem_mem hj')
theorem Ow.set (O : Ow H0 M H L) (i : Nat) (e : L[i]? = some (a, o)) : Ow H0 M (upd H a o') (L.set i (a, o')) :=
  O.put i e (fun b v h n => by rw [upd_ne n]; exact h) upd_same
/-- nothing that is known changes -/
theorem Ow.same (O : Ow H0 M H L) (k : ∀ b v, H b = some v → H' b = some v) : Ow H0 M H' L :=
  ⟨fun q hq => k _ _ (O.has q hq), O.nd, fun b v h n => k _ _ (O.fr b v h n), O.ow, O.mL, O.ml⟩
/-- a new object that another one has made -/
theorem Ow.add (O : Ow H0 M H L) (n : H p = none) (k : ∀ b v, H b = some v → H' b = some v) (h : H' p = some o) : Ow H0 M H' (L ++ [(p, o)]) := by
  have O' := (O.new (o := o) n)
  obtain ⟨h1, h2⟩ := O.free n
  refine ⟨fun q hq => ?_, O'.nd, fun b v hb hM => k _ _ (O.fr b v hb hM), O'.ow, O'.mL, O.ml⟩
  rcases List.mem_append.mp hq with z | z
  · exact k _ _ (O.has q z)
  · rw [List.mem_singleton.mp z]; exact h
/-- the later ones are forgotten -/
theorem Ow.take (O : Ow H0 M H L) (n : Nat) (hM : ∀ a ∈ M, a ∈ (L.take n).map (·.1)) : Ow H0 M H (L.take n) :=
  ⟨fun q hq => O.has q (List.mem_of_mem_take hq), by rw [List.map_take]; exact O.nd.sublist (List.take_sublist _ _), O.fr, fun q hq => O.ow q (List.mem_of_mem_take hq), hM, O.ml⟩
theorem Ow.sub {L' : List (Addr × HO)} (O : Ow H0 M H L) (h : L'.Sublist L) (hM : ∀ a ∈ M, a ∈ L'.map (·.1)) : Ow H0 M H L' :=
  ⟨fun q hq => O.has q (h.mem hq), O.nd.sublist (h.map _), O.fr, fun q hq => O.ow q (h.mem hq), hM, O.ml⟩
theorem Ow.swap {p q : Addr × HO} (O : Ow H0 M H [p, q]) : Ow H0 M H [q, p] := by
  refine ⟨fun r hr => O.has r ?_, ?_, O.fr, fun r hr => O.ow r ?_, fun c hc => ?_, O.ml⟩
  · simp at hr ⊢; exact hr.symm
  · have := O.nd; simp at this ⊢; exact fun e => this e.symm
  · simp at hr ⊢; exact hr.symm
  · have := O.mL c hc; simp at this ⊢; exact this.symm
theorem Ow.notM (O : Ow H0 M H L) (h : H0 b = some u) (n : ∀ ys, u ≠ .lst ys) : b ∉ M := fun hb => by
  obtain ⟨ys, e⟩ := O.ml b hb
  rw [h] at e
  exact n ys (Option.some.inj e)
theorem Ow.seqT (O : Ow H0 M H L) (h : SqT K H0 b xs) : SqT K H b xs := by
  rcases h with (h | ⟨f, h⟩) | h
  · exact .inl (.inl (O.fr _ _ h (O.notM h (by intro ys e; cases e))))
  · exact .inl (.inr ⟨f, O.fr _ _ h (O.notM h (by intro ys e; cases e))⟩)
  · exact .inr h
theorem Ow.seqL (O : Ow H0 M H L) (h : SqL K H0 b xs) (n : b ∉ M) : SqL K H b xs := by
  rcases h with (h | ⟨f, h⟩) | h
  · exact .inl (.inl (O.fr _ _ h n))
  · exact .inl (.inr ⟨f, O.fr _ _ h n⟩)
  · exact .inr h
end
/-! ### small things -/
theorem map_get {ns : List Int} {i : Nat} {x : V} (h : (ns.map V.int)[i]? = some x) : ∃ z, ns[i]? = some z ∧ x = .int z := by
  rw [List.getElem?_map] at h
  cases e : ns[i]? with
  | none => rw [e] at h; cases h
  | some z => rw [e] at h; exact ⟨z, rfl, (Option.some.inj h).symm⟩
theorem take_snoc {α : Type} {l : List α} {i : Nat} {x : α} (h : l[i]? = some x) : l.take (i + 1) = l.take i ++ [x] := by
  rw [List.take_add_one, h]; rfl
def Dr (ds : List Int) : Prop := (∀ d ∈ ds, 0 ≤ d) ∧ ds.length ≤ 1000
theorem Dr.drop {ds : List Int} (h : Dr ds) : Dr ds.dropLast := ⟨fun d hd => h.1 d ((List.dropLast_sublist ds).mem hd), by have := h.2; rw [List.length_dropLast]; omega⟩
theorem upd_id {H : Hp} {a : Addr} {o : HO} (h : H a = some o) : upd H a o = H := by
  funext b; unfold upd; split
  · rename_i e; rw [e, h]
  · rfl
theorem szl {n : Nat} (h : n ≤ 100000) : n ≤ sizeLine := Nat.le_trans h (by decide)
theorem szlt {n : Nat} (h : n ≤ 100000) : n < sizeLine := Nat.lt_of_le_of_lt h (by decide)
end G
set_option maxHeartbeats 4000000
/-! Constructs that the layer lacks: sep.join(reversed(list)), list(text). -/
namespace G
open PySem PySem.Spec PyProof.Rows L2
section
variable {prog : Program} {w : World} {A : Around} {E : Value → Shared → Prop} {s : Shared}
/-- sep.join of a list's reverse iterator -/
theorem join_rev {x : Str} {t : Tok} {it l : Addr} {items : Array Value} {Q : Value → Shared → Prop} (hh : A.handled = none)
    (hit : s.heap.IsRevIter it l ((items.size : Int) - 1)) (hl : s.heap.IsList l items) (hne : l ≠ it) (hn : items.size ≤ sizeLine)
    (hstr : ∀ (i : Nat) (v : Value), items[i]? = some v → ∃ y u, v = Value.str y u)
    (hq : ∀ (h' : Heap) (l' : List (Str × Tok)), (∀ b o, b ≠ it → s.heap.get? b = some o → h'.get? b = some o) → ItemsOf (fun i v => items[items.size - 1 - i]? = some v) (strValues l').toArray items.size →
      JoinOk x (l'.map (·.1)) = true ∧ ∀ t' k, Q (.str (Txt.join x (l'.map (·.1))) t') { s with heap := h', toks := k }) :
    wpAny (model prog w) A (call (.builtin "str.join") [.str x t, .ref it]) Q E s := by
  refine wpAny_call (codeAny_call_builtin PySem.F.slot_str_join.plain PySem.F.entry_str_join (PySem.F.slot_str_join.check _ _ _ _ _ _ _ _ (typeIs_str _ _ _) (PySem.F.args_str_join_2 _ _) ?_))
  rw [join_tree_other]; refine wpAny_bind (wpAny_typeOf hit.typeIs ?_)
  show wpAny _ A.in1 ((pyIter (.ref it)).tryCatch _ >>= fun z => collect z >>= fun zs => joinTail x zs) _ _ s
  refine wpAny_bind (wpAny_tryCatch (wpAny_pyIter_revIter hit ?_)); refine wpAny_bind (RT.collect_rev (A := A.in1) hh hit hl hne hn fun h' tk acc hk hacc => ?_)
  obtain ⟨l', hl'⟩ := exists_strValues acc.toList fun v hv => by
    obtain ⟨j, hj, rfl⟩ := Array.mem_iff_getElem.mp (Array.mem_toList_iff.mp hv)
    exact hstr _ _ (hacc.2 j _ (Array.getElem?_eq_getElem hj))
  rw [← hl']
  have hacc' : ItemsOf (fun i v => items[items.size - 1 - i]? = some v) (strValues l').toArray items.size := by
    rw [hl']; simpa using hacc
  obtain ⟨hok, hpost⟩ := hq h' l' hk hacc'; unfold JoinOk at hok; rw [Bool.not_eq_true'] at hok
  have g : Gives (joinTail x (strValues l')) (joinMade x l') := by
    have g0 := gives_joinTail x l' hok
    cases l' with
    | nil => exact g0
    | cons p r =>
      cases r with
      | nil => exact g0
      | cons p2 r2 => exact g0
  exact g prog w A (wants Q E) { s with heap := h', toks := tk } (post_join l' ⟨joinFit_length hok, fun t' k => hpost t' k⟩)

/-- list(text): what list.__init__ does with a text -/
theorem list_of_text {Q : Value → Shared → Prop} (hh : A.handled = none) (x : Str) (t : Tok) (hn : x.cps.size ≤ sizeLine)
    (hQ : ∀ s' acc c, (∀ b o, s.heap.get? b = some o → s'.heap.get? b = some o) → s'.gens = s.gens → s'.drawn = s.drawn → s'.os = s.os →
      s'.heap.get? s.heap.objs.size = some { cls := .type "list", dict := none, data := .seq acc c, slots := #[] } → ItemsOf (SignAt x) acc x.cps.size → Q (.ref s.heap.objs.size) s') :
    wpAny (model prog w) A (call (.type "list") [.str x t]) Q E s := by
  refine callType_codes (Q₁ := fun obj s₁ => obj = .ref s.heap.objs.size ∧ s₁ = { s with heap := s.heap.push { cls := .type "list", data := .seq #[] } }) PySem.F.called_list (PySem.F.typeCall_list_1 _) PySem.F.entry_list_init
    (code_list_new _ ⟨rfl, rfl⟩) fun obj s₁ h₁ => ?_
  obtain ⟨rfl, rfl⟩ := h₁
  generalize hS0 : s.heap.objs.size = S0
  generalize hP0 : s.heap.push { cls := .type "list", data := .seq #[] } = P0
  have hP0s : P0.objs.size = S0 + 1 := by rw [← hP0, Heap.size_push, hS0]
  have hS : P0.get? S0 = some { cls := .type "list", data := .seq #[] } := by rw [← hP0, ← hS0]; exact Heap.get?_push_size _ rfl
  have hk0 : ∀ b o, s.heap.get? b = some o → b ≠ S0 ∧ P0.get? b = some o := fun b o e => ⟨by rw [← hS0]; exact Nat.ne_of_lt (Heap.lt_size e), by rw [← hP0]; exact Heap.get?_push_of_some _ e⟩
  refine ⟨⟨_, hS, rfl⟩, PySem.F.args_list_init_2 _ _, ?_⟩
  show wpAny _ _ (do let old ← Builtin.List.listItems (.ref S0); Builtin.List.listUpdate (.ref S0) (fun _ => #[]); letGo old.toList.reverse; Builtin.List.listExtendWith (.ref S0) (.str x t) .none) _ _ _
  refine wpAny_bind ?_; unfold Builtin.List.listItems; refine wpAny_bind (wpAny_seqItems hS rfl (wpAny_pure ?_))
  show wpAny _ _ (updateSeq S0 (fun _ => #[]) >>= fun _ => letGo (#[] : Array Value).toList.reverse >>= fun _ => Builtin.List.listExtendWith (.ref S0) (.str x t) .none) _ _ _
  refine wpAny_bind (wpAny_updateSeq hS rfl ?_); refine wpAny_bind (wpAny_letGo ?_)
  generalize hP1 : P0.update S0 (Obj.mapSeq (fun _ => (#[] : Array Value))) = P1
  have hS1 : P1.get? S0 = some { cls := .type "list", data := .seq #[] 0 } := by
    rw [← hP1]; exact Heap.get?_update_self (Obj.mapSeq (fun _ => (#[] : Array Value))) hS rfl
  have hk1 : ∀ b o, s.heap.get? b = some o → b ≠ S0 ∧ P1.get? b = some o := fun b o e => ⟨(hk0 b o e).1, by rw [← hP1]; exact (Heap.get?_update_other _ _ (Ne.symm (hk0 b o e).1)).trans (hk0 b o e).2⟩
  have hP1s : P1.objs.size = S0 + 1 := by rw [← hP1]; simpa using hP0s
  unfold Builtin.List.listExtendWith; refine wpAny_bind (wpAny_typeOf (T := "str") (v := .str x t) rfl ?_)
  simp only [show Builtin.List.listSameRef (.ref S0) (.str x t) = false from rfl, show (Value.type "str" == Value.type "list") = false by decide, show (Value.type "str" == Value.type "tuple") = false by decide, Bool.or_false, Bool.false_eq_true, if_false]
  refine wpAny_bind (wpAny_pyIter_str fun o St W hst => ?_); refine wpAny_bind (wpAny_holding ?_)
  have hSf : S0 ∉ [P1.objs.size] := fun hm => by
    have := List.mem_singleton.mp hm
    rw [hP1s] at this
    exact absurd this (Nat.ne_of_lt (Nat.lt_succ_self _))
  unfold Builtin.List.listLengthHint; refine wpAny_bind (wpAny_specialOf (T := "str") (v := .str x t) rfl PySem.F.str_len ?_)
  wp_delta; refine wpAny_bind (wpAny_isInstance (T := "str") (v := .str x t) (b := true) rfl (by rw [isSubtype_type]; kernel_rfl) ?_)
  show wpAny _ A.in1.in1 (typeOf (Value.str x t) >>= _) _ _ _
  refine wpAny_bind (wpAny_typeOf (T := "str") (v := .str x t) rfl ?_); refine wpAny_pure ?_; rw [if_neg (by decide)]
  refine wpAny_pure ⟨plainId_quiet PySem.F.plain_extend_loop _, ?_⟩
  refine codeAny_extend_loopS (W A.in1.in1 hh).toS hn S0 hSf .none x.cps.size 0 _ #[] 0 rfl (Nat.zero_le _) hst (Heap.get?_push_of_some _ hS1) (ItemsOf.nil _) fun s' acc' c' hm hS' hacc => ?_
  refine ⟨rfl, ?_⟩
  subst hS0
  refine hQ s' acc' c' (fun b ob e => hm.heap b ob (fun hb => ?_) (Heap.get?_push_of_some _ (hk1 b ob e).2)) hm.gens hm.drawn hm.os hS' hacc
  have hlt := Heap.lt_size e
  rcases List.mem_cons.mp hb with h | h
  · exact absurd hlt (h ▸ Nat.lt_irrefl _)
  · rw [List.mem_singleton.mp h] at hlt
    exact absurd hlt (Nat.not_lt.mpr (by show s.heap.objs.size ≤ P1.objs.size; omega))
end
section
variable {X : Cx}
theorem signs_of {x : Str} {acc : Array Value} (h : ItemsOf (SignAt x) acc x.cps.size) : Vals (x.cps.toList.map fun c => V.str ⟨#[c]⟩) acc.toList := by
  refine vals_of_at ?_ fun j v u hv hu => ?_
  · rw [List.length_map, Array.length_toList, Array.length_toList, h.1]
  · rw [List.getElem?_map] at hv
    obtain ⟨c, hc, rfl⟩ : ∃ c, x.cps.toList[j]? = some c ∧ v = .str ⟨#[c]⟩ := by
      cases e : x.cps.toList[j]? with
      | none => rw [e] at hv; cases hv
      | some c => rw [e] at hv; exact ⟨c, rfl, (Option.some.inj hv).symm⟩
    have h2 := h.2 j u (by rw [← Array.getElem?_toList]; exact hu)
    obtain ⟨c', t, h3, rfl⟩ := h2
    rw [Array.getElem?_toList, h3] at hc
    rw [← Option.some.inj hc]
    exact ⟨t, rfl⟩
theorem call_list_str (hc : X.calm = true) : CallR X (.type "list") (fun xs H Q => ∃ z : Str, xs = [.str z] ∧ z.length ≤ sizeLine ∧ ∀ l, H l = none → Q (.ref l) (upd H l (.lst (z.cps.toList.map fun c => V.str ⟨#[c]⟩)))) := by
  intro pins s σ H xs us Q I r h
  obtain ⟨z, rfl, hz, q⟩ := h
  obtain ⟨u, rfl, rx⟩ := vals1 r
  obtain ⟨t, rfl⟩ := rx
  refine list_of_text (I.ok.hd hc) z t hz fun s' acc c hk hg hd ho hS hi => ?_
  obtain ⟨h', g', d', t', o'⟩ := s'
  dsimp only at hk hg hd ho hS
  subst hg hd ho
  refine ⟨.ref s.heap.objs.size, upd H s.heap.objs.size (.lst (z.cps.toList.map fun c => V.str ⟨#[c]⟩)), I.laid hk (Nat.le_refl _) (show ObjOk X.prog X.w _ _ _ (.lst _) from ⟨?_, acc.toList, c, signs_of hi, ?_⟩), rfl, q _ (I.hok.fresh (Nat.le_refl _))⟩
  · rw [List.length_map, Array.length_toList]; exact hz
  · rw [Array.toArray_toList]; exact hS
/-- to.join(reversed(list)) -/
def tJoinRev (K : PySem.W.Frag) (to te : TE) : TE := fun σ H Q => to σ H fun x H1 => ∃ z : Str, x = .str z ∧ te σ H1 fun y H2 => ∃ (a : Addr) (ys : List Str), y = .ref a ∧ SqL K H2 a (ys.map V.str) ∧
  (ys.map (·.length)).sum + ys.length * z.length ≤ 16777216 ∧ Q (.str (Txt.join z ys.reverse)) H2
theorem pe_joinRev {o e : Expr} {to te : TE} {apos pos p2 pos2 : Pos} (hc : X.calm = true) (hg2 : Gl X "reversed") (hm2 : X.mg "reversed" = none) (ho : PE X o to) (he : PE X e te)
    (hs2 : starEach [.Call (.Name "reversed" p2) [e] [] pos2] X.env = [(false, eval (.Call (.Name "reversed" p2) [e] [] pos2) X.env)] := by rfl)
    (hs : starEach [e] X.env = (false, eval e X.env) :: starEach [] X.env := by rfl)
    (hbase : attributeBase o "join" X.env (eval o X.env) = eval o X.env := by rfl) (hline : (apos.endLine == pos.line) = true := by rfl) :
    PE X (.Call (.Attribute o "join" apos) [.Call (.Name "reversed" p2) [e] [] pos2] [] pos) (tJoinRev X.K to te) := by
  refine ⟨fun pins s σ H Q I h => ?_⟩
  refine PySem.Call_method1 hbase hs2 hline (thn (ho.run pins s σ H _ I h) fun v s1 ⟨x, H1, I1, r1, q1⟩ => ?_)
  obtain ⟨z, rfl, q1⟩ := q1
  obtain ⟨t, rfl⟩ := _root_.id r1
  refine ⟨"str", _, PySem.F.plainAttrs_str, PySem.F.slot_str_join, PySem.F.type_str_join, typeIs_str _ _ _, (fun _ e => nomatch e), Calls.callWith_builtin rfl (Calls.evalArgs_plain (Calls.spliced_cons ?_))⟩
  refine Call_ (ld_blt I1 hg2 hm2 PyProof.Rows.boot_reversed (PyProof.Rows.callWith_type1 (args_cons (thn (he.run pins s1 σ H1 _ I1 q1) fun u s2 ⟨y, H2, I2, r2, q2⟩ => args_nil ?_) hs) hs rfl))
  obtain ⟨a, ys, ey, hq, hz, q⟩ := q2
  subst ey
  obtain rfl : u = Value.ref a := r2
  obtain ⟨its, rv, p', hz'⟩ := I2.list hq
  refine call_reversed_list p'.isList (Calls.spliced_nil ?_)
  have k0 : ∀ b o, s2.heap.get? b = some o → (s2.heap.push (revObj a ((its.toArray.size : Int) - 1))).get? b = some o := fun b o e => Heap.get?_push_of_some _ e
  have I3 : Inv X pins σ H2 { s2 with heap := s2.heap.push (revObj a ((its.toArray.size : Int) - 1)) } := I2.kept (t' := s2.toks) k0
  obtain ⟨f0, f1, f2, f3, f4, f5⟩ := I2.fpOk (H' := H2) (b := s2.heap.objs.size) (Nat.le_refl _) (I2.hok.fresh (Nat.le_refl _))
  have hl := p'.isList
  have hne : a ≠ s2.heap.objs.size := by obtain ⟨ol, hol, _⟩ := id hl; exact Nat.ne_of_lt (Heap.lt_size hol)
  have hn : its.toArray.size ≤ sizeLine := by rw [List.size_toArray, ← rv.length]; exact hz'
  have hst := strs_of_vals rv
  refine join_rev (s := { s2 with heap := s2.heap.push (revObj a ((its.toArray.size : Int) - 1)) }) (I2.ok.hd hc) ⟨_, Heap.get?_push_size _ rfl, rfl, rfl⟩ (hl.push _) hne hn (fun i v hv => ?_) (fun h' l' hk hi => ?_)
  · rw [List.getElem?_toArray] at hv
    obtain ⟨x, hx, r⟩ : ∃ x, (ys.map V.str)[i]? = some x ∧ RelV x v := by
      have hlt : i < (ys.map V.str).length := by rw [rv.length]; exact (List.getElem?_eq_some_iff.mp hv).1
      obtain ⟨u, e1, e2⟩ := Vals.get rv (List.getElem?_eq_getElem hlt)
      rw [hv] at e1; cases e1
      exact ⟨_, List.getElem?_eq_getElem hlt, e2⟩
    rw [List.getElem?_map] at hx
    cases ey : ys[i]? with
    | none => rw [ey] at hx; cases hx
    | some y => rw [ey] at hx; cases hx; obtain ⟨t, rfl⟩ := r; exact ⟨y, t, rfl⟩
  · have hv2 : Vals (ys.map V.str).reverse (strValues l') := by
      have := RT.vals_rev rv hi
      simpa using this
    have e : l'.map (·.1) = ys.reverse := by
      rw [← List.map_reverse] at hv2
      have go : ∀ (zs : List Str) (m : List (Str × Tok)), Vals (zs.map V.str) (strValues m) → m.map (·.1) = zs := by
        intro zs
        induction zs with
        | nil =>
          intro m hm
          cases m with
          | nil => rfl
          | cons p m => cases hm
        | cons z zs ih =>
          intro m hm
          cases m with
          | nil => cases hm
          | cons p m =>
            cases hm with
            | cons r rs =>
              obtain ⟨t, e⟩ := r
              cases e
              rw [List.map_cons, ih m rs]
      exact go _ _ hv2
    rw [e]
    refine ⟨joinOk_of ?_, fun t' k => ?_⟩
    · rw [List.map_reverse, List.sum_reverse, List.length_reverse]; exact hz
    · have I4 : Inv X pins σ H2 { s2 with heap := h', toks := k } := I3.turned (t' := k) (fun b o hb e => hk b o hb e) f0 f1 f3 f4 f5
      exact ⟨.str (Txt.join z ys.reverse), H2, I4, ⟨t', rfl⟩, q⟩
end
end G
set_option maxHeartbeats 4000000
/-! Data of any depth at a value (Dp), and what _law_same asks of it. -/
namespace G
open PySem PySem.Spec PyProof.Rows L2

def tyN : PyData → String
  | .none => "NoneType" | .bool _ => "bool" | .int _ => "int" | .str _ => "str" | .list _ => "list" | .tuple _ => "tuple" | .dict _ => "dict"
/-- data of at most that depth, lists and tuples of at most 100000 items -/
inductive Fit : Nat → PyData → Prop
  | non (n : Nat) : Fit n .none
  | bl (n : Nat) (b : Bool) : Fit n (.bool b)
  | int (n : Nat) (i : Int) : Fit n (.int i)
  | str (n : Nat) (x : Str) : Fit n (.str x)
  | lst {n : Nat} {ds : List PyData} (h : ds.length ≤ 100000) (a : ∀ d ∈ ds, Fit n d) : Fit (n + 1) (.list ds)
  | tup {n : Nat} {ds : List PyData} (h : ds.length ≤ 100000) (a : ∀ d ∈ ds, Fit n d) : Fit (n + 1) (.tuple ds)
section
variable {K : PySem.W.Frag} {H H' : Hp} {v : V} {d : PyData}
theorem seqT_same {a : Addr} {xs : List V} (k : ∀ b o, H b = some o → H' b = some o) (h : SqT K H a xs) : SqT K H' a xs := by
  rcases h with (h | ⟨f, h⟩) | h
  · exact .inl (.inl (k _ _ h))
  · exact .inl (.inr ⟨f, k _ _ h⟩)
  · exact .inr h
theorem seqL_same {a : Addr} {xs : List V} (k : ∀ b o, H b = some o → H' b = some o) (h : SqL K H a xs) : SqL K H' a xs := by
  rcases h with (h | ⟨f, h⟩) | h
  · exact .inl (.inl (k _ _ h))
  · exact .inl (.inr ⟨f, k _ _ h⟩)
  · exact .inr h
mutual
theorem dp_same (k : ∀ b o, H b = some o → H' b = some o) : ∀ (d : PyData) (v : V), Dp K H v d → Dp K H' v d
  | .none, _, h => by cases h; exact .non
  | .bool b, _, h => by cases h; exact .bl b
  | .int i, _, h => by cases h; exact .int i
  | .str x, _, h => by cases h; exact .str x
  | .list ds, _, h => by cases h with | lst hs ha => exact .lst (seqL_same k hs) (dps_same k ds _ ha)
  | .tuple ds, _, h => by cases h with | tup hs ha => exact .tup (seqT_same k hs) (dps_same k ds _ ha)
  | .dict _, _, h => by cases h
theorem dps_same (k : ∀ b o, H b = some o → H' b = some o) : ∀ (ds : List PyData) (vs : List V), DpAll K H vs ds → DpAll K H' vs ds
  | [], _, h => by cases h; exact .nil
  | d :: ds, _, h => by cases h with | cons h1 h2 => exact .cons (dp_same k d _ h1) (dps_same k ds _ h2)
end
theorem dps_len : ∀ {xs : List V} {ds : List PyData}, DpAll K H xs ds → xs.length = ds.length
  | _, _, .nil => rfl
  | _, _, .cons _ h => by rw [List.length_cons, List.length_cons, dps_len h]
theorem dps_get : ∀ {xs : List V} {ds : List PyData} {i : Nat} {d : PyData}, DpAll K H xs ds → ds[i]? = some d → ∃ v, xs[i]? = some v ∧ Dp K H v d
  | _, _, 0, d, .cons h _, e => ⟨_, rfl, by rw [show _ = d from Option.some.inj e] at h; exact h⟩
  | _, _, i + 1, d, .cons _ h, e => dps_get (i := i) h e
theorem dp_ty (h : Dp K H v d) : TyX K H v (.type (tyN d)) := by
  cases h with
  | non => exact .base .non
  | bl b => exact .base (.bl b)
  | int i => exact .base (.int i)
  | str x => exact .base (.str x)
  | lst hs _ =>
    rcases hs with (h | ⟨f, h⟩) | ⟨o, its, n, h, hc, _⟩
    · exact .base (.lst h)
    · exact .base (.frz h)
    · exact .kList h hc
  | tup hs _ =>
    rcases hs with (h | ⟨f, h⟩) | ⟨o, its, n, h, hc, _⟩
    · exact .base (.tup h)
    · exact .fTuple h
    · exact .kTuple h hc
/-- isinstance of data: some answer, the same for the same data -/
theorem kit_d (h : Dp K H v d) {T : String} (hT : T = "tuple" ∨ T = "list" ∨ T = "bool" ∨ T = "int" ∨ T = "str") : ∃ b, PySem.W.kitOne K (.type (tyN d)) (.type T) = some b := by
  cases h with
  | non => show ∃ b, PySem.W.kitOne K (.type "NoneType") (.type T) = some b; rcases hT with rfl | rfl | rfl | rfl | rfl <;> exact ⟨false, kit_ty (by decide +kernel)⟩
  | bl b => show ∃ b, PySem.W.kitOne K (.type "bool") (.type T) = some b; rcases hT with rfl | rfl | rfl | rfl | rfl <;> first | exact ⟨false, kit_ty (by decide +kernel)⟩ | exact ⟨true, kit_ty (by decide +kernel)⟩
  | int i => show ∃ b, PySem.W.kitOne K (.type "int") (.type T) = some b; rcases hT with rfl | rfl | rfl | rfl | rfl <;> first | exact ⟨false, kit_ty (by decide +kernel)⟩ | exact ⟨true, kit_ty (by decide +kernel)⟩
  | str x => show ∃ b, PySem.W.kitOne K (.type "str") (.type T) = some b; rcases hT with rfl | rfl | rfl | rfl | rfl <;> first | exact ⟨false, kit_ty (by decide +kernel)⟩ | exact ⟨true, kit_ty (by decide +kernel)⟩
  | lst _ _ => show ∃ b, PySem.W.kitOne K (.type "list") (.type T) = some b; rcases hT with rfl | rfl | rfl | rfl | rfl <;> first | exact ⟨false, kit_ty (by decide +kernel)⟩ | exact ⟨true, kit_ty (by decide +kernel)⟩
  | tup _ _ => show ∃ b, PySem.W.kitOne K (.type "tuple") (.type T) = some b; rcases hT with rfl | rfl | rfl | rfl | rfl <;> first | exact ⟨false, kit_ty (by decide +kernel)⟩ | exact ⟨true, kit_ty (by decide +kernel)⟩
def isSq : PyData → Bool
  | .list _ => true | .tuple _ => true | _ => false
theorem kit_sq (h : Dp K H v d) : PySem.W.kitAny K (.type (tyN d)) [.type "tuple", .type "list"] = some (isSq d) := by
  cases h with
  | non => show PySem.W.kitAny K (.type "NoneType") _ = _; exact kitAny_cons (b := false) (kit_ty (by decide +kernel)) (fun _ => kitAny_cons (b := false) (kit_ty (by decide +kernel)) (fun _ => kitAny_nil) (by simp)) (by simp)
  | bl b => show PySem.W.kitAny K (.type "bool") _ = _; exact kitAny_cons (b := false) (kit_ty (by decide +kernel)) (fun _ => kitAny_cons (b := false) (kit_ty (by decide +kernel)) (fun _ => kitAny_nil) (by simp)) (by simp)
  | int i => show PySem.W.kitAny K (.type "int") _ = _; exact kitAny_cons (b := false) (kit_ty (by decide +kernel)) (fun _ => kitAny_cons (b := false) (kit_ty (by decide +kernel)) (fun _ => kitAny_nil) (by simp)) (by simp)
  | str x => show PySem.W.kitAny K (.type "str") _ = _; exact kitAny_cons (b := false) (kit_ty (by decide +kernel)) (fun _ => kitAny_cons (b := false) (kit_ty (by decide +kernel)) (fun _ => kitAny_nil) (by simp)) (by simp)
  | lst _ _ => show PySem.W.kitAny K (.type "list") _ = _; exact kitAny_cons (b := false) (kit_ty (by decide +kernel)) (fun _ => kitAny_cons (b := true) (kit_ty (by decide +kernel)) (by simp) (by simp [isSq])) (by simp)
  | tup _ _ => show PySem.W.kitAny K (.type "tuple") _ = _; exact kitAny_cons (b := true) (kit_ty (by decide +kernel)) (by simp) (by simp [isSq])
/-- a text, a number .. : the value is told by the data -/
theorem dp_flat (h : Dp K H v d) (n : isSq d = false) : scal v v = true ∧ ∀ H2 u, Dp K H2 u d → u = v := by
  cases h with
  | non => exact ⟨rfl, fun _ _ h => by cases h; rfl⟩
  | bl b => exact ⟨rfl, fun _ _ h => by cases h; rfl⟩
  | int i => exact ⟨rfl, fun _ _ h => by cases h; rfl⟩
  | str x => exact ⟨rfl, fun _ _ h => by cases h; rfl⟩
  | lst _ _ => cases n
  | tup _ _ => cases n
end
theorem dp_rows {K : PySem.W.Frag} {H : Hp} {x y : V} {d : PyData} {n : Nat} (hx : Dp K H x d) (hy : Dp K H y d) (hF : Fit n d) (hq : isSq d = true) : ∃ (a c : Addr) (xs ys : List V) (ds : List PyData), x = .ref a ∧ y = .ref c ∧ DpAll K H xs ds ∧ DpAll K H ys ds ∧ ds.length ≤ 100000 ∧
    (∃ m, n = m + 1 ∧ ∀ d ∈ ds, Fit m d) ∧ ((SqL K H a xs ∧ SqL K H c ys) ∨ (SqT K H a xs ∧ SqT K H c ys)) := by
  cases hx with
  | non => cases hq
  | bl b => cases hq
  | int i => cases hq
  | str z => cases hq
  | lst h1 a1 => cases hy with | lst h2 a2 => cases hF with | lst hz hf => exact ⟨_, _, _, _, _, rfl, rfl, a1, a2, hz, ⟨_, rfl, hf⟩, .inl ⟨h1, h2⟩⟩
  | tup h1 a1 => cases hy with | tup h2 a2 => cases hF with | tup hz hf => exact ⟨_, _, _, _, _, rfl, rfl, a1, a2, hz, ⟨_, rfl, hf⟩, .inr ⟨h1, h2⟩⟩
theorem inV_trues (n : Nat) : inV (.bl false) (List.replicate n (.bl true)) = false := by
  unfold inV
  induction n with
  | zero => rfl
  | succ n ih => rw [List.replicate_succ, List.any_cons, ih]; rfl
theorem flat_trues (n : Nat) : (List.replicate n (V.bl true)).all flatV = true := by
  induction n with
  | zero => rfl
  | succ n ih => rw [List.replicate_succ, List.all_cons, ih]; rfl
theorem fn_false {P : Program} {w : World} {K : PySem.W.Frag} {mg : Str → Option Value} {base : Heap} {f : Addr} {fd : FuncData} {ps : List Str} {k : Nat} {sp : Sp} (h : ∀ vs H Q E, ¬ sp vs H Q E) : FnOk P w K mg base CX0 k f fd ps sp :=
  ⟨fun vs H Q E q => (h vs H Q E q).elim, fun _ _ _ _ _ _ vs _ _ _ _ _ _ q => (h _ _ _ _ q).elim⟩
end G
/-! The layer's rules that speak of the written part, with that part named (K): within a comprehension's block, too. -/
namespace G
open PySem PySem.Spec PyProof.Rows L2
section
variable {X : Cx} (K : PySem.W.Frag)
theorem k_ix_list (e : X.K = K := by rfl) : IxR X (rIxL K) := e ▸ ix_list
theorem k_ix_tup (e : X.K = K := by rfl) : IxR X (rIxT K) := e ▸ ix_tup
theorem k_ix_seq (e : X.K = K := by rfl) : IxR X (rIx K) := e ▸ ix_seq
theorem k_in_seq (e : X.K = K := by rfl) : OpR X (compareOp .In) (rIn K false) := e ▸ op_in_seq
theorem k_notIn_seq (e : X.K = K := by rfl) : OpR X (compareOp .NotIn) (rIn K true) := e ▸ op_notIn_seq
def rLen (K : PySem.W.Frag) : List V → Hp → VK → Prop := fun xs H Q => ∃ p ys, xs = [.ref p] ∧ (SqL K H p ys ∨ SqT K H p ys) ∧ Q (.int (ys.length : Int)) H
theorem k_len_seq (e : X.K = K := by rfl) : CallR X (.builtin "len") (G.rLen K) := e ▸ call_len_seq
def rLst (K : PySem.W.Frag) : List V → Hp → VK → Prop := fun xs H Q => ∃ p ys, xs = [.ref p] ∧ (SqL K H p ys ∨ SqT K H p ys) ∧ ∀ l, H l = none → Q (.ref l) (upd H l (.lst ys))
theorem k_list_of (e : X.K = K := by rfl) : CallR X (.type "list") (rLst K) := e ▸ call_list_of
def rTup (K : PySem.W.Frag) : List V → Hp → VK → Prop := fun xs H Q => ∃ p ys, xs = [.ref p] ∧ ((SqL K H p ys ∧ ∀ l, H l = none → Q (.ref l) (upd H l (.tup ys))) ∨ (SqT K H p ys ∧ Q (.ref p) H))
theorem k_tuple_of (e : X.K = K := by rfl) : CallR X (.type "tuple") (rTup K) := e ▸ call_tuple_of
theorem k_sl_list (e : X.K = K := by rfl) : SlR X (rSlL K) := e ▸ sl_list
theorem k_sl_tupA (e : X.K = K := by rfl) : SlR X (rSlA K) := e ▸ sl_tupA
theorem k_catA (e : X.K = K := by rfl) : OpR X (binaryOp .Add) (rCatA K) := e ▸ op_catA
theorem k_sortedS (e : X.K = K := by rfl) : CallR X (.builtin "sorted") (rSortedS K) := e ▸ cr_sortedS
theorem k_sorted (e : X.K = K := by rfl) : CallR X (.builtin "sorted") (rSorted K) := e ▸ cr_sorted
theorem k_all (hc : X.calm = true) (e : X.K = K := by rfl) : CallR X (.builtin "all") (rAll K) := e ▸ cr_all hc
theorem k_any (hc : X.calm = true) (e : X.K = K := by rfl) : CallR X (.builtin "any") (rAny K) := e ▸ cr_any hc
theorem k_isi (e : X.K = K := by rfl) : CallR X (.builtin "isinstance") (rIsi K) := e ▸ call_isi
theorem k_isiT (e : X.K = K := by rfl) : CallR X (.builtin "isinstance") (rIsiT K) := e ▸ call_isiT
theorem k_index (e : X.K = K := by rfl) : MtR X "list.index" (rIndex K) := e ▸ mt_index
theorem k_eqD (hu : X.A.units + 64 < cLine) (e : X.K = K := by rfl) : OpR X (compareOp .Eq) (rEqD K) := e ▸ op_eqD hu
theorem k_neD (hu : X.A.units + 64 < cLine) (e : X.K = K := by rfl) : OpR X (compareOp .NotEq) (rNeD K) := e ▸ op_neD hu
theorem k_pi_list {tg l : Expr} {tl : TE} (hl : PE X l tl) (e : X.K = K := by rfl) : PI X tg l (iList K tl) := e ▸ pi_list hl
theorem k_pi_tup {tg l : Expr} {tl : TE} (hl : PE X l tl) (e : X.K = K := by rfl) : PI X tg l (iTup K tl) := e ▸ pi_tup hl
end
end G
set_option maxHeartbeats 4000000
/-! Texts as lists of codes: signs, sorting, joining, cutting; alphabets and words. -/
namespace G
open PySem PySem.Spec PyProof.Rows L2

abbrev sgn (c : Nat) : V := .str ⟨#[c]⟩
theorem sgn_S (c : Nat) : sgn c = .str (S [c]) := rfl
theorem inV_sgn (c : Nat) (cs : List Nat) : inV (sgn c) (cs.map sgn) = decide (c ∈ cs) := by
  unfold inV
  induction cs with
  | nil => rfl
  | cons d cs ih =>
    rw [List.map_cons, List.any_cons, ih]
    have e : eqV (sgn d) (sgn c) = decide (d = c) := by
      show ((S [d]) == (S [c])) = decide (d = c)
      rw [SX.S_beq_eq]
      by_cases h : d = c
      · subst h; simp
      · rw [decide_eq_false h, decide_eq_false (fun q => h (List.cons.inj q).1)]
    rw [e]
    by_cases h : d = c
    · subst h; simp
    · have h' : ¬ c = d := fun z => h z.symm
      rw [decide_eq_false h, Bool.false_or]
      by_cases hm : c ∈ cs
      · rw [decide_eq_true hm, decide_eq_true (List.mem_cons_of_mem _ hm)]
      · rw [decide_eq_false hm, decide_eq_false (fun z => by rcases List.mem_cons.mp z with z | z; exact h' z; exact hm z)]
theorem flat_str {α : Type} (f : α → Str) (xs : List α) : (xs.map fun x => V.str (f x)).all flatV = true := by
  induction xs with
  | nil => rfl
  | cons x xs ih => rw [List.map_cons, List.all_cons, ih]; rfl
theorem flat_int (xs : List Int) : (xs.map V.int).all flatV = true := by
  induction xs with
  | nil => rfl
  | cons x xs ih => rw [List.map_cons, List.all_cons, ih]; rfl
theorem ints_len (cs : List Nat) : ((cs.map fun c => S [c]).map (·.length)).sum = cs.length := by
  induction cs with
  | nil => rfl
  | cons c cs ih => rw [List.map_cons, List.map_cons, List.sum_cons, ih, List.length_cons, S_len]; simp; omega
theorem join_flat : ∀ ys : List (List Nat), TL.joinL [] ys = ys.flatten := by
  intro ys
  induction ys with
  | nil => rfl
  | cons y r ih =>
    cases r with
    | nil => simp [TL.joinL]
    | cons z r => simp [TL.joinL] at ih ⊢; exact ih
theorem join_S (ys : List (List Nat)) : Txt.join (S []) (ys.map S) = S ys.flatten := by
  show Txt.join (SX.S []) (ys.map SX.S) = _
  rw [SX.join_S, join_flat]
theorem flatten_sing : ∀ cs : List Nat, (cs.map fun c => [c]).flatten = cs
  | [] => rfl
  | c :: cs => by simp [flatten_sing cs]
theorem join_signs (cs : List Nat) : Txt.join (S []) (cs.map fun c => S [c]) = S cs := by
  have := join_S (cs.map fun c => [c])
  rw [List.map_map, flatten_sing] at this
  exact this
theorem empty_S : (PySem.Str.ofString "") = S [] := rfl
theorem sum_lens (ys : List (List Nat)) : ((ys.map S).map (·.length)).sum = ys.flatten.length := by
  induction ys with
  | nil => rfl
  | cons c cs ih => rw [List.map_cons, List.map_cons, List.sum_cons, ih, S_len]; simp
/-- sorted signs -/
theorem sorted_signs {ys : List Str} {cs : List Nat} (hp : ys.Perm (cs.map fun c => S [c])) (hs : sortedS ys = true) : ∃ ds : List Nat, ys = ds.map (fun c => S [c]) ∧ ds.Perm cs ∧ ds.Pairwise (· ≤ ·) := by
  obtain ⟨ds, e, p⟩ : ∃ ds : List Nat, ys = ds.map (fun c => S [c]) ∧ ds.Perm cs := by
    have hm : ∀ y ∈ ys, ∃ c : Nat, y = S [c] := fun y hy => by
      obtain ⟨c, _, e⟩ := List.mem_map.mp (hp.mem_iff.mp hy)
      exact ⟨c, e.symm⟩
    have go : ∀ zs : List Str, (∀ y ∈ zs, ∃ c : Nat, y = S [c]) → ∃ ds : List Nat, zs = ds.map (fun c => S [c]) := by
      intro zs
      induction zs with
      | nil => exact fun _ => ⟨[], rfl⟩
      | cons z zs ih =>
        intro h
        obtain ⟨c, rfl⟩ := h z List.mem_cons_self
        obtain ⟨ds, rfl⟩ := ih fun y hy => h y (List.mem_cons_of_mem _ hy)
        exact ⟨c :: ds, rfl⟩
    obtain ⟨ds, rfl⟩ := go ys hm
    refine ⟨ds, rfl, ?_⟩
    have q := hp.map (fun z : Str => z.cps.toList.headD 0)
    rw [List.map_map, List.map_map] at q
    have e1 : ((fun z : Str => z.cps.toList.headD 0) ∘ fun c => S [c]) = (id : Nat → Nat) := rfl
    rw [e1, List.map_id, List.map_id] at q
    exact q
  refine ⟨ds, e, p, ?_⟩
  subst e
  clear p hp
  have key : ∀ (ds : List Nat) (p : Nat), risingS (S [p]) (ds.map fun c => S [c]) = true → (p :: ds).Pairwise (· ≤ ·) := by
    intro ds
    induction ds with
    | nil => intro p _; simp
    | cons d ds ih =>
      intro p h
      rw [List.map_cons] at h
      have h2 : (!ltCps [d] [p] && risingS (S [d]) (ds.map fun c => S [c])) = true := h
      rw [Bool.and_eq_true] at h2
      obtain ⟨h3, h4⟩ := h2
      have i := ih d h4
      have h5 : p ≤ d := by
        have e : ltCps [d] [p] = decide (d < p) := by
          show (decide (d < p) || (d == p && ltCps [] [])) = decide (d < p)
          simp [ltCps]
        rw [e] at h3
        have := of_decide_eq_false (by simpa using h3 : decide (d < p) = false)
        omega
      refine List.pairwise_cons.mpr ⟨fun x hx => ?_, i⟩
      rcases List.mem_cons.mp hx with z | z
      · rw [z]; exact h5
      · exact Nat.le_trans h5 ((List.pairwise_cons.mp i).1 x z)
  cases ds with
  | nil => simp
  | cons d ds => exact key ds d hs
/-! ### cutting -/
theorem sIx_n (n d k : Nat) : HT.sIx n d (some (k : Int)) = min k n := HT.sIx_nat n d k
theorem cut_to (a : List Nat) (j : Nat) : cutS (S a) none (some (j : Int)) = S (a.take j) := by
  unfold cutS
  rw [HT.sIx_none, sIx_n, S_len]
  show S ((a.drop 0).take (min j a.length - 0)) = S (a.take j)
  rw [List.drop_zero, Nat.sub_zero]
  congr 1
  by_cases h : j ≤ a.length
  · rw [Nat.min_eq_left h]
  · rw [Nat.min_eq_right (by omega), List.take_length, List.take_of_length_le (by omega)]
theorem cut_from (a : List Nat) (i : Nat) : cutS (S a) (some (i : Int)) none = S (a.drop i) := by
  unfold cutS
  rw [HT.sIx_none, sIx_n, S_len]
  show S ((a.drop (min i a.length)).take (a.length - min i a.length)) = S (a.drop i)
  rw [List.take_of_length_le (by rw [List.length_drop]; omega)]
  congr 1
  by_cases h : i ≤ a.length
  · rw [Nat.min_eq_left h]
  · rw [Nat.min_eq_right (by omega), List.drop_length, List.drop_of_length_le (by omega)]
theorem cut_mid (a : List Nat) (i j : Nat) : cutS (S a) (some (i : Int)) (some (j : Int)) = S ((a.drop i).take (j - i)) := by
  unfold cutS
  rw [sIx_n, sIx_n, S_len]
  show S ((a.drop (min i a.length)).take (min j a.length - min i a.length)) = S ((a.drop i).take (j - i))
  congr 1
  by_cases h : i ≤ a.length
  · rw [Nat.min_eq_left h]
    by_cases h2 : j ≤ a.length
    · rw [Nat.min_eq_left h2]
    · rw [Nat.min_eq_right (by omega), List.take_of_length_le (by rw [List.length_drop]; omega), List.take_of_length_le (by rw [List.length_drop]; omega)]
  · rw [show min i a.length = a.length by omega, List.drop_length, List.drop_of_length_le (by omega)]; simp
/-! ### the letters -/
theorem az_at : ∀ j : Nat, j < 26 → ((PySem.Str.ofString "abcdefghijklmnopqrstuvwxyz").cps.toList)[j]? = some (97 + j) := by decide +kernel
theorem az_atI {r : Int} (h0 : 0 ≤ r) (h1 : r < 26) : atI (PySem.Str.ofString "abcdefghijklmnopqrstuvwxyz").cps.toList r = some (97 + r.toNat) := by
  obtain ⟨j, rfl⟩ := Int.eq_ofNat_of_zero_le h0
  exact atI_nat (az_at j (by omega))
theorem az_sz : (PySem.Str.ofString "abcdefghijklmnopqrstuvwxyz").length ≤ sizeLine := by decide +kernel
/-- an alphabet -/
structure Al (A : List Nat) : Prop where
  pos : 1 ≤ A.length
  le : A.length ≤ 3
  lt : A.Pairwise (· < ·)
  az : ∀ c ∈ A, 97 ≤ c ∧ c ≤ 122
def Ov (A w : List Nat) : Prop := ∀ c ∈ w, c ∈ A
theorem pick4 {cs : List Nat} (h : cs.length ≤ 3) : ∃ c ds, ([97, 98, 99, 100].filter fun c => decide (c ∉ cs)) = c :: ds := by
  cases e : [97, 98, 99, 100].filter fun c => decide (c ∉ cs) with
  | cons c ds => exact ⟨c, ds, rfl⟩
  | nil =>
    exfalso
    have h1 : ∀ c ∈ [97, 98, 99, 100], c ∈ cs := fun c hc => by
      have := List.filter_eq_nil_iff.mp e c hc
      simpa using this
    have a := h1 97 (by simp)
    have b := h1 98 (by simp)
    have c := h1 99 (by simp)
    have d := h1 100 (by simp)
    match cs, h with
    | [], _ => exact absurd a (by simp)
    | [x], _ =>
      have a : 97 = x := List.mem_singleton.mp a
      have b : 98 = x := List.mem_singleton.mp b
      omega
    | [x, y], _ =>
      simp only [List.mem_cons, List.not_mem_nil, or_false] at a b c
      omega
    | [x, y, z], _ =>
      simp only [List.mem_cons, List.not_mem_nil, or_false] at a b c d
      omega
    | _ :: _ :: _ :: _ :: _, h => simp at h
/-- what a def does with draws: it takes some of them -/
def Fr (a : Addr) (H H' : Hp) : Prop := ∀ b o, H b = some o → b ≠ a → H' b = some o
def DQ (a : Addr) (H : Hp) (Q : VK) (v : V) : Prop := ∀ (H' : Hp) (ds' : List Int), Fr a H H' → H' a = some (.lst (ds'.map V.int)) → Dr ds' → Q v H'
theorem Ow.frO {a : Addr} {H0 H : Hp} {L : List (Addr × HO)} (O : Ow H0 [a] H L) : Fr a H0 H := fun b o h n => O.fr b o h (by simpa using n)
end G
namespace G
open PySem PySem.Spec PyProof.Rows L2
/-! ### text.index(sign) -/
theorem occ_full (s sub : Str) (hi : Nat) : ∀ (l : List Nat) (st : Array Nat × Nat), 1 ≤ st.fst.size → (forIn l st (StrLaws.occBody s sub hi 1)).run.fst = st.fst
  | [], _, _ => rfl
  | a :: l, st, h => by
    rw [List.forIn_cons]; unfold StrLaws.occBody
    rw [if_neg (fun q => by have := q.1.1.1; omega)]
    exact occ_full s sub hi l _ h
theorem occ_find (s sub : Str) (hi : Nat) (j : Nat) (hj : j + sub.length ≤ hi ∧ Builtin.Str.subAt s sub j = true) (hn : ∀ m, m < j → ¬ (m + sub.length ≤ hi ∧ Builtin.Str.subAt s sub m = true)) :
    ∀ (k n : Nat), k ≤ j → j < k + n → (forIn (List.range' k n) ((#[] : Array Nat), 0) (StrLaws.occBody s sub hi 1)).run.fst = #[j]
  | k, 0, h1, h2 => by omega
  | k, n + 1, h1, h2 => by
    rw [List.range'_succ, List.forIn_cons]
    by_cases e : k = j
    · subst e
      unfold StrLaws.occBody
      rw [if_pos ⟨⟨⟨by simp, Nat.zero_le _⟩, hj.1⟩, hj.2⟩]
      exact occ_full s sub hi _ _ (by simp)
    · have ih := occ_find s sub hi j hj hn (k + 1) n (by omega) (by omega)
      unfold StrLaws.occBody at ih ⊢
      rw [if_neg (fun q => hn k (by omega) ⟨q.1.2, q.2⟩)]
      exact ih
theorem occ_one {A : List Nat} {c j : Nat} (h : A[j]? = some c) (hn : ∀ m, m < j → A[m]? ≠ some c) : Builtin.Str.occurrences (S A) ⟨#[c]⟩ 0 (S A).length 1 = [j] := by
  rw [StrLaws.occ_eq, occ_find (S A) ⟨#[c]⟩ (S A).length j ((StrLaws.subAt_one (S A) c j).mpr h) (fun m hm q => hn m hm ((StrLaws.subAt_one (S A) c m).mp q)) 0 _ (Nat.zero_le _) ?_]
  have := (List.getElem?_eq_some_iff.mp h).1
  rw [S_len]; omega
theorem idx_first {c : Nat} : ∀ (A : List Nat) (m : Nat), m < A.idxOf c → A[m]? ≠ some c
  | [], m, h => by simp
  | a :: r, m, h => by
    rw [List.idxOf_cons] at h
    by_cases e : a = c
    · subst e; simp at h
    · have e' : (a == c) = false := by simpa using e
      rw [e'] at h
      cases m with
      | zero => intro q; exact e (Option.some.inj q)
      | succ m => exact idx_first r m (by simpa using h)
theorem idx_at {A : List Nat} {c : Nat} (h : c ∈ A) : A[A.idxOf c]? = some c ∧ ∀ m, m < A.idxOf c → A[m]? ≠ some c := by
  have hl : A.idxOf c < A.length := List.idxOf_lt_length_of_mem h
  exact ⟨by rw [List.getElem?_eq_getElem hl, List.getElem_idxOf hl], idx_first A⟩
theorem occ_idx {A : List Nat} {c : Nat} (h : c ∈ A) : Builtin.Str.occurrences (S A) ⟨#[c]⟩ 0 (S A).length 1 = [A.idxOf c] := occ_one (idx_at h).1 (idx_at h).2
theorem idx_lt {A : List Nat} (hA : A.Pairwise (· < ·)) {x y : Nat} (hx : x ∈ A) (hy : y ∈ A) : (A.idxOf x < A.idxOf y) ↔ x < y := by
  have hlx := List.idxOf_lt_length_of_mem hx
  have hly := List.idxOf_lt_length_of_mem hy
  have ex := List.getElem_idxOf hlx
  have ey := List.getElem_idxOf hly
  have P := List.pairwise_iff_getElem.mp hA
  constructor
  · intro h
    have := P _ _ hlx hly h
    omega
  · intro h
    rcases Nat.lt_trichotomy (A.idxOf x) (A.idxOf y) with z | z | z
    · exact z
    · have : x = y := by rw [← ex, ← ey]; simp [z]
      omega
    · have := P _ _ hly hlx z
      omega
/-! ### the order of words -/
def cmpL : List Nat → List Nat → Int
  | x :: xs, y :: ys => if x = y then cmpL xs ys else if x < y then -1 else 1
  | _, _ => 0
def ordW (l r : List Nat) : Int := if l.length = r.length then cmpL l r else if l.length < r.length then -1 else 1
theorem cmpL_self : ∀ l, cmpL l l = 0
  | [] => rfl
  | x :: xs => by unfold cmpL; rw [if_pos rfl]; exact cmpL_self xs
theorem cmpL_lt : ∀ l r : List Nat, l.length = r.length → l ≠ r → cmpL l r = if l < r then -1 else 1
  | [], [], _, h => absurd rfl h
  | x :: xs, y :: ys, hl, h => by
    unfold cmpL
    by_cases e : x = y
    · subst e
      rw [if_pos rfl, cmpL_lt xs ys (by simpa using hl) (fun q => h (by rw [q]))]
      simp
    · rw [if_neg e]
      by_cases z : x < y
      · rw [if_pos z, if_pos (List.cons_lt_cons_iff.mpr (.inl z))]
      · rw [if_neg z, if_neg (fun q => by
          rcases List.cons_lt_cons_iff.mp q with q | q
          · exact z q
          · exact e q.1)]
/-- up to k the words agree; there they differ, or both end -/
theorem cmpL_pre : ∀ (k : Nat) (l r : List Nat), l.take k = r.take k → cmpL l r = cmpL (l.drop k) (r.drop k)
  | 0, _, _, _ => rfl
  | k + 1, [], [], _ => rfl
  | k + 1, [], _ :: _, h => by simp at h
  | k + 1, _ :: _, [], h => by simp at h
  | k + 1, x :: xs, y :: ys, h => by
    simp only [List.take_succ_cons, List.cons.injEq] at h
    show cmpL (x :: xs) (y :: ys) = _
    rw [show cmpL (x :: xs) (y :: ys) = if x = y then cmpL xs ys else if x < y then -1 else 1 from rfl, if_pos h.1]
    exact cmpL_pre k xs ys h.2
end G
namespace G
open PySem PySem.Spec PyProof.Rows L2
/-! ### the numbers of words -/
def numW (A w : List Nat) : Nat := w.foldl (fun v c => v * A.length + (A.idxOf c + 1)) 0
theorem numW_from (A : List Nat) : ∀ (w : List Nat) (v : Nat), w.foldl (fun v c => v * A.length + (A.idxOf c + 1)) v = v * A.length ^ w.length + numW A w
  | [], v => by simp [numW]
  | c :: w, v => by
    unfold numW
    rw [List.foldl_cons, List.foldl_cons, numW_from A w, numW_from A w (0 * A.length + (A.idxOf c + 1)), List.length_cons, Nat.pow_succ, Nat.zero_mul, Nat.zero_add, Nat.add_mul, Nat.mul_assoc, Nat.mul_comm A.length (A.length ^ w.length)]
    omega
theorem numW_cons (A : List Nat) (c : Nat) (w : List Nat) : numW A (c :: w) = (A.idxOf c + 1) * A.length ^ w.length + numW A w := by
  show (c :: w).foldl _ 0 = _
  rw [List.foldl_cons, numW_from, Nat.zero_mul, Nat.zero_add]
theorem numW_len {A : List Nat} (h : 1 ≤ A.length) : ∀ w, w.length ≤ numW A w
  | [] => Nat.zero_le _
  | c :: w => by
    have ih := numW_len h w
    have hp : 1 ≤ A.length ^ w.length := Nat.one_le_pow _ _ h
    rw [numW_cons, List.length_cons]
    have : 1 ≤ (A.idxOf c + 1) * A.length ^ w.length := Nat.le_trans hp (Nat.le_mul_of_pos_left _ (by omega))
    omega
theorem numW_pow {A : List Nat} (h : 2 ≤ A.length) : ∀ w, 2 ^ w.length ≤ numW A w + 1
  | [] => by simp [numW]
  | c :: w => by
    have ih := numW_pow h w
    have hp : 2 ^ w.length ≤ A.length ^ w.length := Nat.pow_le_pow_left h _
    rw [numW_cons, List.length_cons, Nat.pow_succ]
    have : A.length ^ w.length ≤ (A.idxOf c + 1) * A.length ^ w.length := Nat.le_mul_of_pos_left _ (by omega)
    omega
theorem Al.nodup {A : List Nat} (h : Al A) : A.Nodup := h.lt.imp fun h => Nat.ne_of_lt h
theorem idx_get {A : List Nat} (h : A.Nodup) {j : Nat} (hj : j < A.length) : A.idxOf A[j] = j := by
  have m := List.getElem_mem hj
  have hl := List.idxOf_lt_length_of_mem m
  exact (List.getElem_inj h).mp (List.getElem_idxOf hl)
/-- the greatest numbers that word_at takes -/
def NumOk (A : List Nat) (n : Nat) : Prop := n < 2 ^ 70 ∧ (A.length = 1 → n ≤ 1100)
theorem len_of_num {A w : List Nat} {n r : Nat} (hA : 1 ≤ A.length) (hn : NumOk A n) (e : n = r + numW A w) : w.length ≤ 1100 := by
  by_cases h : A.length = 1
  · have := hn.2 h; have := numW_len hA w; omega
  · have h2 := numW_pow (A := A) (by omega) w
    have h3 : 2 ^ w.length ≤ 2 ^ 70 := by have := hn.1; omega
    have := (Nat.pow_le_pow_iff_right (by decide : 1 < 2)).mp h3
    omega
end G
namespace G
open PySem PySem.Spec PyProof.Rows L2
theorem numW_snoc (A w : List Nat) (c : Nat) : numW A (w ++ [c]) = numW A w * A.length + (A.idxOf c + 1) := by
  unfold numW; rw [List.foldl_append]; rfl
theorem snoc_cases {α : Type} (l : List α) : l = [] ∨ ∃ r x, l = r ++ [x] := by
  rcases List.eq_nil_or_concat l with h | ⟨r, x, h⟩
  · exact .inl h
  · exact .inr ⟨r, x, by simpa using h⟩
theorem numW_inj {A : List Nat} (hA : A.Nodup) : ∀ (k : Nat) (u v : List Nat), u.length ≤ k → Ov A u → Ov A v → numW A u = numW A v → u = v := by
  intro k
  induction k with
  | zero =>
    intro u v hk hu hv e
    have : u = [] := List.eq_nil_of_length_eq_zero (by omega)
    subst this
    rcases snoc_cases v with rfl | ⟨r, x, rfl⟩
    · rfl
    · rw [numW_snoc] at e
      have : numW A [] = 0 := rfl
      omega
  | succ k ih =>
    intro u v hk hu hv e
    rcases snoc_cases u with rfl | ⟨r, x, rfl⟩
    · rcases snoc_cases v with rfl | ⟨r, x, rfl⟩
      · rfl
      · rw [numW_snoc] at e
        have : numW A [] = 0 := rfl
        omega
    · rcases snoc_cases v with rfl | ⟨s, y, rfl⟩
      · rw [numW_snoc] at e
        have : numW A [] = 0 := rfl
        omega
      · rw [numW_snoc, numW_snoc] at e
        have mx : x ∈ A := hu x (by simp)
        have my : y ∈ A := hv y (by simp)
        have lx := List.idxOf_lt_length_of_mem mx
        have ly := List.idxOf_lt_length_of_mem my
        have e1 : numW A r * A.length + A.idxOf x = numW A s * A.length + A.idxOf y := by omega
        have hp : 0 < A.length := by omega
        have q1 : numW A r = numW A s := by
          have h1 : (A.idxOf x + A.length * numW A r) / A.length = numW A r := by rw [Nat.add_mul_div_left _ _ hp, Nat.div_eq_of_lt lx, Nat.zero_add]
          have h2 : (A.idxOf y + A.length * numW A s) / A.length = numW A s := by rw [Nat.add_mul_div_left _ _ hp, Nat.div_eq_of_lt ly, Nat.zero_add]
          rw [← h1, ← h2]; congr 1
          rw [Nat.mul_comm A.length, Nat.mul_comm A.length]; omega
        have q2 : A.idxOf x = A.idxOf y := by rw [q1] at e1; omega
        have q3 : x = y := by
          rw [← List.getElem_idxOf lx, ← List.getElem_idxOf ly]; simp [q2]
        rw [ih r s (by simp at hk; omega) (fun c hc => hu c (by simp [hc])) (fun c hc => hv c (by simp [hc])) q1, q3]
/-- the number of the words that are shorter -/
def gsum (m : Nat) : Nat → Nat
  | 0 => 0
  | k + 1 => gsum m k + m ^ k
theorem gsum_len {m : Nat} (h : 1 ≤ m) : ∀ k, k ≤ gsum m k
  | 0 => Nat.zero_le _
  | k + 1 => by
    have := gsum_len h k
    have hp : 1 ≤ m ^ k := Nat.one_le_pow _ _ h
    unfold gsum; omega
theorem gsum_pow {m : Nat} (h : 2 ≤ m) : ∀ k, 2 ^ k ≤ gsum m k + 1
  | 0 => by simp [gsum]
  | k + 1 => by
    have := gsum_pow h k
    have hp : 2 ^ k ≤ m ^ k := Nat.pow_le_pow_left h _
    unfold gsum; rw [Nat.pow_succ]; omega
/-- a list that is read while draws are taken from the list at d -/
def SqX (K : PySem.W.Frag) (d : Addr) (H : Hp) (s : Addr) (xs : List V) : Prop := ∀ H', Fr d H H' → SqL K H' s xs
theorem SqX.now {K : PySem.W.Frag} {d s : Addr} {H : Hp} {xs : List V} (h : SqX K d H s xs) : SqL K H s xs := h H fun _ _ h _ => h
theorem SqX.fr {K : PySem.W.Frag} {d s : Addr} {H H' : Hp} {xs : List V} (h : SqX K d H s xs) (f : Fr d H H') : SqX K d H' s xs := fun H2 f2 => h H2 fun b o e n => f2 b o (f b o e n) n
theorem Fr.upd {d : Addr} {H : Hp} {o : HO} : Fr d H (L2.upd H d o) := fun b u e n => by rw [upd_ne n]; exact e
theorem Fr.trans {d : Addr} {H H1 H2 : Hp} (f : Fr d H H1) (g : Fr d H1 H2) : Fr d H H2 := fun b o e n => g b o (f b o e n) n
theorem Fr.new {d p : Addr} {H : Hp} {o : HO} (n : H p = none) : Fr d H (L2.upd H p o) := fun b u e _ => by rw [upd_ne (ne_of_none e n)]; exact e
theorem Fr.same {d : Addr} {H H' : Hp} (s : Same H H') : Fr d H H' := fun b o e _ => s b o e
/-- a list that stood before the draws were made -/
theorem SqX.of {K : PySem.W.Frag} {d s : Addr} {H0 H : Hp} {xs : List V} (h : SqL K H0 s xs) (n : H0 d = none) (f : Fr d H0 H) : SqX K d H s xs := fun H2 f2 => by
  rcases h with (h | ⟨g, h⟩) | h
  · exact .inl (.inl (f2 _ _ (f _ _ h (ne_of_none h n)) (ne_of_none h n)))
  · exact .inl (.inr ⟨g, f2 _ _ (f _ _ h (ne_of_none h n)) (ne_of_none h n)⟩)
  · exact .inr h
end G
set_option maxHeartbeats 4000000
/-! Rows of words: all words of a length, all words up to one; their numbers and their order. -/
namespace G
open PySem PySem.Spec PyProof.Rows L2
/-- text * n -/
theorem op_mul_str {X : Cx} : OpR X (binaryOp .Mult) (fun x y H Q => ∃ (z : Str) (n : Int), x = .str z ∧ y = .int n ∧ 0 ≤ n ∧ n ≤ 10000 ∧ z.length ≤ 1000 ∧ Q (.str (Txt.mul z n)) H) := by
  intro pins s σ H x y v u Q I rx ry h
  obtain ⟨z, n, rfl, rfl, h0, h1, hz, q⟩ := h
  obtain ⟨t, rfl⟩ := rx
  obtain ⟨t', rfl⟩ := ry
  refine SB.mul ⟨?_, fun _ _ => ?_, fun hn _ => ?_⟩ fun t2 k => ⟨.str _, H, I.tok k, ⟨t2, rfl⟩, q⟩
  · rw [decide_eq_false (by omega), decide_eq_false (by omega)]; rfl
  · rename_i hn _
    have e3 : (2 ^ 63 - 1 : Int) = 9223372036854775807 := by decide
    rw [e3]
    have h2 := Int.lt_ediv_add_one_mul_self (9223372036854775807 : Int) (show 0 < n by omega)
    intro hz2
    have h4 : ((9223372036854775807 : Int) / n + 1) ≤ 1000 := by omega
    have h5 : ((9223372036854775807 : Int) / n + 1) * n ≤ 1000 * n := Int.mul_le_mul_of_nonneg_right h4 (by omega)
    omega
  · unfold Builtin.Str.tooLong
    have : z.length * n.toNat ≤ 1000 * 10000 := Nat.mul_le_mul hz (by omega)
    have e : (10000000 : Nat) ≤ sizeLine := by decide
    simp; omega
abbrev wds (ws : List (List Nat)) : List V := ws.map fun w => V.str (S w)
def lev (A : List Nat) : Nat → List (List Nat)
  | 0 => [[]]
  | k + 1 => (lev A k).flatMap fun w => A.map fun c => w ++ [c]
def upto (A : List Nat) : Nat → List (List Nat)
  | 0 => []
  | k + 1 => upto A k ++ lev A k
theorem lev_spec (A : List Nat) : ∀ k, ∀ w ∈ lev A k, w.length = k ∧ Ov A w
  | 0, w, h => by rw [List.mem_singleton.mp h]; exact ⟨rfl, fun c hc => by cases hc⟩
  | k + 1, w, h => by
    obtain ⟨v, hv, hw⟩ := List.mem_flatMap.mp h
    obtain ⟨c, hc, rfl⟩ := List.mem_map.mp hw
    obtain ⟨h1, h2⟩ := lev_spec A k v hv
    refine ⟨by simp [h1], fun d hd => ?_⟩
    rcases List.mem_append.mp hd with h | h
    · exact h2 d h
    · rw [List.mem_singleton.mp h]; exact hc
theorem gsum_step (m : Nat) : ∀ k, gsum m (k + 1) = gsum m k * m + 1
  | 0 => by simp [gsum]
  | k + 1 => by
    have ih := gsum_step m k
    have e1 : gsum m (k + 1 + 1) = gsum m (k + 1) + m ^ (k + 1) := rfl
    have e2 : gsum m (k + 1) = gsum m k + m ^ k := rfl
    rw [e1, ih, ← ih, e2, Nat.add_mul, Nat.pow_succ]
    have : gsum m k + m ^ k = gsum m k * m + 1 := by rw [← e2]; exact ih
    omega
theorem range_blocks (m g : Nat) (n : Nat) : (List.range n).flatMap (fun i => (List.range m).map fun d => (g + i) * m + (d + 1)) = (List.range (n * m)).map fun j => g * m + 1 + j := by
  induction n with
  | zero => simp
  | succ n ih =>
    rw [List.range_succ, List.flatMap_append, ih, Nat.succ_mul, List.range_add, List.map_append]
    congr 1
    simp only [List.flatMap_cons, List.flatMap_nil, List.append_nil, List.map_map]
    refine List.map_congr_left fun d _ => ?_
    show (g + n) * m + (d + 1) = g * m + 1 + (n * m + d)
    rw [Nat.add_mul]; omega
theorem idx_map {A : List Nat} (h : A.Nodup) : A.map (fun c => A.idxOf c) = List.range A.length := by
  apply List.ext_getElem?
  intro j
  by_cases hj : j < A.length
  · rw [List.getElem?_map, List.getElem?_eq_getElem hj, List.getElem?_range hj]
    show some (A.idxOf A[j]) = some j
    rw [idx_get h hj]
  · rw [List.getElem?_eq_none (by rw [List.length_map]; omega), List.getElem?_eq_none (by rw [List.length_range]; omega)]
theorem lev_nums {A : List Nat} (h : A.Nodup) : ∀ k, (lev A k).map (numW A) = (List.range (A.length ^ k)).map fun j => gsum A.length k + j
  | 0 => by simp [lev, gsum, numW]
  | k + 1 => by
    have ih := lev_nums h k
    have e1 : (lev A (k + 1)).map (numW A) = ((lev A k).map (numW A)).flatMap fun x => (List.range A.length).map fun d => x * A.length + (d + 1) := by
      show ((lev A k).flatMap fun w => A.map fun c => w ++ [c]).map (numW A) = _
      rw [List.map_flatMap, List.flatMap_map]
      congr 1
      funext w
      rw [List.map_map, ← idx_map h, List.map_map]
      refine List.map_congr_left fun c _ => ?_
      show numW A (w ++ [c]) = numW A w * A.length + (A.idxOf c + 1)
      exact numW_snoc A w c
    rw [e1, ih, List.flatMap_map]
    show (List.range (A.length ^ k)).flatMap (fun i => (List.range A.length).map fun d => (gsum A.length k + i) * A.length + (d + 1)) = _
    rw [range_blocks, gsum_step, Nat.pow_succ]
theorem upto_nums {A : List Nat} (h : A.Nodup) : ∀ k, (upto A k).map (numW A) = List.range (gsum A.length k)
  | 0 => rfl
  | k + 1 => by
    unfold upto
    rw [List.map_append, upto_nums h k, lev_nums h k, show gsum A.length (k + 1) = gsum A.length k + A.length ^ k from rfl, List.range_add]
theorem upto_len {A : List Nat} (h : A.Nodup) (k : Nat) : (upto A k).length = gsum A.length k := by
  have := congrArg List.length (upto_nums h k)
  rw [List.length_map, List.length_range] at this
  exact this
theorem upto_num {A : List Nat} (h : A.Nodup) {k j : Nat} {w : List Nat} (e : (upto A k)[j]? = some w) : numW A w = j := by
  have h1 := congrArg (fun l => l[j]?) (upto_nums h k)
  simp only [List.getElem?_map, e] at h1
  have hj : j < gsum A.length k := by rw [← upto_len h k]; exact (List.getElem?_eq_some_iff.mp e).1
  rw [List.getElem?_range hj] at h1
  exact Option.some.inj h1
theorem upto_spec (A : List Nat) : ∀ k, ∀ w ∈ upto A k, w.length < k ∧ Ov A w
  | 0, w, h => by cases h
  | k + 1, w, h => by
    rcases List.mem_append.mp h with h | h
    · have := upto_spec A k w h; exact ⟨by omega, this.2⟩
    · have := lev_spec A k w h; exact ⟨by omega, this.2⟩
/-! ### order and numbers -/
theorem num_lo {A : List Nat} : ∀ w : List Nat, gsum A.length w.length ≤ numW A w
  | [] => Nat.zero_le _
  | c :: w => by
    have ih := num_lo (A := A) w
    rw [numW_cons, List.length_cons, show gsum A.length (w.length + 1) = gsum A.length w.length + A.length ^ w.length from rfl]
    have : A.length ^ w.length ≤ (A.idxOf c + 1) * A.length ^ w.length := Nat.le_mul_of_pos_left _ (by omega)
    omega
theorem num_hi {A : List Nat} : ∀ w : List Nat, Ov A w → numW A w < gsum A.length w.length + A.length ^ w.length
  | [], _ => by simp [numW, gsum]
  | c :: w, h => by
    have ih := num_hi (A := A) w fun d hd => h d (List.mem_cons_of_mem _ hd)
    have hc := List.idxOf_lt_length_of_mem (h c List.mem_cons_self)
    rw [numW_cons, List.length_cons, show gsum A.length (w.length + 1) = gsum A.length w.length + A.length ^ w.length from rfl, Nat.pow_succ]
    have : (A.idxOf c + 1) * A.length ^ w.length ≤ A.length * A.length ^ w.length := Nat.mul_le_mul_right _ hc
    rw [Nat.mul_comm (A.length ^ w.length) A.length]
    omega
theorem gsum_mono {m i j : Nat} (h : i ≤ j) : gsum m i ≤ gsum m j := by
  induction j with
  | zero => have : i = 0 := by omega
            subst this; exact Nat.le_refl _
  | succ j ih =>
    by_cases e : i = j + 1
    · subst e; exact Nat.le_refl _
    · have := ih (by omega)
      show gsum m i ≤ gsum m j + m ^ j
      omega
theorem cmp_num {A : List Nat} (hA : A.Pairwise (· < ·)) : ∀ l r : List Nat, l.length = r.length → Ov A l → Ov A r → (numW A l < numW A r ↔ cmpL l r = -1)
  | [], [], _, _, _ => by simp [cmpL]
  | x :: l, y :: r, hl, h1, h2 => by
    have hl' : l.length = r.length := by simpa using hl
    have o1 : Ov A l := fun d hd => h1 d (List.mem_cons_of_mem _ hd)
    have o2 : Ov A r := fun d hd => h2 d (List.mem_cons_of_mem _ hd)
    have ih := cmp_num hA l r hl' o1 o2
    have mx := h1 x List.mem_cons_self
    have my := h2 y List.mem_cons_self
    have a1 := num_lo (A := A) l
    have a2 := num_hi l o1
    have b1 := num_lo (A := A) r
    have b2 := num_hi r o2
    rw [numW_cons, numW_cons]
    rw [hl'] at a1 a2 ⊢
    unfold cmpL
    by_cases e : x = y
    · subst e
      rw [if_pos rfl, ← ih]; omega
    · rw [if_neg e]
      have ix := idx_lt hA mx my
      by_cases z : x < y
      · rw [if_pos z]
        have := ix.mpr z
        have h3 : (A.idxOf x + 1 + 1) * A.length ^ r.length ≤ (A.idxOf y + 1) * A.length ^ r.length := Nat.mul_le_mul_right _ (by omega)
        rw [Nat.add_mul (A.idxOf x + 1) 1, Nat.one_mul] at h3
        simp; omega
      · rw [if_neg z]
        have iy := idx_lt hA my mx
        have := iy.mpr (by omega)
        have h3 : (A.idxOf y + 1 + 1) * A.length ^ r.length ≤ (A.idxOf x + 1) * A.length ^ r.length := Nat.mul_le_mul_right _ (by omega)
        rw [Nat.add_mul (A.idxOf y + 1) 1, Nat.one_mul] at h3
        simp; omega
theorem ord_num {A : List Nat} (hA : A.Pairwise (· < ·)) {l r : List Nat} (h1 : Ov A l) (h2 : Ov A r) : numW A l < numW A r ↔ ordW l r = -1 := by
  unfold ordW
  by_cases e : l.length = r.length
  · rw [if_pos e]; exact cmp_num hA l r e h1 h2
  · rw [if_neg e]
    have a1 := num_lo (A := A) l
    have a2 := num_hi l h1
    have b1 := num_lo (A := A) r
    have b2 := num_hi r h2
    by_cases z : l.length < r.length
    · rw [if_pos z]
      have := gsum_mono (m := A.length) (show l.length + 1 ≤ r.length from z)
      rw [show gsum A.length (l.length + 1) = gsum A.length l.length + A.length ^ l.length from rfl] at this
      simp; omega
    · rw [if_neg z]
      have := gsum_mono (m := A.length) (show r.length + 1 ≤ l.length by omega)
      rw [show gsum A.length (r.length + 1) = gsum A.length r.length + A.length ^ r.length from rfl] at this
      simp; omega
theorem num_rep {A : List Nat} {c : Nat} (h : A.idxOf c = 0) : ∀ n, numW A (List.replicate n c) = gsum A.length n
  | 0 => rfl
  | n + 1 => by
    rw [List.replicate_succ, numW_cons, h, num_rep h n, List.length_replicate]
    show _ = gsum A.length n + A.length ^ n
    omega
theorem mul_sign (c n : Nat) : Txt.mul (S [c]) (n : Int) = S (List.replicate n c) := by
  unfold Txt.mul
  by_cases h : n = 0
  · subst h; rfl
  · rw [if_neg (by omega)]
    by_cases h1 : n = 1
    · subst h1; rfl
    · have e1 : ((n : Int) == 1) = false := by simpa using (by omega : ¬ (n : Int) = 1)
      have e2 : ((S [c]).length == 0) = false := rfl
      rw [e1, e2, if_neg (by decide)]
      have go : ∀ (k : Nat) (a : Array Nat), ((List.replicate k (S [c]).cps).foldl (· ++ ·) a).toList = a.toList ++ List.replicate k c := by
        intro k
        induction k with
        | zero => intro a; simp
        | succ k ih => intro a; rw [List.replicate_succ, List.foldl_cons, ih, List.replicate_succ]; simp
      have e := go n #[]
      have e3 : ((n : Int)).toNat = n := by omega
      rw [e3]
      apply Str.ext'
      apply Array.toList_inj.mp
      simpa using e
end G
set_option maxHeartbeats 4000000
/-! Comprehensions with two for. -/
namespace G
open PySem PySem.Spec PyProof.Rows L2
def lcIn (Dl : Addr) (g1 : TG) (tt1 : TT) (te : TE) (vs1 : List Nat) (σ2 : L2.St) (Nx : Hp → Prop) : It → Hp → Prop := fun J1 H4 =>
  ∃ W1 : Nat → Nat → Hp → Prop, (∃ m, W1 0 m H4) ∧ ∀ j k H, W1 j k H →
    (J1.stop j H ∧ Nx H) ∨
    (J1.go j H ∧ ∃ N1 : Hp → Prop, (∀ H', N1 H' → ∃ k', k' < k ∧ W1 (j + 1) k' H') ∧
      ∀ x H', J1.yld j H x H' → g1 x (wipe σ2 vs1) H' fun σ3 H5 => wipe σ3 vs1 = wipe σ2 vs1 ∧ tt1 σ3 H5 fun b H6 =>
        if b = true then te σ3 H6 fun y H7 => ∃ acc, H7 Dl = some (.lst acc) ∧ acc.length < sizeLine ∧ N1 (upd H7 Dl (.lst (acc ++ [y]))) else N1 H6)
section
variable {K : PySem.W.Frag} {σ : L2.St} {H : Hp} {Q : VK} {te : TE} {tt tt1 : TT} {g g1 : TG} {wi1 : TI} {vs vs1 : List Nat} {J : It} {n : Nat} {Gd : Hp → Prop} {Y : Nat → Hp → V → Hp → Prop} {Dl : Addr} {Nx : Hp → Prop}
theorem lcIn_it (w : Walk J n Gd Y) (P : Nat → Hp → Prop) (h0 : P 0 H) (hG : ∀ i H, i ≤ n → P i H → Gd H)
    (hs : ∀ i x H1 H', i < n → P i H1 → Y i H1 x H' → g1 x (wipe σ vs1) H' fun σ3 H5 => wipe σ3 vs1 = wipe σ vs1 ∧ tt1 σ3 H5 fun b H6 =>
      if b = true then te σ3 H6 fun y H7 => ∃ acc, H7 Dl = some (.lst acc) ∧ acc.length < sizeLine ∧ P (i + 1) (upd H7 Dl (.lst (acc ++ [y]))) else P (i + 1) H6)
    (hd : ∀ H, P n H → Nx H) : lcIn Dl g1 tt1 te vs1 σ Nx J H := by
  refine ⟨fun i m H => m = n - i ∧ i ≤ n ∧ P i H, ⟨n, by simp, Nat.zero_le _, h0⟩, ?_⟩
  rintro i m H1 ⟨rfl, hi, p⟩
  have q := hG i H1 hi p
  by_cases hlt : i < n
  · exact .inr ⟨w.goes i H1 hlt q, P (i + 1), fun H' p' => ⟨n - (i + 1), by omega, rfl, hlt, p'⟩, fun x H' y => hs i x H1 H' hlt p (w.yields i H1 x H' hlt q y)⟩
  · have e : i = n := by omega
    subst e
    exact .inl ⟨w.stops _ q, hd _ p⟩
theorem lc2_it (w : Walk J n Gd Y) (W : Addr → Nat → Hp → Prop) (h0 : ∀ Dl, H Dl = none → W Dl 0 (upd H Dl (.lst []))) (hG : ∀ Dl i H, i ≤ n → W Dl i H → Gd H)
    (hs : ∀ Dl i x H1 H', i < n → W Dl i H1 → Y i H1 x H' → g x (wipe σ vs) H' fun σ2 H2 => wipe σ2 vs = wipe σ vs ∧ tt σ2 H2 fun b H3 =>
      if b = true then wi1 σ2 H3 (lcIn Dl g1 tt1 te vs1 σ2 (W Dl (i + 1))) else W Dl (i + 1) H3)
    (hd : ∀ Dl H', W Dl n H' → Q (.ref Dl) H') : tLc2 (at_ J) g tt wi1 g1 tt1 te vs vs1 σ H Q := by
  intro D hD
  refine ⟨fun i m H => m = n - i ∧ i ≤ n ∧ W D i H, ⟨n, by simp, Nat.zero_le _, h0 D hD⟩, ?_⟩
  rintro i m H1 ⟨rfl, hi, p⟩
  have q := hG D i H1 hi p
  by_cases hlt : i < n
  · exact .inr ⟨w.goes i H1 hlt q, W D (i + 1), fun H' p' => ⟨n - (i + 1), by omega, rfl, hlt, p'⟩, fun x H' y => hs D i x H1 H' hlt p (w.yields i H1 x H' hlt q y)⟩
  · have e : i = n := by omega
    subst e
    exact .inl ⟨w.stops _ q, hd D _ p⟩
theorem lc2_L {a : Addr} {xs : List V} (W : Addr → Nat → Hp → Prop) (h0 : ∀ Dl, H Dl = none → W Dl 0 (upd H Dl (.lst []))) (hl : ∀ Dl i H', i ≤ xs.length → W Dl i H' → SqL K H' a xs)
    (hs : ∀ Dl i x H', xs[i]? = some x → W Dl i H' → g x (wipe σ vs) H' fun σ2 H2 => wipe σ2 vs = wipe σ vs ∧ tt σ2 H2 fun b H3 =>
      if b = true then wi1 σ2 H3 (lcIn Dl g1 tt1 te vs1 σ2 (W Dl (i + 1))) else W Dl (i + 1) H3)
    (hd : ∀ Dl H', W Dl xs.length H' → Q (.ref Dl) H') : tLc2 (at_ (Itl K a)) g tt wi1 g1 tt1 te vs vs1 σ H Q :=
  lc2_it walk_list W h0 hl (fun Dl i x H1 H' hi p y => by
    obtain ⟨rfl, e⟩ := y
    exact hs Dl i x _ e p) hd
theorem lcIn_L {a : Addr} {xs : List V} (P : Nat → Hp → Prop) (h0 : P 0 H) (hl : ∀ i H, i ≤ xs.length → P i H → SqL K H a xs)
    (hs : ∀ i x H1, xs[i]? = some x → P i H1 → g1 x (wipe σ vs1) H1 fun σ3 H5 => wipe σ3 vs1 = wipe σ vs1 ∧ tt1 σ3 H5 fun b H6 =>
      if b = true then te σ3 H6 fun y H7 => ∃ acc, H7 Dl = some (.lst acc) ∧ acc.length < sizeLine ∧ P (i + 1) (upd H7 Dl (.lst (acc ++ [y]))) else P (i + 1) H6)
    (hd : ∀ H, P xs.length H → Nx H) : lcIn Dl g1 tt1 te vs1 σ Nx (Itl K a) H :=
  lcIn_it walk_list P h0 hl (fun i x H1 H' hi p y => by
    obtain ⟨rfl, e⟩ := y
    exact hs i x _ e p) hd
theorem lcIn_S {z : Str} (P : Nat → Hp → Prop) (h0 : P 0 H)
    (hs : ∀ i c H1, z.cps.toList[i]? = some c → P i H1 → g1 (.str ⟨#[c]⟩) (wipe σ vs1) H1 fun σ3 H5 => wipe σ3 vs1 = wipe σ vs1 ∧ tt1 σ3 H5 fun b H6 =>
      if b = true then te σ3 H6 fun y H7 => ∃ acc, H7 Dl = some (.lst acc) ∧ acc.length < sizeLine ∧ P (i + 1) (upd H7 Dl (.lst (acc ++ [y]))) else P (i + 1) H6)
    (hd : ∀ H, P z.cps.size H → Nx H) : lcIn Dl g1 tt1 te vs1 σ Nx (Its z) H :=
  lcIn_it walk_str P h0 (fun _ _ _ _ => trivial) (fun i x H1 H' hi p y => by
    obtain ⟨rfl, c, hc, rfl⟩ := y
    exact hs i c _ (by rw [Array.getElem?_toList]; exact hc) p) hd
end
end G
set_option maxHeartbeats 4000000
/-! (whole number, text) < (whole number, text) -/
namespace G
open PySem PySem.Spec PyProof.Rows L2 PySem.W
def rLtIS (K : PySem.W.Frag) : R2 := fun x y H Q => ∃ (a b : Addr) (i j : Int) (z u : Str), x = .ref a ∧ y = .ref b ∧ SqT K H a [.int i, .str z] ∧ SqT K H b [.int j, .str u] ∧
  Q (.bl (if i = j then decide (z.cps.toList < u.cps.toList) else decide (i < j))) H
theorem lt_is (i j : Int) (z u : Str) : dataLt (.tuple [.int i, .str z]) (.tuple [.int j, .str u]) = if i = j then decide (z.cps.toList < u.cps.toList) else decide (i < j) := by
  rw [dataLt_pair (by simp [alike]) (by simp [alike]), dataLt_int, dataLt_str]
  simp only [PyData.eqv, beq_iff_eq]
  by_cases e : i = j
  · rw [if_pos e, if_pos e]
    by_cases e2 : z = u
    · subst e2; simp
    · rw [if_neg e2]
  · rw [if_neg e, if_neg e]
theorem op_ltIS {X : Cx} (K : PySem.W.Frag) (hK : X.K = K) (hu : X.A.units + 64 < cLine) : OpR X (compareOp .Lt) (rLtIS K) := by
  subst hK
  intro pins s σ H x y v u Q I rx ry h
  obtain ⟨a, b, i, j, z, t, rfl, rfl, ha, hb, q⟩ := h
  obtain ⟨as, R1⟩ := Dp.reads I (.tuple [.int i, .str z]) _ _ (.tup ha (.cons (.int _) (.cons (.str _) .nil))) rx
  obtain ⟨bs, R2⟩ := Dp.reads I (.tuple [.int j, .str t]) _ _ (.tup hb (.cons (.int _) (.cons (.str _) .nil))) ry
  have h := rcLt_alike (.tuple [.int i, .str z]) (.tuple [.int j, .str t]) X.A s v u as bs R1 R2 (by simp [alike, alikeAll]) (fun e => by cases e) (by simp [PyData.depth, PyData.depthAll]; omega)
  rw [lt_is] at h
  exact h X.prog X.w _ _ ⟨.bl _, H, I, rfl, q⟩
end G
set_option maxHeartbeats 4000000
/-! Families: tuples that hold only tuples never change; pairs of letters; rows of steps. -/
namespace G
open PySem PySem.Spec PyProof.Rows L2
theorem at4 {xs : List V} {r : Int} {P : V → Prop} (h0 : 0 ≤ r) (h1 : r < xs.length) (hP : ∀ x ∈ xs, P x) : ∃ v, atI xs r = some v ∧ P v := by
  obtain ⟨j, rfl⟩ := Int.eq_ofNat_of_zero_le h0
  have hj : j < xs.length := by omega
  exact ⟨xs[j], atI_nat (List.getElem?_eq_getElem hj), hP _ (List.getElem_mem hj)⟩
theorem ite2i {Q : V → Prop} {k : Bool} (h1 : k = true → Q (.int 1)) (h0 : k = false → Q (.int 0)) : Q (.int (if k = true then 1 else 0)) := by
  cases k with
  | true => rw [if_pos rfl]; exact h1 rfl
  | false => rw [if_neg Bool.false_ne_true]; exact h0 rfl
/-- a block within a block -/
def relS (scope sc : Scope) : Scope := { scope with names := scope.names.map fun (n, k) => if (k == NameKind.free && sc.kind == .function && sc.names.lookup n == some .cell) then (n, NameKind.cell) else (n, k) }
theorem blkOk_in {X : Cx} {s : Shared} {H : Hp} {scope0 scope sc : Scope} {cl : List (Str × Addr)} {C : Addr} {fp : List Addr} {N : List Str} {own : List (Str × Nat)} (hN : X.N = N) (hk : X.env.scope = sc) (h : blkC N (relS scope0 sc) scope own = true) :
    BlkOk (X.blk s H scope0 (compEnvC scope0 cl C X.env) fp).N (X.blk s H scope0 (compEnvC scope0 cl C X.env) fp).env.scope scope own := by
  subst hN hk
  have q := blkOk_by h
  exact q
/-- all that is not a list stays -/
def TK (H H' : Hp) : Prop := ∀ b o, H b = some o → (∀ ys, o ≠ .lst ys) → H' b = some o
section
variable {K : PySem.W.Frag} {H H' H2 : Hp} {a p : Addr} {xs ys : List V} {o : HO}
theorem TK.refl (H : Hp) : TK H H := fun _ _ h _ => h
theorem TK.trans (h : TK H H') (k : TK H' H2) : TK H H2 := fun b o e n => k b o (h b o e n) n
theorem TK.new (h : H p = none) : TK H (upd H p o) := fun b u e n => by
  rw [upd_ne]
  · exact e
  · intro z; subst z; rw [h] at e; cases e
theorem TK.chg (h : H p = some (.lst xs)) : TK H (upd H p o) := fun b u e n => by
  rw [upd_ne]
  · exact e
  · intro z; subst z; rw [h] at e; exact absurd (Option.some.inj e).symm (n xs)
theorem TK.same (h : Same H H') : TK H H' := fun b o e _ => h b o e
theorem TK.fr (h : H a = some (.lst xs)) (f : Fr a H H') : TK H H' := fun b u e n => f b u e (by
  intro z; subst z; rw [h] at e; exact absurd (Option.some.inj e).symm (n xs))
theorem Ow.tk {M : List Addr} {L : List (Addr × HO)} (O : Ow H M H' L) : TK H H' := fun b u e n => O.fr b u e (O.notM e n)
theorem TK.seqT (k : TK H H') (h : SqT K H a xs) : SqT K H' a xs := by
  rcases h with (h | ⟨f, h⟩) | h
  · exact .inl (.inl (k _ _ h (by intro ys e; cases e)))
  · exact .inl (.inr ⟨f, k _ _ h (by intro ys e; cases e)⟩)
  · exact .inr h
mutual
def tupO : PyData → Bool
  | .list _ => false
  | .dict _ => false
  | .tuple ds => tupOs ds
  | _ => true
def tupOs : List PyData → Bool
  | [] => true
  | d :: ds => tupO d && tupOs ds
end
mutual
theorem dp_tk (k : TK H H') : ∀ (d : PyData) (v : V), tupO d = true → Dp K H v d → Dp K H' v d
  | .none, _, _, h => by cases h; exact .non
  | .bool b, _, _, h => by cases h; exact .bl b
  | .int i, _, _, h => by cases h; exact .int i
  | .str x, _, _, h => by cases h; exact .str x
  | .list ds, _, t, h => by simp [tupO] at t
  | .tuple ds, _, t, h => by cases h with | tup hs ha => exact .tup (k.seqT hs) (dps_tk k ds _ (by simpa [tupO] using t) ha)
  | .dict _, _, t, h => by cases h
theorem dps_tk (k : TK H H') : ∀ (ds : List PyData) (vs : List V), tupOs ds = true → DpAll K H vs ds → DpAll K H' vs ds
  | [], _, _, h => by cases h; exact .nil
  | d :: ds, _, t, h => by
    simp [tupOs] at t
    cases h with | cons h1 h2 => exact .cons (dp_tk k d _ t.1 h1) (dps_tk k ds _ t.2 h2)
end
theorem tupOs_of : ∀ {ds : List PyData}, (∀ d ∈ ds, tupO d = true) → tupOs ds = true
  | [], _ => by simp [tupOs]
  | d :: ds, h => by simp only [tupOs, Bool.and_eq_true]; exact ⟨h d List.mem_cons_self, tupOs_of fun x hx => h x (List.mem_cons_of_mem _ hx)⟩
theorem dps_app : ∀ {xs ys : List V} {ds es : List PyData}, DpAll K H xs ds → DpAll K H ys es → DpAll K H (xs ++ ys) (ds ++ es)
  | _, _, _, _, .nil, h => h
  | _, _, _, _, .cons h1 h2, h => .cons h1 (dps_app h2 h)
theorem dps_last : ∀ {xs : List V} {ds : List PyData}, DpAll K H xs ds → DpAll K H xs.dropLast ds.dropLast
  | _, _, .nil => .nil
  | _, _, .cons _ .nil => .nil
  | _, _, .cons h1 (.cons h2 h3) => .cons h1 (dps_last (.cons h2 h3))
theorem cut_last (xs : List V) : cutV xs none (some (-1)) = xs.dropLast := by
  unfold cutV
  rw [HT.sIx_none]
  have e : HT.sIx xs.length xs.length (some (-1)) = xs.length - 1 := by
    unfold HT.sIx
    dsimp only
    rw [if_pos (by decide)]; omega
  rw [e, List.drop_zero, Nat.sub_zero, List.dropLast_eq_take]
/-! rows of numbers -/
abbrev ivs (r : List Nat) : List V := r.map fun x : Nat => V.int (x : Int)
def rowD (r : List Nat) : PyData := .tuple (r.map fun x : Nat => PyData.int (x : Int))
theorem dps_ivs : ∀ r : List Nat, DpAll K H (ivs r) (r.map fun x : Nat => PyData.int (x : Int))
  | [] => .nil
  | x :: r => .cons (.int _) (dps_ivs r)
theorem dps_ivs_eq : ∀ {r : List Nat} {xs : List V}, DpAll K H xs (r.map fun x : Nat => PyData.int (x : Int)) → xs = ivs r
  | [], _, h => by cases h; rfl
  | x :: r, _, h => by
    cases h with | cons h1 h2 =>
    cases h1
    rw [dps_ivs_eq h2]; rfl
theorem row_mk {r : List Nat} (h : SqT K H a (ivs r)) : Dp K H (.ref a) (rowD r) := .tup h (dps_ivs r)
theorem row_un {r : List Nat} {v : V} (h : Dp K H v (rowD r)) : ∃ m, v = .ref m ∧ SqT K H m (ivs r) := by
  unfold rowD at h
  cases h with | tup hs ha => exact ⟨_, rfl, dps_ivs_eq ha ▸ hs⟩
theorem row_tup (r : List Nat) : tupO (rowD r) = true := by
  unfold rowD
  simp only [tupO]
  exact tupOs_of fun d hd => by obtain ⟨x, _, rfl⟩ := List.mem_map.mp hd; simp [tupO]
/-! families -/
structure Fam where
  nm : List Nat
  th : List Nat
  st : Nat
  mr : List Nat
  sp : List (List Nat)
def MkR (r : List Nat) (j : Nat) : Prop := r.length ≤ j ∧ (∀ x ∈ r, x < j) ∧ r.Pairwise (· < ·)
theorem MkR.nil : MkR [] 0 := ⟨Nat.le_refl _, by simp, List.Pairwise.nil⟩
theorem MkR.skip {r : List Nat} {j : Nat} (h : MkR r j) : MkR r (j + 1) := ⟨Nat.le_succ_of_le h.1, fun x hx => Nat.lt_succ_of_lt (h.2.1 x hx), h.2.2⟩
theorem MkR.snoc {r : List Nat} {j : Nat} (h : MkR r j) : MkR (r ++ [j]) (j + 1) := by
  refine ⟨by rw [List.length_append, List.length_singleton]; exact Nat.succ_le_succ h.1, fun x hx => ?_, ?_⟩
  · rcases List.mem_append.mp hx with z | z
    · exact Nat.lt_succ_of_lt (h.2.1 x z)
    · rw [List.mem_singleton.mp z]; exact Nat.lt_succ_self _
  · refine List.pairwise_append.mpr ⟨h.2.2, List.pairwise_singleton _ _, fun x hx y hy => ?_⟩
    rw [List.mem_singleton.mp hy]; exact h.2.1 x hx
structure Fam.Ok (F : Fam) : Prop where
  an : Al F.nm
  at_ : Al F.th
  st : F.st < F.sp.length
  le : F.sp.length ≤ 10
  ml : F.mr.length ≤ 10
  ms : (∀ x ∈ F.mr, x < F.sp.length) ∧ F.mr.Pairwise (· < ·)
  row : ∀ r ∈ F.sp, r.length = (F.nm.length + 1) * (F.th.length + 1) - 1 ∧ ∀ x ∈ r, x < F.sp.length
def Fam.D (F : Fam) : PyData := .tuple [.str (S F.nm), .str (S F.th), .int (F.st : Int), rowD F.mr, .tuple (F.sp.map rowD)]
theorem rows_tup (rs : List (List Nat)) : tupOs (rs.map rowD) = true := tupOs_of fun d hd => by obtain ⟨x, _, rfl⟩ := List.mem_map.mp hd; exact row_tup x
theorem Fam.tup (F : Fam) : tupO F.D = true := by
  unfold Fam.D
  simp only [tupO, tupOs, row_tup, rows_tup, Bool.and_self]
theorem fam_mk {F : Fam} {f m t : Addr} {rs : List V} (h : SqT K H f [.str (S F.nm), .str (S F.th), .int (F.st : Int), .ref m, .ref t]) (h1 : SqT K H m (ivs F.mr)) (h2 : SqT K H t rs) (h3 : DpAll K H rs (F.sp.map rowD)) : Dp K H (.ref f) F.D :=
  .tup h (.cons (.str _) (.cons (.str _) (.cons (.int _) (.cons (row_mk h1) (.cons (.tup h2 h3) .nil)))))
theorem fam_un {F : Fam} {v : V} (h : Dp K H v F.D) : ∃ f m t rs, v = .ref f ∧ SqT K H f [.str (S F.nm), .str (S F.th), .int (F.st : Int), .ref m, .ref t] ∧ SqT K H m (ivs F.mr) ∧ SqT K H t rs ∧ DpAll K H rs (F.sp.map rowD) := by
  unfold Fam.D at h
  cases h with | tup hs ha =>
  cases ha with | cons a1 ha =>
  cases ha with | cons a2 ha =>
  cases ha with | cons a3 ha =>
  cases ha with | cons a4 ha =>
  cases ha with | cons a5 ha =>
  cases ha
  cases a1; cases a2; cases a3
  obtain ⟨m, rfl, hm⟩ := row_un a4
  cases a5 with | tup h5 h6 => exact ⟨_, m, _, _, rfl, hs, hm, h5, h6⟩
/-! columns -/
def lf (A : List Nat) : List (List Nat) := A.map (fun c => [c]) ++ [[]]
def pairD (l r : List Nat) : PyData := .tuple [.str (S l), .str (S r)]
def prodD (L R : List (List Nat)) : List PyData := L.flatMap fun l => R.map fun r => pairD l r
def colsD (A B : List Nat) : List PyData := (prodD (lf A) (lf B)).dropLast
theorem lf_len (A : List Nat) : (lf A).length = A.length + 1 := by simp [lf]
theorem lf_V (A : List Nat) : ((S A).cps.toList.map fun c => V.str ⟨#[c]⟩) ++ [V.str (PySem.Str.ofString "")] = wds (lf A) := by
  unfold lf wds
  rw [List.map_append, List.map_map]
  rfl
theorem pair_tup (l r : List Nat) : tupO (pairD l r) = true := by simp [pairD, tupO, tupOs]
theorem prod_tup (L R : List (List Nat)) : tupOs (prodD L R) = true := tupOs_of fun d hd => by
  obtain ⟨l, _, h⟩ := List.mem_flatMap.mp hd
  obtain ⟨r, _, rfl⟩ := List.mem_map.mp h
  exact pair_tup l r
theorem tupOs_app : ∀ {ds es : List PyData}, tupOs ds = true → tupOs es = true → tupOs (ds ++ es) = true
  | [], _, _, h => h
  | d :: ds, es, h, k => by
    simp only [List.cons_append, tupOs, Bool.and_eq_true] at h ⊢
    exact ⟨h.1, tupOs_app h.2 k⟩
theorem prod_len (R : List (List Nat)) : ∀ L : List (List Nat), (prodD L R).length = L.length * R.length
  | [] => by simp [prodD]
  | l :: L => by
    have ih := prod_len R L
    have e : prodD (l :: L) R = (R.map fun r => pairD l r) ++ prodD L R := rfl
    rw [e, List.length_append, ih, List.length_map, List.length_cons, Nat.add_mul]; omega
theorem cols_len (A B : List Nat) : (colsD A B).length = (A.length + 1) * (B.length + 1) - 1 := by
  unfold colsD
  rw [List.length_dropLast, prod_len, lf_len, lf_len]
theorem cols_tup (A B : List Nat) : tupOs (colsD A B) = true := tupOs_of fun d hd => by
  have hd := (List.dropLast_sublist _).mem hd
  obtain ⟨l, _, h⟩ := List.mem_flatMap.mp hd
  obtain ⟨r, _, rfl⟩ := List.mem_map.mp h
  exact pair_tup l r
theorem fit_cols {n : Nat} {A B : List Nat} (hA : A.length ≤ 3) (hB : B.length ≤ 3) : Fit (n + 2) (.tuple (colsD A B)) := by
  refine .tup ?_ fun d hd => ?_
  · rw [cols_len]
    have : (A.length + 1) * (B.length + 1) ≤ 4 * 4 := Nat.mul_le_mul (by omega) (by omega)
    omega
  · have hd := (List.dropLast_sublist _).mem hd
    obtain ⟨l, _, h⟩ := List.mem_flatMap.mp hd
    obtain ⟨r, _, rfl⟩ := List.mem_map.mp h
    refine .tup (by simp) fun d hd => ?_
    simp only [List.mem_cons, List.not_mem_nil, or_false] at hd
    rcases hd with rfl | rfl
    · exact .str _ _
    · exact .str _ _
theorem mem_wds {ws : List (List Nat)} {i : Nat} {x : V} (h : (wds ws)[i]? = some x) : ∃ u, ws[i]? = some u ∧ x = .str (S u) := by
  rw [List.getElem?_map] at h
  cases e : ws[i]? with
  | none => rw [e] at h; cases h
  | some u => rw [e] at h; exact ⟨u, rfl, (Option.some.inj h).symm⟩
theorem prod_snoc {L R : List (List Nat)} {i : Nat} {u : List Nat} (h : L[i]? = some u) : prodD (L.take (i + 1)) R = prodD (L.take i) R ++ R.map fun r => pairD u r := by
  rw [take_snoc h]; simp [prodD]
theorem lf_small {A : List Nat} (h : A.length ≤ 3) : (lf A).length ≤ 4 := by rw [lf_len]; omega
theorem lc_row {σ : L2.St} {Q : VK} {te : TE} {vs : List Nat} {k b : Nat} {L : Addr} (hl : SqL K H L xs) (hz : xs.length ≤ 1000)
    (hs : ∀ (i : Nat) (x : V) (H' : Hp) (P : VK), xs[i]? = some x → Same H H' → (∀ n : Nat, n < b → P (.int (n : Int)) H') → te ((wipe σ vs).set k (some x)) H' P)
    (hw : ∀ x, wipe ((wipe σ vs).set k (some x)) vs = wipe σ vs)
    (hd : ∀ (H' : Hp) (Dl : Addr) (r : List Nat), Same H H' → H Dl = none → H' Dl = some (.lst (ivs r)) → r.length = xs.length → (∀ n ∈ r, n < b) → Q (.ref Dl) H') : tLc (at_ (Itl K L)) (gName k) tYes te vs σ H Q := by
  refine lc_L (fun Dl i H' => ∃ r : List Nat, r.length = i ∧ (∀ n ∈ r, n < b) ∧ H Dl = none ∧ Ow H [] H' [(Dl, .lst (ivs r))]) (fun Dl hD => ⟨[], rfl, by simp, hD, Ow.start0.new hD⟩) (fun Dl i H' _ h => by obtain ⟨_, _, _, _, O⟩ := h; exact O.seqL hl (by simp)) (fun Dl i x H' hx h => ?_) (fun Dl H' h => ?_)
  · obtain ⟨r, hr, hb, hn, O⟩ := h
    have hi := (List.getElem?_eq_some_iff.mp hx).1
    refine w_gname ⟨hw x, ?_⟩
    refine w_yes ?_
    refine iteT ?_
    refine hs i x H' _ hx (fun b o h => O.fr b o h (by simp)) fun n hnb => ?_
    refine ⟨_, O.get 0 rfl, szlt (by rw [List.length_map]; omega), r ++ [n], by simp; omega, ?_, hn, ?_⟩
    · intro y hy
      rcases List.mem_append.mp hy with h | h
      · exact hb y h
      · rw [List.mem_singleton.mp h]; exact hnb
    · have e : ivs (r ++ [n]) = ivs r ++ [.int (n : Int)] := by simp [ivs]
      rw [e]; exact O.set 0 rfl
  · obtain ⟨r, hr, hb, hn, O⟩ := h
    exact hd H' Dl r (fun b o h => O.fr b o h (by simp)) hn (O.get 0 rfl) hr hb
theorem col_at {A B : List Nat} {i : Nat} {x : V} (h : DpAll K H xs (colsD A B)) (hx : xs[i]? = some x) : ∃ p l r, x = .ref p ∧ SqT K H p [.str (S l), .str (S r)] := by
  have hi : i < (colsD A B).length := by rw [← dps_len h]; exact (List.getElem?_eq_some_iff.mp hx).1
  obtain ⟨v, hv, hd⟩ := dps_get h (List.getElem?_eq_getElem hi)
  rw [hx] at hv
  cases hv
  have hm := (List.dropLast_sublist _).mem (List.getElem_mem hi)
  obtain ⟨l, _, h2⟩ := List.mem_flatMap.mp hm
  obtain ⟨r, _, e⟩ := List.mem_map.mp h2
  change Dp K H x ((colsD A B)[i]) at hd
  have e' : (colsD A B)[i] = pairD l r := e.symm
  rw [e'] at hd
  unfold pairD at hd
  cases hd with | tup hs ha =>
  cases ha with | cons a1 ha =>
  cases ha with | cons a2 ha =>
  cases ha
  cases a1; cases a2
  exact ⟨_, l, r, rfl, hs⟩
theorem lf_at {A : List Nat} {k : Nat} (h : k ≤ A.length) : (lf A)[k]? = some ((A.drop k).take 1) := by
  unfold lf
  by_cases e : k < A.length
  · rw [List.getElem?_append_left (by simpa using e), List.getElem?_map, List.getElem?_eq_getElem e, List.drop_eq_getElem_cons e]; rfl
  · have e : k = A.length := by omega
    subst e
    rw [List.getElem?_append_right (by simp), List.drop_length]; simp
def kp (l r : List Nat) : Bool := decide (l ≠ []) || decide (r ≠ [])
def dD (L R : List (List Nat)) : List PyData := L.flatMap fun l => (R.filter (kp l)).map fun r => pairD l r
theorem dD_snoc {L R : List (List Nat)} {i : Nat} {u : List Nat} (h : L[i]? = some u) : dD (L.take (i + 1)) R = dD (L.take i) R ++ (R.filter (kp u)).map fun r => pairD u r := by
  rw [take_snoc h]; simp [dD]
theorem dD_eq (A B : List Nat) : dD (lf A) (lf B) = colsD A B := by
  have h1 : ∀ (A : List Nat) (R : List (List Nat)), dD (A.map fun c => [c]) R = prodD (A.map fun c => [c]) R := by
    intro A R
    induction A with
    | nil => rfl
    | cons c A ih =>
      have e1 : dD ((c :: A).map fun c => [c]) R = ((R.filter (kp [c])).map fun r => pairD [c] r) ++ dD (A.map fun c => [c]) R := rfl
      have e2 : prodD ((c :: A).map fun c => [c]) R = (R.map fun r => pairD [c] r) ++ prodD (A.map fun c => [c]) R := rfl
      rw [e1, e2, ih, List.filter_eq_self.mpr (fun r _ => by simp [kp])]
  have h2 : (lf B).filter (kp []) = B.map fun c => [c] := by
    unfold lf
    rw [List.filter_append, List.filter_eq_self.mpr (fun r hr => by obtain ⟨c, _, rfl⟩ := List.mem_map.mp hr; simp [kp])]
    simp [kp]
  unfold colsD
  have e1 : dD (lf A) (lf B) = dD (A.map fun c => [c]) (lf B) ++ ((lf B).filter (kp [])).map fun r => pairD [] r := by
    show dD (A.map (fun c => [c]) ++ [[]]) (lf B) = _
    simp [dD]
  have e2 : prodD (lf A) (lf B) = (prodD (A.map fun c => [c]) (lf B) ++ (B.map fun c => [c]).map fun r => pairD [] r) ++ [pairD [] []] := by
    have : prodD (lf A) (lf B) = prodD (A.map fun c => [c]) (lf B) ++ (lf B).map fun r => pairD [] r := by
      show prodD (A.map (fun c => [c]) ++ [[]]) (lf B) = _
      simp [prodD]
    rw [this, List.append_assoc]
    congr 1
    show ((B.map fun c => [c]) ++ [[]]).map _ = _
    rw [List.map_append]; rfl
  rw [e1, e2, h1, h2, List.dropLast_concat]
theorem dD_len (R : List (List Nat)) : ∀ L : List (List Nat), (dD L R).length ≤ L.length * R.length
  | [] => by simp [dD]
  | l :: L => by
    have ih := dD_len R L
    have e : dD (l :: L) R = ((R.filter (kp l)).map fun r => pairD l r) ++ dD L R := rfl
    have := List.length_filter_le (kp l) R
    rw [e, List.length_append, List.length_map, List.length_cons, Nat.add_mul]; omega
theorem pm_tup (u : List Nat) (R : List (List Nat)) : tupOs (R.map fun r => pairD u r) = true := tupOs_of fun d hd => by obtain ⟨x, _, rfl⟩ := List.mem_map.mp hd; exact pair_tup _ _
theorem dD_tup (L R : List (List Nat)) : tupOs (dD L R) = true := tupOs_of fun d hd => by
  obtain ⟨l, _, h⟩ := List.mem_flatMap.mp hd
  obtain ⟨r, _, rfl⟩ := List.mem_map.mp h
  exact pair_tup l r
theorem emptyS (l : List Nat) : (!decide (S l = PySem.Str.ofString "")) = decide (l ≠ []) := by
  have : (S l = PySem.Str.ofString "") ↔ l = [] := ⟨fun z => S_inj z, fun z => by rw [z]; rfl⟩
  by_cases e : l = []
  · rw [decide_eq_true (this.mpr e), decide_eq_false (by simpa using e)]; rfl
  · rw [decide_eq_false (fun z => e (this.mp z)), decide_eq_true e]; rfl
theorem sl_at (A : List Nat) (i : Nat) : cutS (S A) (some ((0 : Int) + (i : Int))) (some ((0 : Int) + (i : Int) + 1)) = S ((A.drop i).take 1) := by
  have e0 : (0 : Int) + (i : Int) = (i : Int) := Int.zero_add _
  have e1 : (i : Int) + 1 = ((i + 1 : Nat) : Int) := by omega
  rw [e0, e1, cut_mid, show i + 1 - i = 1 by omega]
theorem sl_snoc {A : List Nat} {i : Nat} (h : i ≤ A.length) : wds ((lf A).take (i + 1)) = wds ((lf A).take i) ++ [V.str (S ((A.drop i).take 1))] := by
  rw [take_snoc (lf_at h)]; simp [wds]
end
end G
set_option maxHeartbeats 4000000
/-! A family reads a pair of words. -/
namespace G
open PySem PySem.Spec PyProof.Rows L2
def pos (A : List Nat) : List Nat → Nat
  | [] => A.length
  | c :: _ => A.idxOf c
def okL (A x : List Nat) : Prop := x = [] ∨ ∃ c ∈ A, x = [c]
theorem eqV_S (u x : List Nat) : eqV (.str (S u)) (.str (S x)) = decide (u = x) := SX.S_beq_eq
theorem flat_wds (ws : List (List Nat)) : (wds ws).all flatV = true := flat_str S ws
theorem flat_ivs (r : List Nat) : (ivs r).all flatV = true := by
  induction r with
  | nil => rfl
  | cons x r ih =>
    show (flatV (.int (x : Int)) && (ivs r).all flatV) = true
    rw [ih]; rfl
theorem lf_ix {A x : List Nat} (h : okL A x) : ∃ z, (wds (lf A))[pos A x]? = some z ∧ eqV z (.str (S x)) = true ∧ ∀ (m : Nat) (z' : V), m < pos A x → (wds (lf A))[m]? = some z' → eqV z' (.str (S x)) = false := by
  have get : ∀ m, m < A.length → (wds (lf A))[m]? = (A[m]?).map fun c => V.str (S [c]) := fun m hm => by
    unfold lf wds
    rw [List.map_append, List.getElem?_append_left (by simpa using hm), List.map_map, List.getElem?_map]; rfl
  rcases h with rfl | ⟨c, hc, rfl⟩
  · refine ⟨.str (S []), ?_, by rw [eqV_S]; rfl, fun m z' hm hz => ?_⟩
    · show (wds (lf A))[A.length]? = _
      unfold lf wds
      rw [List.map_append, List.getElem?_append_right (by simp)]; simp
    · have hm : m < A.length := hm
      rw [get m hm, List.getElem?_eq_getElem hm] at hz
      have : z' = .str (S [A[m]]) := (Option.some.inj hz).symm
      rw [this, eqV_S]; simp
  · obtain ⟨h1, h2⟩ := idx_at hc
    have hl : A.idxOf c < A.length := List.idxOf_lt_length_of_mem hc
    refine ⟨.str (S [c]), ?_, by rw [eqV_S]; simp, fun m z' hm hz => ?_⟩
    · show (wds (lf A))[A.idxOf c]? = _
      rw [get _ hl, h1]; rfl
    · have hm : m < A.idxOf c := hm
      have hm2 : m < A.length := by omega
      rw [get m hm2, List.getElem?_eq_getElem hm2] at hz
      have e : z' = .str (S [A[m]]) := (Option.some.inj hz).symm
      rw [e, eqV_S]
      have := h2 m hm
      rw [List.getElem?_eq_getElem hm2] at this
      exact decide_eq_false fun q => this (by rw [(List.cons.inj q).1])
theorem sl_ok {A n : List Nat} (h : Ov A n) (k : Nat) : okL A ((n.drop k).take 1) := by
  cases e : n.drop k with
  | nil => exact .inl rfl
  | cons c r => exact .inr ⟨c, h c (List.mem_of_mem_drop (by rw [e]; exact List.mem_cons_self)), rfl⟩
theorem sl_ne {n : List Nat} {k : Nat} (h : k < n.length) : (n.drop k).take 1 ≠ [] := by
  rw [List.drop_eq_getElem_cons h]; exact fun e => by cases e
theorem pos_le {A x : List Nat} (h : okL A x) : pos A x ≤ A.length := by
  rcases h with rfl | ⟨c, hc, rfl⟩
  · exact Nat.le_refl _
  · exact Nat.le_of_lt (List.idxOf_lt_length_of_mem hc)
theorem pos_lt {A x : List Nat} (h : okL A x) (n : x ≠ []) : pos A x < A.length := by
  rcases h with rfl | ⟨c, hc, rfl⟩
  · exact absurd rfl n
  · exact List.idxOf_lt_length_of_mem hc
def stp (F : Fam) (s a b : Nat) : Nat := ((F.sp[s]?).getD []).getD (a * (F.th.length + 1) + b) 0
def run (F : Fam) (n t : List Nat) : Nat → Nat
  | 0 => F.st
  | k + 1 => stp F (run F n t k) (pos F.nm ((n.drop k).take 1)) (pos F.th ((t.drop k).take 1))
theorem stp_at {F : Fam} (hF : F.Ok) {s : Nat} (hs : s < F.sp.length) {x y : List Nat} (hx : okL F.nm x) (hy : okL F.th y) (hn : x ≠ [] ∨ y ≠ []) :
    ∃ r, F.sp[s]? = some r ∧ r[pos F.nm x * (F.th.length + 1) + pos F.th y]? = some (stp F s (pos F.nm x) (pos F.th y)) ∧ stp F s (pos F.nm x) (pos F.th y) < F.sp.length := by
  obtain ⟨h1, h2⟩ := hF.row _ (List.getElem_mem hs)
  have hi : pos F.nm x * (F.th.length + 1) + pos F.th y < (F.sp[s]).length := by
    rw [h1]
    have a1 := pos_le hx
    have b1 := pos_le hy
    have key : pos F.nm x * (F.th.length + 1) + pos F.th y + 1 < (F.nm.length + 1) * (F.th.length + 1) := by
      rcases hn with hn | hn
      · have a2 := pos_lt hx hn
        have : (pos F.nm x + 1) * (F.th.length + 1) ≤ F.nm.length * (F.th.length + 1) := Nat.mul_le_mul_right _ a2
        rw [Nat.add_mul] at this
        rw [Nat.add_mul F.nm.length]
        omega
      · have b2 := pos_lt hy hn
        have : pos F.nm x * (F.th.length + 1) ≤ F.nm.length * (F.th.length + 1) := Nat.mul_le_mul_right _ a1
        rw [Nat.add_mul F.nm.length]
        omega
    omega
  have e : stp F s (pos F.nm x) (pos F.th y) = (F.sp[s])[pos F.nm x * (F.th.length + 1) + pos F.th y] := by
    unfold stp
    rw [List.getElem?_eq_getElem hs, Option.getD_some, List.getD_eq_getElem?_getD, List.getElem?_eq_getElem hi, Option.getD_some]
  exact ⟨F.sp[s], List.getElem?_eq_getElem hs, by rw [List.getElem?_eq_getElem hi, e], by rw [e]; exact h2 _ (List.getElem_mem hi)⟩
theorem run_lt {F : Fam} (hF : F.Ok) {n t : List Nat} (hn : Ov F.nm n) (ht : Ov F.th t) : ∀ k, (k ≤ n.length ∨ k ≤ t.length) → run F n t k < F.sp.length
  | 0, _ => hF.st
  | k + 1, h => by
    have ih := run_lt hF hn ht k (by omega)
    obtain ⟨_, _, _, h3⟩ := stp_at hF ih (sl_ok hn k) (sl_ok ht k) (by
      rcases h with h | h
      · exact .inl (sl_ne h)
      · exact .inr (sl_ne h))
    exact h3
/-- a row of the steps -/
theorem fam_row {K : PySem.W.Frag} {H : Hp} {rs : List V} {sp : List (List Nat)} {s : Nat} {r : List Nat} (h : DpAll K H rs (sp.map rowD)) (e : sp[s]? = some r) : ∃ p, rs[s]? = some (.ref p) ∧ SqT K H p (ivs r) := by
  obtain ⟨v, hv, hd⟩ := dps_get h (i := s) (d := rowD r) (by rw [List.getElem?_map, e]; rfl)
  obtain ⟨m, rfl, hm⟩ := row_un hd
  exact ⟨m, hv, hm⟩
theorem sl_at' (A : List Nat) (i : Nat) : cutS (S A) (some (i : Int)) (some ((i : Int) + 1)) = S ((A.drop i).take 1) := by
  have e1 : (i : Int) + 1 = ((i + 1 : Nat) : Int) := by omega
  rw [e1, cut_mid, show i + 1 - i = 1 by omega]
theorem max_if (m n : Nat) : (if ((n : Int) > (m : Int)) then (n : Int) else (m : Int)) = ((max m n : Nat) : Int) := by
  by_cases h : n > m
  · rw [if_pos (by omega), Nat.max_eq_right (by omega)]
  · rw [if_neg (by omega), Nat.max_eq_left (by omega)]
end G
set_option maxHeartbeats 4000000
/-! all(x in y for x in text), y a captured name of the def. -/
namespace G
open PySem PySem.Spec PyProof.Rows L2 GxR
/-- a heap with more in the table at P, and more behind -/
structure Grown (P : Addr) (ps : Array Value) (h h3 : Heap) (ps' : Array Value) : Prop where
  ext : Heap.ExtBut P h h3
  sz : h.objs.size ≤ h3.objs.size
  tb : h3.get? P = some { cls := .none, data := .fields ps' }
  more : ∃ m, ps' = ps ++ m
  ok : TriplesOk ps'.toList
theorem code_any {prog : Program} {w : World} {A : Around} {E : Value → Shared → Prop} {env : Env} {s : Shared} {c P : Addr} {ps : Array Value} {gp : Pos} {qn : Str} {scope : Scope} {Q : Value → Shared → Prop} (hcode : env.code = .ref c)
    (hd : PySem.W.CodeHd s.heap c P) (hp : s.heap.get? P = some { cls := .none, data := .fields ps }) (tok : TriplesOk ps.toList)
    (k : ∀ code h3 tk ps', Grown P ps s.heap h3 ps' → Q code { s with heap := h3, toks := tk }) : wpAny (model prog w) A (genexprCode env gp qn scope) Q E s := by
  have ic := hd.code hp tok
  rcases hm : codeAmong gp ps.toList with _ | cv
  · refine wpAny_genexprCodeX hcode ic (hd.tab hp) hm ?_
    intro c2 h2 tk ext ge lt ic2 _ ta2 _
    refine k _ h2 tk _ ⟨ext, Nat.le_trans ge (Nat.le_of_lt lt), ta2.2, ⟨_, rfl⟩, ?_⟩
    obtain ⟨_, _, _, _, _, _, _, _, _, _, _, _, _, _, _, _, _, _, _, t2, _⟩ := ic2
    exact t2
  · refine wpAny_genexprCode_hit hcode ic hm ?_
    exact k cv s.heap s.toks ps ⟨Heap.ExtBut.refl _ _, Nat.le_refl _, hp, ⟨#[], by simp⟩, tok⟩
section
variable {X : Cx} {pins : List (Addr × Obj)} {σ : L2.St} {H : Hp} {s : Shared}
theorem blt_any {c P : Addr} {A : Around} {E : Value → Shared → Prop} {s3 : Shared} {Q : Addr → Shared → Prop} (TB : TabB X.base X.mg c P) (I : Inv X pins σ H s) (kp : ∀ b u, b ≠ P → s.heap.get? b = some u → s3.heap.get? b = some u) (k : Q builtinsNs s3) :
    wpAny (model X.prog X.w) A (builtinsFor X.env.globals X.env.builtins) Q E s3 := by
  obtain ⟨b, ob, q1, q2, q3, q4, q5, q6, q7, q8⟩ := TB.bm
  refine wpAny_builtinsFor (m := X.mg) ?_ q1 q2 (kp _ _ q4 (I.bk _ _ q5)) q6 q7 q8 k
  rw [I.ok.glob]
  obtain ⟨o, es, ep, e, r⟩ := I.mod.glob.keeps I.bk
  exact ⟨o, es, ep, kp _ _ TB.gP e, r⟩
/-- the element, where what stood in h (but for the table) still stands -/
def EltC (X : Cx) (h : Heap) (P : Addr) (scope : Scope) (x : Str) (elt : Expr) (pb : Nat → Bool) : Prop :=
  ∀ (e2 : Env) (A2 : Around) (E2 : Value → Shared → Prop) (d : Nat) (t : Tok) (s2 : Shared) (m : Str → Option Value), e2.scope = scope → e2.cells = cloFrom X.env.cells scope.names [] → s2.heap.Ns e2.locals m → m x = some (.str ⟨#[d]⟩ t) →
    (∀ b u, b ≠ P → h.get? b = some u → s2.heap.get? b = some u) → wpAny (model X.prog X.w) A2 (eval elt e2) (fun y s3 => y = .bool (pb d) ∧ Keeps s2 s3) E2 s2
theorem gen_cap {c P : Addr} {elt iter : Expr} {x : Str} {px gp : Pos} {scope : Scope} {pb : Nat → Bool} {te : TE} {n : Nat} {Qg : Value → Shared → Prop} {R : Str → Hp → Prop}
    (rm : Room n X.A) (TB : TabB X.base X.mg c P) (hcode : X.env.code = .ref c) (S : GenS X.env scope x) (hi : PE X iter te)
    (he : ∀ (s1 : Shared) (H1 : Hp), TabG H1 P → Inv X pins σ H1 s1 → EltC X s1.heap P scope x elt pb) (hf : ∀ v, genFold iter X.env v = pure v) (I : Inv X pins σ H s)
    (h : te σ H fun v H1 => ∃ a : Str, v = .str a ∧ TabG H1 P ∧ R a H1) (hQ : ∀ a H1 g s5, R a H1 → Ready X pins σ H1 P a pb g s5 → Qg (.ref g) s5) :
    wpAny (model X.prog X.w) X.A (eval (.GeneratorExp elt [⟨.Name x px, iter, [], 0⟩] scope gp) X.env) Qg X.xe s := by
  have dp := rm.dp
  refine wpAny_GeneratorExp_walksQ rm.hd S.co (closure_ok S.free) S.cell S.dot S.loc S.kind (by omega) ?_ hf
  refine thn (hi.run pins s σ H _ I h) fun v0 s1 ⟨v, H1, I1, rv, q⟩ => ?_
  obtain ⟨a, rfl, ⟨ps, hP, hps⟩, hR⟩ := q
  obtain ⟨t, rfl⟩ := rv
  have el := he s1 H1 ⟨ps, hP, hps⟩ I1
  refine wpAny_pyIter_str fun o St Wk st0 => ?_
  have gP := I1.hok P _ hP
  have gP : s1.heap.get? P = some { cls := .none, data := .fields ps } := gP
  have ltP : P < s1.heap.objs.size := Heap.lt_size gP
  have nl : (s1.heap.push o).NoLimit := I1.nolimit.push o
  have szp : (s1.heap.push o).objs.size = s1.heap.objs.size + 1 := Heap.size_push ..
  refine ⟨nl, code_any hcode (TB.code.keeps fun b u e => Heap.get?_push_of_some _ (I1.bk b u e)) (Heap.get?_push_of_some _ gP) hps fun code h3 tk ps' G => ?_⟩
  have kp : ∀ b u, b ≠ P → s1.heap.get? b = some u → h3.get? b = some u := fun b u nb e => G.ext b u nb (Heap.get?_push_of_some _ e)
  refine blt_any (s3 := { s1 with heap := h3, toks := tk }) TB I1 kp ?_
  have nS : cStatics ≠ P := fun z => by
    obtain ⟨_, ⟨o2, es, ep, ho, hd, _⟩, _⟩ := I1.nolimit
    rw [z, gP] at ho
    cases ho
    cases hd
  have ltS : cStatics < s1.heap.objs.size := by
    obtain ⟨_, hn, _⟩ := I1.nolimit
    exact hn.lt
  have l13 : s1.heap.objs.size < h3.objs.size := Nat.lt_of_lt_of_le (by rw [szp]; exact Nat.lt_succ_self _) G.sz
  have in1 : ∀ b : Addr, b ∈ [s1.heap.objs.size] → b = s1.heap.objs.size := fun b hb => List.mem_singleton.mp hb
  refine ⟨s1.heap.objs.size, [s1.heap.objs.size], [s1.heap.objs.size], a.cps.size, SignAt a, St, fun _ => true, fun i y => ∃ d, a.cps[i]? = some d ∧ y = .bool (pb d), rfl, Wk, ?_, ?_, nl.extBut G.ext nS, ?_, ?_, ?_⟩
  · refine (Wk X.A rm.hd).frame _ _ _ st0 fun b hb u e => G.ext b u ?_ e
    rw [in1 b hb]
    exact fun z => Nat.ne_of_lt ltP z.symm
  · intro b hb
    have z := in1 b hb
    show b < h3.objs.size
    rw [z]; exact l13
  · exact fun hm => Nat.ne_of_lt ltS (in1 _ hm)
  · intro href hh
    refine ⟨?_, ?_⟩
    · intro A2 E2 i v s2 m _ _ _ _ _
      rw [List.forIn_nil]
      exact wpAny_pure ⟨rfl, keeps_refl s2⟩
    · intro A2 E2 i v s2 m _ hv _ hn hx hk
      obtain ⟨d, u, hd, rfl⟩ := hv
      refine wpAny_mono (el _ A2 E2 d u s2 m rfl rfl hn hx fun b u2 nb e => ?_) (fun y s3 z => ⟨⟨d, hd, z.1⟩, z.2⟩) fun _ _ z => z
      have lb : (b : Nat) < s1.heap.objs.size := Heap.lt_size e
      have e3 := kp b u2 nb e
      refine hk b (List.mem_range.mpr (Heap.lt_size e3)) (fun z => ?_) u2 (hh b u2 e3)
      rw [in1 b z] at lb
      exact Nat.lt_irrefl _ lb
  · intro g h5 tk5 gs hb gt sz5 k5 W5 st5
    simp only [GxR.passing_true, List.length_range] at W5
    refine hQ a H1 g _ hR ⟨_, _, _, _, _, W5.in4_1, st5, ?_, ?_⟩
    · intro j y sj Qj Ej hy hq
      obtain ⟨i, hi, d, hd, rfl⟩ := hy
      obtain ⟨lj, ej⟩ := List.getElem?_eq_some_iff.mp hi
      rw [List.getElem_range] at ej
      cases ej
      have hq : Qj (trF pb a.cps.toList j) sj := hq
      rw [trF_some (b := d) (by rw [Array.getElem?_toList]; exact hd)] at hq
      exact wpAny_truthy_bool hq
    · intro s' mv
      obtain ⟨mr, em⟩ := G.more
      have nw : ∀ b u, s1.heap.get? b = some u → b ∉ h3.objs.size :: [s1.heap.objs.size] := fun b u e hb => by
        have lb : (b : Nat) < s1.heap.objs.size := Heap.lt_size e
        rcases List.mem_cons.mp hb with z | z
        · rw [z] at lb
          exact Nat.lt_irrefl _ (Nat.lt_trans lb l13)
        · rw [in1 b z] at lb
          exact Nat.lt_irrefl _ lb
      have J := inv_tab (more := mr) (h' := s'.heap) (g' := s'.gens) (d' := s'.drawn) (t' := s'.toks) I1 hP (fun b u nb e => mv.heap b u (nw b u e) (k5 b u (kp b u nb e))) (by rw [← em]; exact mv.heap P _ (nw P _ gP) (k5 P _ G.tb)) (AllBare.movedS (I1.bare.push hb) mv)
      rw [sh_eta s1 s' mv.os] at J
      exact ⟨_, ⟨⟨ps ++ mr, upd_same, by rw [← em]; exact G.ok⟩, fun b nb => upd_ne nb⟩, J⟩
theorem elt_in {P : Addr} {scope : Scope} {x y : Str} {j : Nat} {b : Str} {p1 p2 p3 : Pos} (hk : scope.kind = .function) (hx : scope.names.lookup x = some .local) (hy : scope.names.lookup y = some .free)
    (hfr : ∀ z ∈ scope.names, z.2 = .free → ∃ c, X.env.cells.lookup z.1 = some c) (hj : X.N[j]? = some y) (hc : X.env.kindOf y = some .cell) (hb : σ[j]? = some (some (.str b)))
    (dx : (x == ("__debug__" : Str)) = false) (dy : (y == ("__debug__" : Str)) = false) (dz : (y == ("__classdict__" : Str)) = false) (s1 : Shared) (H1 : Hp) (hT : TabG H1 P) (I1 : Inv X pins σ H1 s1) :
    EltC X s1.heap P scope x (.Compare (.Name x p1) [.In] [.Name y p2] p3) fun d => decide (d ∈ b.cps.toList) := by
  obtain ⟨m0, _, lk⟩ := I1.loc
  obtain ⟨u, ru, lk⟩ := lk j y (.str b) hj hb (.inr (.inl hc))
  obtain ⟨t, rfl⟩ := ru
  obtain ⟨c, hcl, o, ho, hod⟩ : ∃ c, X.env.cells.lookup y = some c ∧ s1.heap.IsCell c (some (.str b t)) := by
    rcases lk with ⟨z, _⟩ | ⟨_, z⟩
    · rw [hc] at z; cases z
    · exact z
  obtain ⟨ps, hP, _⟩ := hT
  have gP : s1.heap.get? P = some { cls := .none, data := .fields ps } := I1.hok P _ hP
  have cP : c ≠ P := fun z => by
    rw [z, gP] at ho
    cases ho
    cases hod
  intro e2 A2 E2 d td s2 m es ec hn hm hk2
  refine wpAny_Compare1 (wpAny_Name (wpAny_loadName_local (by rw [es]; exact hk) (show e2.scope.names.lookup x = _ by rw [es]; exact hx) hn hm ?_) dx)
  have lc : e2.cells.lookup y = some c := by
    rw [ec]
    exact NdefX.clo_has hfr (PySem.mem_of_lookup hy) hcl
  refine wpAny_Name (wpAny_loadName_free (by rw [es]; exact hk) (show e2.scope.names.lookup y = _ by rw [es]; exact hy) lc ⟨o, hk2 c o cP ho, hod⟩ ?_ dz) dy
  refine PyProof.Rows.in_str ⟨?_, keeps_refl s2⟩
  rw [PySem.StrLaws.found_one b d]
def tAllC (P : Addr) (j : Nat) (te : TE) : TE := fun σ H Q => ∃ b : Str, σ[j]? = some (some (.str b)) ∧ te σ H fun v H1 => ∃ a : Str, v = .str a ∧ TabG H1 P ∧ ∀ H2, Tabbed P H1 H2 → Q (.bl (a.cps.toList.all fun d => decide (d ∈ b.cps.toList))) H2
theorem pe_allC {c P : Addr} {iter : Expr} {x y : Str} {j : Nat} {px p pos gp p1 p2 p3 : Pos} {scope : Scope} {te : TE} {n : Nat} (rm : Room n X.A) (gl : Gl X "all") (mn : X.mg "all" = none) (bt : bootBuiltins "all" = some (.builtin "all"))
    (TB : TabB X.base X.mg c P) (hcode : X.env.code = .ref c) (hi : PE X iter te) (hk : scope.kind = .function) (hco : scope.isCoroutine = false) (hce : ∀ z ∈ scope.names, z.2 ≠ .cell) (h0 : scope.names.lookup (".0" : Str) = some NameKind.local)
    (hx : scope.names.lookup x = some .local) (hy : scope.names.lookup y = some .free) (sc : Scope) (hsc : X.env.scope = sc) (hfb : (scope.names.all fun z => decide (z.2 ≠ .free) || decide (sc.names.lookup z.1 = some .cell)) = true) (hj : X.N[j]? = some y)
    (dx : (x == ("__debug__" : Str)) = false) (dy : (y == ("__debug__" : Str)) = false) (dz : (y == ("__classdict__" : Str)) = false) (hf : ∀ v, genFold iter X.env v = pure v)
    (se : starEach [.GeneratorExp (.Compare (.Name x p1) [.In] [.Name y p2] p3) [⟨.Name x px, iter, [], 0⟩] scope gp] X.env = (false, eval (.GeneratorExp (.Compare (.Name x p1) [.In] [.Name y p2] p3) [⟨.Name x px, iter, [], 0⟩] scope gp) X.env) :: starEach [] X.env) :
    PE X (.Call (.Name "all" p) [.GeneratorExp (.Compare (.Name x p1) [.In] [.Name y p2] p3) [⟨.Name x px, iter, [], 0⟩] scope gp] [] pos) (tAllC P j te) := by
  refine ⟨fun pins s σ H Q I ⟨b, hb, h⟩ => ?_⟩
  have hfr : ∀ z ∈ scope.names, z.2 = .free → X.env.kindOf z.1 = some .cell := fun z hz e => by
    have q := List.all_eq_true.mp hfb z hz
    rw [e] at q
    show X.env.scope.names.lookup z.1 = _
    rw [hsc]
    simpa using q
  have fr : ∀ z ∈ scope.names, z.2 = .free → ∃ c, X.env.cells.lookup z.1 = some c := fun z hz e => I.ok.has z.1 (.inl (hfr z hz e))
  have cy : X.env.kindOf y = some .cell := hfr (y, .free) (PySem.mem_of_lookup hy) rfl
  refine wpAny_Call_Name_kw (ld_blt I gl mn bt (PyProof.Rows.callWith_builtin1 ?_ se (by rfl)))
  rw [se]
  refine Calls.spliced_cons (gen_cap (pb := fun d => decide (d ∈ b.cps.toList)) (R := fun a H1 => ∀ H2, Tabbed P H1 H2 → Q (.bl (a.cps.toList.all fun d => decide (d ∈ b.cps.toList))) H2) rm TB hcode ⟨hk, hco, hce, h0, hx, fr⟩ hi (elt_in hk hx hy fr hj cy hb dx dy dz) hf I h ?_)
  intro a H1 g s5 hR ⟨fp, wr, Gn, F, Sx, Wk, st, tr, mv⟩
  refine Calls.spliced_nil (call_all_walkS (Wk.self 0 _ _ _ st ⟨g, fp, wr, Gn, _, F, Sx, _, rfl, Wk, st, tr, fun s' hm => ?_⟩))
  obtain ⟨H2, hT, J⟩ := mv s' hm
  have e := all_signs a fun d => decide (d ∈ b.cps.toList)
  refine ⟨.bl _, H2, J, rfl, ?_⟩
  rw [e]; exact hR H2 hT
end
/-- a def whose code object is known -/
structure FunC (K : PySem.W.Frag) (x : Str) (st : Stmt) (f : Addr) (fd : FuncData) (c : Addr) : Prop where
  ex : ∃ (oc : Value) (od : Option Addr) (kV dc pm : Value) (an : Option Addr) (ct : Value) (sl : Array (Option Value)), fd = PySem.W.fnOf x x (defArgs st) (defBody st) (defScope st) .none kV dc pm an (.ref c) ct ∧ K.lookup f = some ⟨oc, od, .func fd, sl⟩ ∧ PySem.W.codeIn K (.ref c) x = true
theorem FunC.ok {P : Program} {w : World} {K : PySem.W.Frag} {mg : Str → Option Value} {base : Heap} {x : Str} {st : Stmt} {f c : Addr} {fd : FuncData} {N ps : List Str} {k : Nat} {sp : Sp} (F : FunC K x st f fd c) (S : FnScope N ps (defScope st)) (len : ∀ vs H Q E, sp vs H Q E → vs.length = ps.length)
    (hb : ∀ (A : Around) (outer : List Env) (s : Shared) (H : Hp) (vs : List V) (Q : VK) (E : XK), Room k (A.deeper (envOfC x (defScope st) s.heap.objs.size f (.ref c))) → sp vs H Q E →
      ∃ t, PSs (cxOf CX0 P w K mg base N x (defScope st) f (.ref c) A outer s H E).nox (defBody st) t ∧ t { nx := fun _ H' => Q .non H', rt := Q } (start N vs) H) : FnOk P w K mg base CX0 (k + 1) f fd ps sp := by
  obtain ⟨oc, od, kV, dc, pm, an, ct, sl, rfl, lk, cd⟩ := F.ex
  exact fn_of lk cd S len fun A outer s H vs Q E hr hs => (hb A outer s H vs Q E hr hs).imp fun t z => ⟨z.1.nox, z.2⟩
/-- the end of a law where one def's code table is asked -/
theorem walk_tab {l : PySem.W.OpenLaw} {n k : Nat} {q : Program} {loose : List Str} {XP : (Str → Option Value) → Heap → Prop} {YP : World → Heap → Prop} {d : DefRec} {K : Params → PySem.W.Frag} {CX : World → CXT} {x y : Str}
    (hn : l.most = some n) (hn2 : n ≤ sizeLine) (hdf : d.params.defaults = []) (hr : Room k callerA) (hY : ∀ (w : World) (h : Heap), YP w h → (K w.params).In h)
    (hy : ∃ dy, (PyProof.Rows.recsOf q).find? (fun e => e.name == y) = some dy) (ht : ∀ w : World, ∃ c Pt, PySem.W.tabIn (K w.params) y = some (c, Pt) ∧ (K w.params).lookup Pt = none)
    (F : ∀ (w : World) (mg : Str → Option Value) (fa : Addr) (h : Heap) (c Pt : Addr), PySem.W.tabIn (K w.params) y = some (c, Pt) → (K w.params).In h → h.Ns mainGlobals mg → mg d.name = some (.ref fa) →
      ∃ (fd : FuncData) (sp : Sp), (∀ (s : Shared) (u : Value), BindsTo s fd ⟨[u], []⟩ [(x, u)]) ∧ (∀ (H : Hp) (a : Addr) (ns : List Int), ns.length ≤ n → H Pt = some (.tbl #[]) → SqL (K w.params) H a (ns.map V.int) → sp [.ref a] H (fun v _ => v = .bl true) fun _ _ _ => False) ∧
        ∀ base : Heap, (K w.params).In base → base.Ns mainGlobals mg → TabB base mg c Pt → FnOk l.prog w (K w.params) mg base (CX w) k fa fd [x] sp)
    (hX : ∀ (w : World) (H : Hp) (s : Shared) (e : Value) (s' : Shared), CX w [] H s (fun _ _ _ => False) e s' → False) :
    PySem.W.WalkO q loose XP YP l.row.toRowW d [] (fun f vs => PySem.call f vs) := by
  refine Att.attach_callB hn hdf ?_
  intro w s0 s1 mg mb fa o pm cd dc a vs ns G Y _ _ _ gm ga gi gl _ gg
  have KX := hY w _ Y
  obtain ⟨c, Pt, et, nl⟩ := ht w
  obtain ⟨dy, ey⟩ := hy
  obtain ⟨hC, hP⟩ := PySem.W.tab_of G.T KX ey et
  obtain ⟨fd, sp, fb, fs, fF⟩ := F w mg fa _ c Pt et KX G.T.g gm
  have one : ∀ p ∈ [(c, Pt)], p = (c, Pt) := fun p hp => List.mem_singleton.mp hp
  exact LamX.law_callTs (cs := [(c, Pt)]) KX G.T.g G.T.b G.T.builtins G.T.nolimit gg (fun p hp => by rw [one p hp]; exact hP) (fun p hp => by rw [one p hp]; exact nl) (fun p hp => by rw [one p hp]; exact hC) G.T.bmain ga gi (Nat.le_trans gl hn2) hr
    (fun base kb nb tb => fF base kb nb (let z := tb (c, Pt) List.mem_cons_self; ⟨z.1, z.2, z.3⟩)) fb (fun H hH hS => fs H a ns gl (hH _ List.mem_cons_self) hS) fun H e s' => hX w H s1 e s'
theorem ixS_any {z : Str} {r : Int} (h0 : 0 ≤ r) (h1 : r < (z.length : Int)) : ∃ c, atI z.cps.toList r = some c := by
  obtain ⟨j, rfl⟩ := Int.eq_ofNat_of_zero_le h0
  have hj : j < z.cps.toList.length := by rw [Array.length_toList]; exact Int.ofNat_lt.mp h1
  exact ⟨_, atI_nat (List.getElem?_eq_getElem hj)⟩
theorem all_filter (l B : List Nat) : decide ((((l.filter fun c => !decide (c ∈ B)).length : Nat) : Int) = 0) = l.all fun c => decide (c ∈ B) := by
  induction l with
  | nil => rfl
  | cons c l ih =>
    rw [List.filter_cons, List.all_cons, ← ih]
    by_cases e : c ∈ B
    · rw [decide_eq_true e]; rfl
    · rw [decide_eq_false e, Bool.not_false, if_pos rfl, Bool.false_and, List.length_cons]
      exact decide_eq_false (by omega)
end G
set_option maxHeartbeats 4000000
/-! set(text), set(list of whole numbers), sorted of both. -/
namespace G
open PySem PySem.Spec PyProof.Rows L2
def strK (e : Int × Value) : Str := strOf e.2
def GoodS (w : World) (e : Int × Value) : Prop := ∃ k tk, e.2 = Value.str k tk ∧ e.1 = hashStr w k
/-- a set object with the texts of a list -/
def SetS (w : World) (h : Heap) (a : Addr) (l : List Str) : Prop :=
  ∃ (o : Obj) (es : Array (Int × Value)) (ep : Nat) (t : SetTable), h.get? a = some o ∧ o.ExactSet ∧ o.data = .set es ep t ∧ ((∀ e ∈ es.toList, GoodS w e) ∧ (es.toList.map strK).Nodup ∧ (∀ k, k ∈ l ↔ k ∈ es.toList.map strK) ∧ es.size ≤ l.length) ∧
    t.fits es.size = true ∧ Ris t.place.toList ∧ (w.params.followText "set-order" = true ∨ t.led = true)
section
variable {P : Program} {w : World} {h h' : Heap} {a : Addr} {l : List Str} {A : Around} {E : Value → Shared → Prop} {s : Shared}
theorem SetS.keep (R : SetS w h a l) (k : ∀ o, h.get? a = some o → h'.get? a = some o) : SetS w h' a l := by
  obtain ⟨o, es, ep, t, ho, r⟩ := R
  exact ⟨o, es, ep, t, k o ho, r⟩
theorem goodS_is {e : Int × Value} (g : GoodS w e) (k : Str) : (PySem.strKind P w).is k e.2 = true ↔ strK e = k := by
  obtain ⟨z, tk, e1, _⟩ := g
  unfold strK
  rw [e1]
  show ((z == k) = true) ↔ z = k
  exact beq_iff_eq
theorem goodS_els {l : List (Int × Value)} (g : ∀ e ∈ l, GoodS w e) : ElemsOf (PySem.strKind P w) l := fun e he => by
  obtain ⟨k, tk, e1, e2⟩ := g e he
  refine ⟨⟨k, ?_, e2⟩, by rw [e1]; rfl⟩
  rw [e1]
  show Value.isStrOf k (.str k tk) = true
  simp [Value.isStrOf]
/-- the end of an add: the table is stored, and laid anew if it is too full -/
theorem setS_tail {gv : Bool → Sem Unit} (hg : ∀ (b : Bool) (s2 : Shared) (Q2 : Unit → Shared → Prop), Q2 () s2 → wpAny (model P w) A (gv b) Q2 E s2)
    {o : Obj} {es fs : Array (Int × Value)} {ep : Nat} {t t2 : SetTable} (ho : s.heap.get? a = some o) (hx : o.ExactSet) (hd : o.data = .set es ep t)
    (G1 : (∀ e ∈ fs.toList, GoodS w e) ∧ (fs.toList.map strK).Nodup ∧ (∀ k, k ∈ l ↔ k ∈ fs.toList.map strK) ∧ fs.size ≤ l.length) (hb : fs.size < scanBound)
    (hf : t2.fits fs.size = true) (hr : Ris t2.place.toList) (hl : w.params.followText "set-order" = true ∨ t2.led = true) {wd : Bool} {R : Option Bool → Shared → Prop}
    (hR : ∀ h2, Heap.SameBut a s.heap h2 → SetS w h2 a l → R (some true) { s with heap := h2 }) :
    wpAny (model P w) A (do
        storeSet a fs t2
        if (!wd && t2.tooFull) = true then do
            gv (relayAll t2 fs (SetTable.grown fs.size)).2.2
            storeSet a (relayAll t2 fs (SetTable.grown fs.size)).1 (relayAll t2 fs (SetTable.grown fs.size)).2.1
            pure (some true)
          else pure (some true)) R E s := by
  refine wpAny_bind (wpAny_storeSet_of ho hd ?_ (fits_of_scanBound hb))
  have q1 := store_at (es' := fs) (t' := t2) ho hd
  have b1 := Heap.SameBut.update s.heap a (Obj.putSet fs t2)
  by_cases c : (!wd && t2.tooFull) = true
  · rw [if_pos c]
    have pm := relayAll_perm t2 fs (SetTable.grown fs.size)
    have f3 := relayAll_fits t2 fs (SetTable.grown fs.size)
    have r3 := relayAll_ris t2 fs (SetTable.grown fs.size)
    have l3 := relayAll_led t2 fs (SetTable.grown fs.size)
    generalize relayAll t2 fs (SetTable.grown fs.size) = Z at pm f3 r3 l3 ⊢
    obtain ⟨gs, t3, gave⟩ := Z
    dsimp only at pm f3 r3 l3 ⊢
    have ez : gs.size = fs.size := by rw [← Array.length_toList, pm.length_eq, Array.length_toList]
    refine wpAny_bind (hg _ _ _ ?_)
    refine wpAny_bind (wpAny_storeSet_of q1 rfl ?_ (fits_of_scanBound (by rw [ez]; exact hb)))
    have q2 := store_at (es' := gs) (t' := t3) q1 rfl
    obtain ⟨g1, g2, g3, g4⟩ := G1
    exact wpAny_pure (hR _ (b1.trans (Heap.SameBut.update _ a _)) ⟨_, gs, _, t3, q2, hx, rfl, ⟨fun e he => g1 e (pm.mem_iff.mp he), (pm.map strK).nodup_iff.mpr g2, fun k => (g3 k).trans (pm.map strK).mem_iff.symm, by rw [ez]; exact g4⟩,
      f3, r3, hl.imp id fun z => by rw [l3]; exact z⟩)
  · rw [if_neg c]
    exact wpAny_pure (hR _ b1 ⟨_, fs, _, t2, q1, hx, rfl, G1, hf, hr, hl⟩)
theorem setS_add {k : Str} {tk : Tok} {Q : Bool → Shared → Prop} (R : SetS w s.heap a l) (room : l.length + 1 < scanBound)
    (hQ : ∀ b h2, Heap.SameBut a s.heap h2 → SetS w h2 a (l ++ [k]) → Q b { s with heap := h2 }) : wpAny (model P w) A (setAddHashed a (.str k tk) (hashStr w k)) Q E s := by
  obtain ⟨o, es, ep, t, ho, hx, hd, ⟨g, nd, hm, hz⟩, hf, hr, hl⟩ := R
  have hb : es.size < scanBound := by omega
  have hk : (PySem.strKind P w).is k (.str k tk) = true := by
    show Value.isStrOf k (.str k tk) = true
    simp [Value.isStrOf]
  have hsc : (Value.str k tk).scannable = true := rfl
  have hel : ElemsOf (PySem.strKind P w) es.toList := goodS_els g
  have ekh : hashStr w k = (PySem.strKind P w).hash k := rfl
  rw [ekh]
  unfold setAddHashed setAddHashedIn
  refine wpAny_holding (wpAny_bind (wpAny_setState_of ho hd hf ?_))
  dsimp only
  rw [byScan_of hsc hb hel]
  simp only [↓reduceIte]
  unfold setAddByScan
  refine wpAny_bind ?_
  refine wpAny_bind (wpAny_rule ?_)
  refine wpAny_bind (wpAny_setScan_of hk ho hd hf hel ?_)
  cases hfi : List.findIdx? (fun e => (PySem.strKind P w).is k e.2) es.toList with
  | some j =>
    dsimp only
    obtain ⟨hj, pj, _⟩ := List.findIdx?_eq_some_iff_getElem.mp hfi
    have hin : k ∈ es.toList.map strK := List.mem_map.mpr ⟨_, List.getElem_mem hj, (goodS_is (P := P) (g _ (List.getElem_mem hj)) k).mp pj⟩
    refine wpAny_pure (wpAny_pure ?_)
    refine hQ _ s.heap (Heap.SameBut.refl a s.heap) ⟨o, es, ep, t, ho, hx, hd, ⟨g, nd, fun i => ?_, by simp; omega⟩, hf, hr, hl⟩
    rw [List.mem_append, List.mem_singleton, hm i]
    exact ⟨fun z => z.elim id fun e => e ▸ hin, .inl⟩
  | none =>
    dsimp only
    have hnk : k ∉ es.toList.map strK := fun z => by
      obtain ⟨e, he, q⟩ := List.mem_map.mp z
      have c := List.findIdx?_eq_none_iff.mp hfi e he
      rw [(goodS_is (P := P) (g e he) k).mpr q] at c
      cases c
    have hgw : ∀ (b : Bool) {s2 : Shared} {Q2 : Unit → Shared → Prop}, Q2 () s2 → wpAny (model P w) A (match b with | true => rule "set.scan.the-table-gave-way" | false => pure ()) Q2 E s2 :=
      fun b s2 Q2 q => by
        cases b
        · exact wpAny_pure q
        · exact wpAny_rule q
    have pm := layNew_perm t es ((PySem.strKind P w).hash k) (.str k tk)
    have f1 := layNew_fits t es ((PySem.strKind P w).hash k) (.str k tk)
    have r1 := layNew_ris t es ((PySem.strKind P w).hash k) (.str k tk) hr
    have l1 := layNew_led t es ((PySem.strKind P w).hash k) (.str k tk)
    generalize layNew t es ((PySem.strKind P w).hash k) (.str k tk) = Z at pm f1 r1 l1 ⊢
    obtain ⟨fs, t1, wd, gave⟩ := Z
    dsimp only at pm f1 r1 l1 ⊢
    rw [Array.toList_push] at pm
    have pc : fs.toList.Perm (((PySem.strKind P w).hash k, Value.str k tk) :: es.toList) := pm.trans (List.perm_append_singleton _ _)
    have pk : (fs.toList.map strK).Perm (k :: es.toList.map strK) := pc.map strK
    have ez : fs.size = es.size + 1 := by rw [← Array.length_toList, pc.length_eq, List.length_cons, Array.length_toList]
    have G1 : (∀ e ∈ fs.toList, GoodS w e) ∧ (fs.toList.map strK).Nodup ∧ (∀ i, i ∈ l ++ [k] ↔ i ∈ fs.toList.map strK) ∧ fs.size ≤ (l ++ [k]).length := by
      refine ⟨fun e he => ?_, pk.nodup_iff.mpr (List.nodup_cons.mpr ⟨hnk, nd⟩), fun i => ?_, by rw [ez]; simp; omega⟩
      · rcases List.mem_cons.mp (pc.mem_iff.mp he) with z | z
        · rw [z]; exact ⟨k, tk, rfl, rfl⟩
        · exact g e z
      · rw [pk.mem_iff, List.mem_cons, List.mem_append, List.mem_singleton, hm i]
        exact Or.comm
    have hb1 : fs.size < scanBound := by omega
    have hl1 : w.params.followText "set-order" = true ∨ t1.led = true := hl.imp id fun z => by rw [l1]; exact z
    refine wpAny_bind (hgw _ ?_)
    by_cases hp : t1.plain = true
    · rw [if_pos hp]
      refine wpAny_bind ?_
      rw [hashByValue_scannable 8 hsc]
      refine wpAny_pure ?_
      refine setS_tail (l := l ++ [k]) ?_ ho hx hd G1 hb1 ?_ ?_ ?_ ?_
      · intro b s2 Q2 q
        cases b
        · exact wpAny_pure q
        · exact wpAny_rule q
      · first | exact SetTable.fits_plain_off f1 | exact f1
      · exact r1
      · exact hl1
      · intro h2 sb r; dsimp only; exact wpAny_pure (hQ _ h2 sb r)
    · rw [if_neg hp]
      refine wpAny_bind (wpAny_pure ?_)
      simp only [↓reduceIte]
      refine setS_tail (l := l ++ [k]) ?_ ho hx hd G1 hb1 f1 r1 hl1 ?_
      · intro b s2 Q2 q
        cases b
        · exact wpAny_pure q
        · exact wpAny_rule q
      · intro h2 sb r; dsimp only; exact wpAny_pure (hQ _ h2 sb r)
end
end G
namespace G
open PySem PySem.Spec PyProof.Rows L2
section
variable {P : Program} {w : World} {A : Around} {E : Value → Shared → Prop}
abbrev setObj0 (w : World) : Obj := { cls := .type "set", dict := none, data := .set #[] 0 (.fresh 0 0 (!w.params.followText "set-order")) }
theorem setS_zero {h : Heap} {a : Addr} (ho : h.get? a = some (setObj0 w)) : SetS w h a [] := by
  refine ⟨_, #[], 0, _, ho, ⟨rfl, rfl, rfl⟩, rfl, ⟨fun e he => by simp at he, by simp, fun k => by simp, by simp⟩, by rfl, List.Pairwise.nil, ?_⟩
  show _ ∨ (!w.params.followText "set-order") = true
  cases w.params.followText "set-order"
  · exact .inr rfl
  · exact .inl rfl
/-- the loop of set(text) -/
theorem set_loop_go {I S : Addr} {fp wr : List Addr} {Gs : Array GenState → Array GenState → Prop} {Pv : Nat → Value → Prop} {St : Nat → Shared → Prop} {R : Result → Shared → Prop} (zs : List Str) (W : WalksS P w A.in1 I fp wr Gs zs.length Pv St) (nS : S ∉ fp)
    (room : zs.length + 1 < scanBound) (hv : ∀ i v, Pv i v → ∃ k tk, zs[i]? = some k ∧ v = .str k tk) : ∀ (m i : Nat) (s : Shared), zs.length - i = m → i ≤ zs.length → St i s → SetS w s.heap S (zs.take i) →
      (∀ s', Moved (S :: wr) Gs s s' → SetS w s'.heap S zs → R (.ok (.ret .none)) s') → codeAny (model P w) A (.builtin "set.update.loop" ⟨[.ref S, .ref I], []⟩) R s := by
  have nw : S ∉ wr := fun z => nS (W.sub _ z)
  have sb : ∀ b ∈ wr, b ∈ S :: wr := fun b z => List.mem_cons_of_mem _ z
  intro m
  induction m with
  | zero =>
    intro i s em hi st hS hR
    obtain rfl : i = zs.length := by omega
    rw [List.take_length] at hS
    refine codeAny_builtin F.entry_set_update_loop ?_
    rw [Around.under_plainId F.plain_set_update_loop _]
    show wpAny _ A.in1 (pyNext (.ref I) >>= _) _ _ s
    refine wpAny_bind (W.done s _ _ st fun s' mv => ?_)
    show wpAny _ A.in1 (ret Value.none) _ _ s'
    exact wpAny_pure (hR s' (mv.mono sb) (hS.keep fun o e => mv.heap S o nw e))
  | succ m ih =>
    intro i s em hi st hS hR
    have lt : i < zs.length := by omega
    refine codeAny_builtin F.entry_set_update_loop ?_
    rw [Around.under_plainId F.plain_set_update_loop _]
    show wpAny _ A.in1 (pyNext (.ref I) >>= _) _ _ s
    refine wpAny_bind (W.item i s _ _ lt st fun v s' hP st' mv => ?_)
    obtain ⟨k, tk, ek, rfl⟩ := hv i v hP
    have hS1 : SetS w s'.heap S (zs.take i) := hS.keep fun o e => mv.heap S o nw e
    show wpAny _ A.in1 (holding [Value.str k tk] (setAdd S (.str k tk)) >>= _) _ _ s'
    refine wpAny_bind (wpAny_holding ?_)
    unfold setAdd
    refine wpAny_holding ?_
    refine wpAny_bind ((PySem.strKind P w).pyHash (k := k) (by show Value.isStrOf k (.str k tk) = true; simp [Value.isStrOf]) ?_)
    refine setS_add (s := { s' with toks := s'.toks + 1 }) hS1 (by rw [List.length_take]; omega) fun _ h2 hsb hS2 => ?_
    have hS3 : SetS w h2 S (zs.take (i + 1)) := by rw [List.take_add_one, ek]; exact hS2
    refine wpAny_pure ⟨plainId_quiet F.plain_set_update_loop _, ih (i + 1) _ (by omega) lt (W.frame _ s' _ _ st' (Nat.le_succ _) fun b hb o e => ?_) hS3 fun s2 mv2 hS4 => ?_⟩
    · rw [hsb.2 b (fun z : b = S => nS (by rw [← z]; exact hb))]; exact e
    · refine hR s2 (Moved.trans W.gtrans ((mv.mono sb).then_heap (Nat.le_succ _) fun b o hb e => ?_) mv2) hS4
      rw [hsb.2 b (fun z : b = S => hb (by rw [z]; exact List.mem_cons_self))]; exact e
theorem sub_str_set : isSubtype (.type "str") (.type "set") = pure false := by rw [isSubtype_type]; kernel_rfl
theorem sub_str_fz : isSubtype (.type "str") (.type "frozenset") = pure false := by rw [isSubtype_type]; kernel_rfl
/-- set(a value that is walked) -/
theorem call_set_any {s : Shared} {arg : Value} {T : String} {Post : Shared → Prop} {Q : Value → Shared → Prop}
    (hT : ∀ h2 : Heap, (∀ b o, s.heap.get? b = some o → h2.get? b = some o) → Shared.TypeIs { s with heap := h2 } arg T) (n1 : isSubtype (.type T) (.type "set") = pure false) (n2 : isSubtype (.type T) (.type "frozenset") = pure false) (n3 : (Value.type T == Value.type "dict") = false)
    (hl : ∀ (A1 : Around) (E1 : Value → Shared → Prop) (Q1 : Value → Shared → Prop), (A1.handled = A.handled) →
      (∀ (I : Addr) (s2 : Shared), (∀ (A2 : Around) (R : Result → Shared → Prop), A2.handled = A.handled → (∀ s3, Post s3 → R (.ok (.ret .none)) s3) → codeAny (model P w) A2 (.builtin "set.update.loop" ⟨[.ref s.heap.objs.size, .ref I], []⟩) R s2) → Q1 (.ref I) s2) →
      wpAny (model P w) A1 (pyIter arg) Q1 E1 { s with heap := s.heap.push (setObj0 w) })
    (h : ∀ s3, Post s3 → Q (.ref s.heap.objs.size) s3) : wpAny (model P w) A (call (.type "set") [arg]) Q E s := by
  obtain ⟨c, tl, hmro⟩ := F.called_set.mro
  have hmade := F.called_set.made
  have hsub := F.called_set.sub
  refine wpAny_call (codeAny_of_tree ?_)
  show wpAny _ _ (callAny (.type "set") _) _ _ _
  refine wpAny_pure ⟨Code.quiet_builtin _ (by decide +kernel), codeAny_builtin F.entry_type_call ?_⟩
  rw [Around.under_plain (weight_type_call_type "set" [arg] []) rfl]
  have h1 := F.called_set.notType
  have h2 := F.called_set.canCreate
  have hct := F.typeCall_set_1 arg
  repeat (any_goals (first | assumption | wp_step))
  refine codeAny_mono (code_set_led1 arg (E := E) (Q₁ := fun obj s1 => obj = .ref s.heap.objs.size ∧ s1 = { s with heap := s.heap.push (setObj0 w) }) ⟨rfl, rfl⟩) fun r s1 hr => ?_
  cases r with
  | error e => exact hr
  | ok fl =>
    cases fl with
    | ret obj =>
      obtain ⟨rfl, rfl⟩ := hr
      have hS : (s.heap.push (setObj0 w)).get? s.heap.objs.size = some (setObj0 w) := Heap.get?_push_size _ rfl
      have hTS : Shared.TypeIs { s with heap := s.heap.push (setObj0 w) } (.ref s.heap.objs.size) "set" := ⟨_, hS, rfl⟩
      have hli := F.called_set.init.lookup
      have hbi := F.called_set.init.bind (.ref s.heap.objs.size)
      repeat (any_goals (first | assumption | wp_step))
      refine codeAny_mono (codeAny_call_builtin (R := wants (fun r s2 => r = .none ∧ Post s2) E) F.called_set.init.plain F.entry_set_init (check_set_init_1 hTS ?_)) fun r2 s2 hr2 => ?_
      · have hTa := hT (s.heap.push (setObj0 w)) fun b o e => Heap.get?_push_of_some _ e
        unfold Builtin.«set.__init__» noKeywords Builtin.Frozenset.updateFrom
        generalize hPI : pyIter = PI
        wp_walk
        subst hPI
        refine hl _ _ _ ?_ fun I s4 hI => ?_
        · simp
        refine wpAny_bind (wpAny_runValue ?_)
        refine hI _ _ (by simp) fun s3 p3 => ?_
        show wpAny _ _ _ _ _ _
        refine wpAny_pure ?_
        show wpAny _ _ (ret Value.none) _ _ _
        exact wpAny_pure ⟨rfl, p3⟩
      · cases r2 with
        | error e => exact hr2
        | ok fl2 =>
          cases fl2 with
          | ret r =>
            obtain ⟨rfl, p3⟩ := hr2
            repeat (any_goals (first | assumption | wp_step))
            exact h _ p3
          | _ => exact hr2.elim
    | _ => exact hr.elim
end
end G
namespace G
open PySem PySem.Spec PyProof.Rows L2
/-! ### the rules -/
def SetTO (w : World) (a : Addr) (l : List Str) : HO := .ext fun h => SetS w h a l
abbrev sgs (z : Str) : List Str := z.cps.toList.map fun c => (⟨#[c]⟩ : Str)
def rSetT (w : World) : List V → Hp → VK → Prop := fun xs H Q => ∃ z : Str, xs = [.str z] ∧ z.length ≤ 1000 ∧ ∀ a, H a = none → Q (.ref a) (upd H a (SetTO w a (sgs z)))
def rSetI (K : PySem.W.Frag) (w : World) : List V → Hp → VK → Prop := fun xs H Q => ∃ (p : Addr) (ns : List Int), xs = [.ref p] ∧ SqL K H p (ns.map V.int) ∧ ns.length ≤ 1000 ∧
  ∀ a c, c ≤ ns.length → H a = none → Q (.ref a) (upd H a (SetO w a (fun j => decide (j ∈ ns)) c))
def rSortT (w : World) : List V → Hp → VK → Prop := fun vs H Q => ∃ (a : Addr) (l : List Str), vs = [.ref a] ∧ H a = some (SetTO w a l) ∧ l.length < 64 ∧
  ∀ (ys : List Str) (p : Addr), ys.Nodup → sortedS ys = true → (∀ k, k ∈ ys ↔ k ∈ l) → H p = none → Q (.ref p) (upd H p (.lst (ys.map V.str)))
section
variable {X : Cx}
theorem setTO_new {w : World} {P : Program} {H : Hp} {h : Heap} {a : Addr} {l : List Str} (R : SetS w h a l) : ObjOk P w H h a (SetTO w a l) := by
  have ⟨o, _, _, _, ho, _⟩ := R
  exact ⟨R, ⟨o, ho⟩, fun h1 h2 p k => SetS.keep p k⟩
theorem sb1000 : (1000 : Nat) + 1 < scanBound := by decide
theorem call_set_str (hc : X.calm = true) : CallR X (.type "set") (rSetT X.w) := by
  intro pins s σ H xs us Q I r h
  obtain ⟨z, rfl, hz, q⟩ := h
  obtain ⟨u, rfl, rx⟩ := vals1 r
  obtain ⟨t, rfl⟩ := rx
  have hd := I.ok.hd hc
  have hzl : (sgs z).length = z.cps.size := by simp
  have hz' : z.cps.size ≤ 1000 := hz
  refine call_set_any (T := "str") (Post := fun s3 => (∀ b o, s.heap.get? b = some o → s3.heap.get? b = some o) ∧ s3.gens = s.gens ∧ s3.drawn = s.drawn ∧ s3.os = s.os ∧ SetS X.w s3.heap s.heap.objs.size (sgs z)) (fun _ _ => rfl) sub_str_set sub_str_fz (by decide) (fun A1 E1 Q1 e1 k => ?_) (fun s3 p => ?_)
  · refine wpAny_pyIter_str fun o St W st => k _ _ fun A2 R e2 fin => ?_
    have sz1 : (s.heap.push (setObj0 X.w)).objs.size = s.heap.objs.size + 1 := Heap.size_push ..
    have nS : s.heap.objs.size ∉ [(s.heap.push (setObj0 X.w)).objs.size] := fun m => by
      have := List.mem_singleton.mp m
      omega
    have hW := (W A2.in1 (by simp [e2, hd])).toS
    have hn : z.cps.size = (sgs z).length := hzl.symm
    revert hW
    show WalksS X.prog X.w A2.in1 (s.heap.push (setObj0 X.w)).objs.size [(s.heap.push (setObj0 X.w)).objs.size] [(s.heap.push (setObj0 X.w)).objs.size] _ z.cps.size (SignAt z) _ → _
    rw [hn]
    intro hW
    refine set_loop_go (sgs z) hW nS (by have := sb1000; omega) (fun i v hv => ?_) (sgs z).length 0 _ (Nat.sub_zero _) (Nat.zero_le _) st (setS_zero (Heap.get?_push_of_some _ (Heap.get?_push_size _ rfl))) fun s3 mv hS => fin s3 ⟨fun b ob e => ?_, mv.gens, mv.drawn, mv.os, hS⟩
    · obtain ⟨c, tk, ec, rfl⟩ := hv
      exact ⟨_, tk, by rw [List.getElem?_map, Array.getElem?_toList, ec]; rfl, rfl⟩
    · have lt := Heap.lt_size e
      refine mv.heap b ob (fun m => ?_) (Heap.get?_push_of_some _ (Heap.get?_push_of_some _ e))
      rcases List.mem_cons.mp m with m | m
      · rw [m] at lt; exact Nat.lt_irrefl _ lt
      · rw [List.mem_singleton.mp m, sz1] at lt; exact Nat.lt_irrefl _ (Nat.lt_of_succ_lt lt)
  · obtain ⟨k, g, d, o, hS⟩ := p
    obtain ⟨h', g', d', t', o'⟩ := s3
    dsimp only at k g d o hS
    subst g d o
    exact ⟨.ref s.heap.objs.size, upd H s.heap.objs.size (SetTO X.w s.heap.objs.size (sgs z)), I.laid k (Nat.le_refl _) (setTO_new hS), rfl, q _ (I.hok.fresh (Nat.le_refl _))⟩
theorem sub_l_set : isSubtype (.type "list") (.type "set") = pure false := F.sub_list_set
theorem k_set_ints (K : PySem.W.Frag) (hc : X.calm = true) (e : X.K = K := by rfl) : CallR X (.type "set") (rSetI K X.w) := by
  subst e
  intro pins s σ H xs us Q I r h
  obtain ⟨p, ns, rfl, hs, hl, q⟩ := h
  obtain ⟨its, rv, hL, _⟩ := I.list hs
  rw [Vals.ref1 r]
  have hd := I.ok.hd hc
  have hi := rv.ints
  have hil : its.length = ns.length := hi.length
  have hLp := hL.isList
  have hlp : p < s.heap.objs.size := by obtain ⟨o, ho, _⟩ := id hLp; exact Heap.lt_size ho
  refine call_set_any (T := "list") (Post := fun s3 => (∀ b o, s.heap.get? b = some o → s3.heap.get? b = some o) ∧ s3.gens = s.gens ∧ s3.drawn = s.drawn ∧ s3.os = s.os ∧ ∃ c, c ≤ ns.length ∧ SetR X.w s3.heap s.heap.objs.size (fun j => decide (j ∈ ns)) c) (fun h2 k2 => ?_) F.sub_list_set F.sub_list_frozenset (by decide) (fun A1 E1 Q1 e1 k => ?_) (fun s3 p3 => ?_)
  · obtain ⟨o, ho, hcl, _⟩ := hLp
    exact ⟨o, k2 _ _ ho, hcl⟩
  · have hL1 := hLp.push (setObj0 X.w)
    refine wpAny_pyIter_list hL1 (k _ _ fun A2 R e2 fin => ?_)
    have sz1 : (s.heap.push (setObj0 X.w)).objs.size = s.heap.objs.size + 1 := Heap.size_push ..
    have nI : p ≠ (s.heap.push (setObj0 X.w)).objs.size := by rw [sz1]; exact Nat.ne_of_lt (Nat.lt_succ_of_lt hlp)
    have nS : s.heap.objs.size ∉ [(s.heap.push (setObj0 X.w)).objs.size, p] := fun m => by
      simp only [List.mem_cons, List.not_mem_nil, or_false] at m
      rcases m with m | m
      · rw [sz1] at m; exact Nat.ne_of_lt (Nat.lt_succ_self _) m
      · exact Nat.ne_of_gt hlp m
    refine set_update_ints ((Walks.list (by simp [e2, hd]) _ p nI its.toArray).toS) s.heap.objs.size nS ns (by rw [List.size_toArray, hil]) (by have := sb1000; omega) (fun i v hv => ?_) (its.toArray.size - 0) 0 _ (by omega) (Nat.zero_le _) ⟨⟨_, Heap.get?_push_size _ rfl, rfl, rfl⟩, hL1.push _⟩
      ⟨0, Nat.le_refl 0, setR_new_at (Heap.get?_push_of_some _ (Heap.get?_push_size _ rfl))⟩ fun s3 c mv hc3 hS => fin s3 ⟨fun b ob e => ?_, mv.gens, mv.drawn, mv.os, c, by rw [← hil]; simpa using hc3, hS⟩
    · have hv' : its[i]? = some v := by rw [← List.getElem?_toArray]; exact hv
      have hlt : i < ns.length := by rw [← hil]; exact (List.getElem?_eq_some_iff.mp hv').1
      obtain ⟨t, e⟩ := IntsAre.int_at hi i v hv'
      refine ⟨ns[i], t, List.getElem?_eq_getElem hlt, ?_⟩
      rw [e, List.getD_eq_getElem?_getD, List.getElem?_eq_getElem hlt]; rfl
    · have lt := Heap.lt_size e
      refine mv.heap b ob (fun m => ?_) (Heap.get?_push_of_some _ (Heap.get?_push_of_some _ e))
      rcases List.mem_cons.mp m with m | m
      · rw [m] at lt; exact Nat.lt_irrefl _ lt
      · rcases List.mem_cons.mp m with m | m
        · rw [m, sz1] at lt; exact Nat.lt_irrefl _ (Nat.lt_of_succ_lt lt)
        · cases m
  · obtain ⟨k, g, d, o, c, hc3, hS⟩ := p3
    obtain ⟨h', g', d', t', o'⟩ := s3
    dsimp only at k g d o hS
    subst g d o
    exact ⟨.ref s.heap.objs.size, upd H s.heap.objs.size (SetO X.w s.heap.objs.size _ c), I.laid k (Nat.le_refl _) (setO_new hS), rfl, q _ c hc3 (I.hok.fresh (Nat.le_refl _))⟩
/-- sorted(set of texts) -/
theorem cr_sortT (hc : X.calm = true) : CallR X (.builtin "sorted") (rSortT X.w) := by
  intro pins s σ H vs us Q I r h
  obtain ⟨a, l, rfl, ha, h64, q⟩ := h
  obtain ⟨o, es, ep, t, ho, hex, hd, ⟨g, nd, hm, hz⟩, hf, hr, hl⟩ : SetS X.w s.heap a l := (I.hok a _ ha).1
  rw [Vals.ref1 r]
  have hb : es.size < scanBound := by have := sb1000; omega
  refine Calls.call_function_entry kind_sorted plain_sorted entry_sorted (args_sorted1 _) ?_
  unfold Builtin.«sorted»
  refine wpAny_bind (m := checkCount "sorted" 1 1 _) (wpAny_pure ?_)
  refine wpAny_bind (collect_set (A := X.A.in1) (I.ok.hd hc) ⟨o, ho, hex.1, hd⟩ hf hb hr hl fun s1 us k1 hz1 g1 o1 pm => ?_)
  have hul : us.length = es.size := by rw [pm.length_eq, List.length_map, Array.length_toList]
  have hU : StrsAre us (us.map strOf) := strsAre_map us fun v hv => by
    obtain ⟨e, he, qe⟩ := List.mem_map.mp (pm.mem_iff.mp hv)
    obtain ⟨k, tk, e1, _⟩ := g e he
    exact ⟨k, tk, by rw [← qe]; exact e1⟩
  have pk : (us.map strOf).Perm (es.toList.map strK) := by
    have z := pm.map strOf
    rw [List.map_map] at z
    exact z
  refine wpAny_bind (wpAny_newList ?_ (by rw [hul, sizeLine_eq]; omega))
  have hoL : (s1.heap.push (seqObj "list" us.toArray 0)).get? s1.heap.objs.size = some (seqObj "list" us.toArray 0) := Heap.get?_push_size _ rfl
  refine wpAny_bind (wpAny_holding (wpAny_call_entry slot_list_sort ⟨_, hoL, rfl⟩ entry_list_sort (list_sort_treeK strKind_oneLt hoL hU.keysOf (fun v1 v2 rest e => keyKind_strs (by rw [← e]; exact hU)) (by rw [hul]; omega) fun st' hp hs => ⟨_, rfl, ?_⟩) (args_list_sort _)))
  obtain ⟨ys, h1, h2, h3⟩ := sorted_out_str hU hp hs
  generalize hout : (arrOf st').map (·.2) = out at h1 ⊢
  obtain ⟨c, hcc⟩ := sortedHeap_at (vs := us) (out := out) hoL
  have py : ys.Perm (es.toList.map strK) := h2.trans pk
  have hyl : ys.length = es.size := by rw [py.length_eq, List.length_map, Array.length_toList]
  have hn : H s1.heap.objs.size = none := I.hok.fresh hz1
  have hk : ∀ b u, s.heap.get? b = some u → (sortedHeap (s1.heap.push (seqObj "list" us.toArray 0)) s1.heap.objs.size us out).get? b = some u := fun b u e => by
    have z := k1 b u e
    have lt := Heap.lt_size z
    rw [sortedHeap_old (Nat.ne_of_lt lt) (by rw [size_push']; exact Nat.lt_succ_of_lt lt)]
    exact Heap.get?_push_of_some _ z
  have J : Inv X pins σ (upd H s1.heap.objs.size (.lst (ys.map V.str))) { s with heap := sortedHeap (s1.heap.push (seqObj "list" us.toArray 0)) s1.heap.objs.size us out, gens := s1.gens, drawn := s1.drawn, toks := s1.toks } :=
    I.call (ch := []) (Un.laid hk hz1 hn) (I.hok.laid hk hz1 ⟨by rw [List.length_map, hyl, sizeLine_eq]; omega, out.toList, c, vals_of_strs h1, hcc⟩) (by rw [g1]; exact I.bare) (fun _ z => nomatch z)
  refine wpAny_pure ⟨_, rfl, .ref s1.heap.objs.size, _, ?_, rfl, q ys _ (py.nodup_iff.mpr nd) h3 (fun k => by rw [py.mem_iff, ← hm k]) hn⟩
  have e : ({ s1 with heap := sortedHeap (s1.heap.push (seqObj "list" us.toArray 0)) s1.heap.objs.size us out } : Shared) = { s with heap := sortedHeap (s1.heap.push (seqObj "list" us.toArray 0)) s1.heap.objs.size us out, gens := s1.gens, drawn := s1.drawn, toks := s1.toks } := by
    cases s1
    cases s
    cases o1
    rfl
  rw [e]
  exact J
end
end G
namespace G
open PySem PySem.Spec PyProof.Rows L2
/-! ### ascending lists -/
theorem asc_ext {α : Type} {lt : α → α → Prop} (irr : ∀ a, ¬ lt a a) (tr : ∀ {a b c}, lt a b → lt b c → lt a c) : ∀ a b : List α, a.Pairwise lt → b.Pairwise lt → (∀ x, x ∈ a ↔ x ∈ b) → a = b
  | [], [], _, _, _ => rfl
  | [], y :: b, _, _, h => absurd ((h y).mpr List.mem_cons_self) (by simp)
  | x :: a, [], _, _, h => absurd ((h x).mp List.mem_cons_self) (by simp)
  | x :: a, y :: b, ha, hb, h => by
    obtain ⟨a1, a2⟩ := List.pairwise_cons.mp ha
    obtain ⟨b1, b2⟩ := List.pairwise_cons.mp hb
    have e : x = y := by
      rcases List.mem_cons.mp ((h x).mp List.mem_cons_self) with z | z
      · exact z
      · rcases List.mem_cons.mp ((h y).mpr List.mem_cons_self) with u | u
        · exact u.symm
        · exact absurd (tr (a1 y u) (b1 x z)) (irr x)
    subst e
    rw [asc_ext irr tr a b a2 b2 fun z => ?_]
    constructor
    · intro hz
      rcases List.mem_cons.mp ((h z).mp (List.mem_cons_of_mem _ hz)) with u | u
      · subst u; exact absurd (a1 z hz) (irr z)
      · exact u
    · intro hz
      rcases List.mem_cons.mp ((h z).mpr (List.mem_cons_of_mem _ hz)) with u | u
      · subst u; exact absurd (b1 z hz) (irr z)
      · exact u
theorem eqv_ints : ∀ a b : List Int, PyData.eqvAll (a.map PyData.int) (b.map PyData.int) = decide (a = b)
  | [], [] => rfl
  | [], _ :: _ => rfl
  | _ :: _, [] => rfl
  | x :: a, y :: b => by
    rw [List.map_cons, List.map_cons, PyData.eqvAll, eqv_ints a b, PyData.eqv]
    by_cases e : x = y
    · subst e; simp
    · rw [show (x == y) = false by simpa using e, Bool.false_and, decide_eq_false (fun z => e (List.cons.inj z).1)]
theorem eqv_strs : ∀ a b : List Str, PyData.eqvAll (a.map PyData.str) (b.map PyData.str) = decide (a = b)
  | [], [] => rfl
  | [], _ :: _ => rfl
  | _ :: _, [] => rfl
  | x :: a, y :: b => by
    rw [List.map_cons, List.map_cons, PyData.eqvAll, eqv_strs a b, PyData.eqv]
    by_cases e : x = y
    · subst e; simp
    · rw [show (x == y) = false by simpa using e, Bool.false_and, decide_eq_false (fun z => e (List.cons.inj z).1)]
theorem dps_ints {K : PySem.W.Frag} {H : Hp} : ∀ a : List Int, DpAll K H (a.map V.int) (a.map PyData.int)
  | [] => .nil
  | x :: a => .cons (.int x) (dps_ints a)
theorem dps_strs {K : PySem.W.Frag} {H : Hp} : ∀ a : List Str, DpAll K H (a.map V.str) (a.map PyData.str)
  | [] => .nil
  | x :: a => .cons (.str x) (dps_strs a)
def ascI (l : List Int) : Bool := decide (l.Pairwise (· < ·))
def ascN (l : List Nat) : Bool := decide (l.Pairwise (· < ·))
theorem asc_ints {l ys : List Int} (h1 : ys.Pairwise (· < ·)) (h2 : ∀ k, k ∈ ys ↔ k ∈ l) : decide (l = ys) = ascI l := by
  unfold ascI
  by_cases e : l.Pairwise (· < ·)
  · rw [decide_eq_true e, asc_ext (lt := (· < ·)) (fun a h => by omega) (fun h k => by omega) l ys e h1 fun x => (h2 x).symm]; simp
  · rw [decide_eq_false e, decide_eq_false (fun z : l = ys => e (z ▸ h1))]
theorem asc_signs {z : Str} {ys : List Str} (h1 : ys.Nodup) (h2 : sortedS ys = true) (h3 : ∀ k, k ∈ ys ↔ k ∈ sgs z) : decide (sgs z = ys) = ascN z.cps.toList := by
  have hm : ∀ y ∈ ys, ∃ c : Nat, y = S [c] := fun y hy => by
    obtain ⟨c, _, e⟩ := List.mem_map.mp ((h3 y).mp hy)
    exact ⟨c, e.symm⟩
  have go : ∀ us : List Str, (∀ y ∈ us, ∃ c : Nat, y = S [c]) → ∃ ds : List Nat, us = ds.map fun c => S [c] := by
    intro us
    induction us with
    | nil => exact fun _ => ⟨[], rfl⟩
    | cons u us ih =>
      intro h
      obtain ⟨c, rfl⟩ := h u List.mem_cons_self
      obtain ⟨ds, rfl⟩ := ih fun y hy => h y (List.mem_cons_of_mem _ hy)
      exact ⟨c :: ds, rfl⟩
  obtain ⟨cs, rfl⟩ := go ys hm
  obtain ⟨ds, e, pd, hd⟩ := sorted_signs (List.Perm.refl _) h2
  have inj : ∀ {a b : List Nat}, a.map (fun c => S [c]) = b.map (fun c => S [c]) → a = b := by
    intro a b h
    exact (List.map_inj_right (fun x y q => (List.cons.inj (S_inj q)).1)).mp h
  obtain rfl := inj e
  have nd : cs.Nodup := by
    rw [List.nodup_iff_pairwise_ne, List.pairwise_map] at h1
    exact h1.imp fun h z => h (by rw [z])
  have hlt : cs.Pairwise (· < ·) := by
    have := hd.and nd
    exact this.imp fun h => by omega
  have hmem : ∀ c, c ∈ cs ↔ c ∈ z.cps.toList := fun c => by
    constructor
    · intro h
      obtain ⟨d, hd, e⟩ := List.mem_map.mp ((h3 (S [c])).mp (List.mem_map.mpr ⟨c, h, rfl⟩))
      have e : S [d] = S [c] := e
      rw [← (List.cons.inj (S_inj e)).1]; exact hd
    · intro h
      obtain ⟨d, hd, e⟩ := List.mem_map.mp ((h3 (S [c])).mpr (List.mem_map.mpr ⟨c, h, rfl⟩))
      rw [← (List.cons.inj (S_inj e)).1]; exact hd
  unfold ascN
  have es : sgs z = z.cps.toList.map fun c => S [c] := rfl
  by_cases q : z.cps.toList.Pairwise (· < ·)
  · rw [decide_eq_true q, es, asc_ext (lt := (· < ·)) (fun a h => by omega) (fun h k => by omega) _ cs q hlt fun x => (hmem x).symm]; simp
  · rw [decide_eq_false q, decide_eq_false (fun u => q ?_)]
    rw [es] at u
    rw [inj u]; exact hlt
/-- an alphabet, as the program tells it -/
def isAl (l : List Nat) : Bool := (decide (1 ≤ l.length) && decide (l.length ≤ 3)) && ((l.all fun d => decide (97 ≤ d ∧ d ≤ 122)) && ascN l)
theorem al_isAl {A : List Nat} (h : Al A) : isAl A = true := by
  unfold isAl ascN
  rw [decide_eq_true h.pos, decide_eq_true h.le, decide_eq_true h.lt, List.all_eq_true.mpr fun d hd => decide_eq_true (h.az d hd)]; rfl
theorem azE : PySem.Str.ofString "abcdefghijklmnopqrstuvwxyz" = S ((List.range 26).map fun i => 97 + i) := by decide +kernel
theorem az_mem (d : Nat) : decide (d ∈ (List.range 26).map fun i => 97 + i) = decide (97 ≤ d ∧ d ≤ 122) := by
  have : (d ∈ (List.range 26).map fun i => 97 + i) ↔ (97 ≤ d ∧ d ≤ 122) := by
    rw [List.mem_map]
    constructor
    · rintro ⟨i, hi, rfl⟩
      have := List.mem_range.mp hi
      omega
    · intro h
      exact ⟨d - 97, List.mem_range.mpr (by omega), by omega⟩
  by_cases e : 97 ≤ d ∧ d ≤ 122
  · rw [decide_eq_true e, decide_eq_true (this.mpr e)]
  · rw [decide_eq_false e, decide_eq_false (fun z => e (this.mp z))]
/-- more in the table at P, new objects; the rest stays -/
def TabS (P : Addr) (H H' : Hp) : Prop := (∃ ps : Array Value, H' P = some (.tbl ps) ∧ TriplesOk ps.toList) ∧ ∀ b o, b ≠ P → H b = some o → H' b = some o
end G
set_option maxHeartbeats 4000000
/-! Walks over zip of two tuples. -/
namespace G
open PySem PySem.Spec PyProof.Rows L2
section
variable {K : PySem.W.Frag} {a b : Addr} {xs ys : List V} {σ : L2.St} {H : Hp} {Q : VK} {D : Ends} {ta : TA} {tb : TS} {te : TE} {tt : TT} {g : TG} {vs : List Nat}
theorem walk_zT : Walk (RZ.ItzT K a b) (min xs.length ys.length) (fun H => SqT K H a xs ∧ SqT K H b ys) (YPair (fun i => xs[i]?) (fun i => ys[i]?)) := by
  refine ⟨fun i H hi q => ⟨xs, ys, xs[i]'(by omega), ys[i]'(by omega), q.1, q.2, List.getElem?_eq_getElem _, List.getElem?_eq_getElem _⟩, fun H q => ⟨xs, ys, q.1, q.2, by omega⟩, fun i H x H' hi q y => ?_⟩
  obtain ⟨T, x', y', e, n, e2, f1, f2⟩ := y
  exact ⟨T, x', y', e, n, e2, f1 xs q.1, f2 ys q.2⟩
theorem w_lcZ (h : ta σ H fun us H1 => ∃ a b xs ys, us = [.ref a, .ref b] ∧ ((SqL K H1 a xs ∧ SqL K H1 b ys ∧ tLc (at_ (Itz K a b)) g tt te vs σ H1 Q) ∨ (SqT K H1 a xs ∧ SqT K H1 b ys ∧ tLc (at_ (RZ.ItzT K a b)) g tt te vs σ H1 Q))) : tLc (RZ.iZipA K ta) g tt te vs σ H Q := h
theorem w_forZ (h : ta σ H fun us H1 => ∃ a b xs ys, us = [.ref a, .ref b] ∧ ((SqL K H1 a xs ∧ SqL K H1 b ys ∧ tFor (at_ (Itz K a b)) g tb D σ H1) ∨ (SqT K H1 a xs ∧ SqT K H1 b ys ∧ tFor (at_ (RZ.ItzT K a b)) g tb D σ H1))) : tFor (RZ.iZipA K ta) g tb D σ H := h
theorem lc_ZT (W : Addr → Nat → Hp → Prop) (h0 : ∀ Dl, H Dl = none → W Dl 0 (upd H Dl (.lst []))) (hl : ∀ Dl i H', i ≤ min xs.length ys.length → W Dl i H' → SqT K H' a xs ∧ SqT K H' b ys)
    (hs : ∀ Dl i x y T H', xs[i]? = some x → ys[i]? = some y → W Dl i H' → H' T = none → g (.ref T) (wipe σ vs) (upd H' T (.tup [x, y])) fun σ2 H2 => wipe σ2 vs = wipe σ vs ∧ tt σ2 H2 fun b H3 =>
      if b = true then te σ2 H3 fun y H4 => ∃ acc, H4 Dl = some (.lst acc) ∧ acc.length < sizeLine ∧ W Dl (i + 1) (upd H4 Dl (.lst (acc ++ [y]))) else W Dl (i + 1) H3)
    (hd : ∀ Dl H', W Dl (min xs.length ys.length) H' → Q (.ref Dl) H') : tLc (at_ (RZ.ItzT K a b)) g tt te vs σ H Q := fun Dl hD =>
  lc_it walk_zT (W Dl) (h0 Dl hD) (hl Dl) (fun i x H1 H' _ p y => by
    obtain ⟨T, x', y', rfl, nT, rfl, e1, e2⟩ := y
    exact hs Dl i x' y' T _ e1 e2 p nT) (hd Dl)
end
end G
namespace G
open PySem PySem.Spec PyProof.Rows L2
theorem TabS.new {P p : Addr} {H H' : Hp} {o : HO} (t : TabS P H H') (n : H' p = none) : TabS P H (upd H' p o) := by
  obtain ⟨⟨ps, e1, e2⟩, k⟩ := t
  refine ⟨⟨ps, ?_, e2⟩, fun b u nb e => ?_⟩
  · rw [upd_ne (ne_of_none e1 n)]; exact e1
  · have := k b u nb e
    rw [upd_ne (ne_of_none this n)]; exact this
theorem TabS.of {P : Addr} {H H' : Hp} (t : GxR.Tabbed P H H') : TabS P H H' := by
  obtain ⟨⟨ps, e1, e2⟩, k⟩ := t
  exact ⟨⟨ps, e1, e2⟩, fun b u nb e => by rw [k b nb]; exact e⟩
theorem TabS.refl {P : Addr} {H : Hp} (h : ∃ ps : Array Value, H P = some (.tbl ps) ∧ TriplesOk ps.toList) : TabS P H H := ⟨h, fun _ _ _ e => e⟩
theorem TabS.trans {P : Addr} {H H1 H2 : Hp} (t : TabS P H H1) (u : TabS P H1 H2) : TabS P H H2 := ⟨u.1, fun b o n e => u.2 b o n (t.2 b o n e)⟩
theorem TabS.same {P : Addr} {H H' : Hp} (h : ∃ ps : Array Value, H P = some (.tbl ps) ∧ TriplesOk ps.toList) (k : Same H H') : TabS P H H' := by
  obtain ⟨ps, e1, e2⟩ := h
  exact ⟨⟨ps, k _ _ e1, e2⟩, fun b o _ e => k b o e⟩
end G
namespace G
open PySem PySem.Spec PyProof.Rows L2
theorem clay_strs : ∀ {ss : List Str}, (∀ y ∈ ss, PyData.canLay0 (.str y) = true) → PyData.canLayAll0 (ss.map PyData.str) = true
  | [], _ => rfl
  | y :: r, h => by
    rw [List.map_cons, PyData.canLayAll0, h y List.mem_cons_self, clay_strs fun z hz => h z (List.mem_cons_of_mem _ hz)]; rfl
theorem depth_strs : ∀ ss : List Str, PyData.depthAll (ss.map PyData.str) = 0
  | [] => rfl
  | _ :: r => by simp [PyData.depthAll, PyData.depth, depth_strs r]
theorem shaped_strs {ss : List Str} (h : ∀ y ∈ ss, PyData.canLay0 (.str y) = true) : SeqAt.shaped (.list (ss.map PyData.str)) = true := by
  have h1 := clay_strs h
  have h2 := depth_strs ss
  simp [SeqAt.shaped, PyData.canLay0, PyData.depth, h1, h2]
theorem clay_sign {c : Nat} (h : c < 1114112) : PyData.canLay0 (.str ⟨#[c]⟩) = true := by
  simp [PyData.canLay0, PyData.strOk]; exact h
theorem shaped_sgs {z : Str} {ys : List Str} (h : (z.cps.toList.all fun d => decide (97 ≤ d ∧ d ≤ 122)) = true) (hm : ∀ k, k ∈ ys → k ∈ sgs z) : SeqAt.shaped (.list (ys.map PyData.str)) = true := by
  refine shaped_strs fun y hy => ?_
  obtain ⟨c, hc, rfl⟩ := List.mem_map.mp (hm y hy)
  have := of_decide_eq_true (List.all_eq_true.mp h c hc)
  exact clay_sign (by omega)
end G
namespace G
open PySem PySem.Spec PyProof.Rows L2
section
variable {K : PySem.W.Frag} {H H' : Hp} {X : Cx}
mutual
theorem dp_q (k : ∀ a xs, SqT K H a xs → SqT K H' a xs) : ∀ (d : PyData) (v : V), tupO d = true → Dp K H v d → Dp K H' v d
  | .none, _, _, h => by cases h; exact .non
  | .bool b, _, _, h => by cases h; exact .bl b
  | .int i, _, _, h => by cases h; exact .int i
  | .str x, _, _, h => by cases h; exact .str x
  | .list ds, _, t, h => by simp [tupO] at t
  | .tuple ds, _, t, h => by cases h with | tup hs ha => exact .tup (k _ _ hs) (dps_q k ds _ (by simpa [tupO] using t) ha)
  | .dict _, _, t, h => by cases h
theorem dps_q (k : ∀ a xs, SqT K H a xs → SqT K H' a xs) : ∀ (ds : List PyData) (vs : List V), tupOs ds = true → DpAll K H vs ds → DpAll K H' vs ds
  | [], _, _, h => by cases h; exact .nil
  | d :: ds, _, t, h => by
    simp [tupOs] at t
    cases h with | cons h1 h2 => exact .cons (dp_q k d _ t.1 h1) (dps_q k ds _ t.2 h2)
end
theorem TabS.seqT {P a : Addr} {xs : List V} (h : ∃ ps : Array Value, H P = some (.tbl ps) ∧ TriplesOk ps.toList) (t : TabS P H H') (q : SqT K H a xs) : SqT K H' a xs := by
  obtain ⟨ps, e, _⟩ := h
  rcases q with (q | ⟨f, q⟩) | q
  · exact .inl (.inl (t.2 _ _ (fun z => by rw [z, e] at q; cases q) q))
  · exact .inl (.inr ⟨f, t.2 _ _ (fun z => by rw [z, e] at q; cases q) q⟩)
  · exact .inr q
theorem ps_quiet {st : Stmt} : PS X st (fun _ _ _ => False) := ⟨fun _ _ _ _ _ _ h => h.elim⟩
end
end G
namespace G
open PySem PySem.Spec PyProof.Rows L2
theorem cut_from1 (xs : List V) : cutV xs (some 1) none = xs.drop 1 := by
  unfold cutV
  rw [HT.sIx_none, show (1 : Int) = ((1 : Nat) : Int) from rfl, sIx_n]
  by_cases h : 1 ≤ xs.length
  · rw [Nat.min_eq_left h, List.take_of_length_le (by rw [List.length_drop]; omega)]
  · have : xs = [] := List.eq_nil_of_length_eq_zero (by omega)
    subst this; rfl
/-- each is below the next one -/
def steps2 (ns : List Int) : List Bool := (ns.zip (ns.drop 1)).map fun p => decide (p.1 < p.2)
theorem steps2_all : ∀ ns : List Int, (steps2 ns).all id = ascI ns
  | [] => rfl
  | [a] => by
    unfold ascI
    rw [decide_eq_true (List.pairwise_singleton _ _)]; rfl
  | a :: b :: r => by
    have ih := steps2_all (b :: r)
    have e : steps2 (a :: b :: r) = decide (a < b) :: steps2 (b :: r) := rfl
    rw [e, List.all_cons, ih, id]
    unfold ascI
    by_cases q : (b :: r).Pairwise (· < ·)
    · rw [decide_eq_true q, Bool.and_true]
      by_cases z : a < b
      · rw [decide_eq_true z, decide_eq_true]
        refine List.pairwise_cons.mpr ⟨fun x hx => ?_, q⟩
        rcases List.mem_cons.mp hx with u | u
        · rw [u]; exact z
        · have := (List.pairwise_cons.mp q).1 x u
          omega
      · rw [decide_eq_false z, decide_eq_false]
        exact fun u => z ((List.pairwise_cons.mp u).1 b List.mem_cons_self)
    · rw [decide_eq_false q, Bool.and_false, decide_eq_false]
      exact fun u => q (List.pairwise_cons.mp u).2
end G
namespace G
open PySem PySem.Spec PyProof.Rows L2
theorem same_new {H : Hp} {p : Addr} {o : HO} (n : H p = none) : Same H (upd H p o) := fun b u e => by
  rw [upd_ne (ne_of_none e n)]; exact e
theorem w_slA1 {K : PySem.W.Frag} {H : Hp} {a : Addr} {xs : List V} {Q : VK} (h : SqT K H a xs) (k : ∀ p H', Same H H' → SqT K H' p (xs.drop 1) → Q (.ref p) H') : rSlA K (.ref a) (some 1) none H Q := by
  refine ⟨a, xs, rfl, h, fun e => ?_, fun _ p n => ?_⟩
  · have e1 := e.1
    rw [show (1 : Int) = ((1 : Nat) : Int) from rfl, sIx_n] at e1
    have : xs = [] := List.eq_nil_of_length_eq_zero (by omega)
    subst this
    exact k a H (fun _ _ e => e) h
  · rw [cut_from1]
    exact k p _ (same_new n) (.inl (.inl upd_same))
end G
namespace G
open PySem PySem.Spec PyProof.Rows L2
/-- the heap without the table: what the law's ledger begins at -/
def noT (Pt : Addr) (H : Hp) : Hp := fun b => if b = Pt then none else H b
theorem start_noT {H : Hp} {Pt : Addr} {o : HO} (h : H Pt = some o) : Ow (noT Pt H) [] H [(Pt, o)] := by
  have n0 : noT Pt H Pt = none := if_pos rfl
  refine ⟨fun p hp => ?_, by simp, fun b u e _ => ?_, fun p hp => ?_, by simp, by simp⟩
  · rw [List.mem_singleton.mp hp]; exact h
  · unfold noT at e
    by_cases z : b = Pt
    · rw [if_pos z] at e; cases e
    · rw [if_neg z] at e; exact e
  · rw [List.mem_singleton.mp hp]; exact .inr n0
end G
namespace G
open PySem PySem.Spec PyProof.Rows L2
section
variable {K : PySem.W.Frag} {H : Hp} {a b : Addr} {xs ys : List V} {Q : VK} {lo hi : Option Int}
theorem w_slN (h : SqT K H a xs) (e : cutV xs lo hi = ys) (n : ys.length ≠ xs.length) (k : ∀ p, H p = none → Q (.ref p) (upd H p (.tup ys))) : rSlA K (.ref a) lo hi H Q := by
  refine ⟨a, xs, rfl, h, fun z => absurd ?_ n, fun _ p np => by rw [e]; exact k p np⟩
  rw [← e]
  unfold cutV
  rw [z.1, z.2]; simp
theorem w_catN {zs : List V} (h : SqT K H a xs) (h2 : SqT K H b ys) (e : xs ++ ys = zs) (n1 : xs ≠ []) (n2 : ys ≠ []) (l : xs.length + ys.length ≤ 100000) (k : ∀ p, H p = none → Q (.ref p) (upd H p (.tup zs))) : rCatA K (.ref a) (.ref b) H Q :=
  ⟨a, b, xs, ys, rfl, rfl, h, h2, szl l, fun e => absurd e n1, fun _ e => absurd e n2, fun _ _ => by rw [e]; exact k⟩
end
end G
namespace G
open PySem PySem.Spec PyProof.Rows L2
theorem inV_int (c : Int) (cs : List Int) : inV (.int c) (cs.map V.int) = decide (c ∈ cs) := by
  unfold inV
  induction cs with
  | nil => rfl
  | cons d cs ih =>
    rw [List.map_cons, List.any_cons, ih]
    have e : eqV (V.int d) (V.int c) = decide (d = c) := by
      show (d == c) = decide (d = c)
      by_cases h : d = c
      · subst h; simp
      · rw [decide_eq_false h]; simpa using h
    rw [e]
    by_cases h : d = c
    · subst h; simp
    · have h' : ¬ c = d := fun z => h z.symm
      rw [decide_eq_false h, Bool.false_or]
      by_cases hm : c ∈ cs
      · rw [decide_eq_true hm, decide_eq_true (List.mem_cons_of_mem _ hm)]
      · rw [decide_eq_false hm, decide_eq_false (fun z => by rcases List.mem_cons.mp z with z | z; exact h' z; exact hm z)]
def azL : List Nat := (List.range 26).map fun i => 97 + i
theorem azM (d : Nat) : d ∈ azL ↔ (97 ≤ d ∧ d ≤ 122) := by
  unfold azL
  rw [List.mem_map]
  constructor
  · rintro ⟨i, hi, rfl⟩
    have := List.mem_range.mp hi
    omega
  · intro h
    exact ⟨d - 97, List.mem_range.mpr (by omega), by omega⟩
theorem azN : azL.Nodup := by decide +kernel
def fnd (c : Nat) : Int := if 97 ≤ c ∧ c ≤ 122 then (c : Int) - 97 else -1
theorem find_az (c : Nat) : Txt.find (S azL) ⟨#[c]⟩ = fnd c := by
  unfold fnd Txt.find
  by_cases h : 97 ≤ c ∧ c ≤ 122
  · rw [if_pos h, occ_idx ((azM c).mpr h)]
    have l : c - 97 < azL.length := by unfold azL; simp; omega
    have e : azL[c - 97] = c := by
      have q : azL[c - 97]? = some c := by
        unfold azL
        rw [List.getElem?_map, List.getElem?_range (by omega)]
        show some (97 + (c - 97)) = some c
        congr 1; omega
      rw [List.getElem?_eq_getElem l] at q
      exact Option.some.inj q
    have i := idx_get azN l
    rw [e] at i
    show ((azL.idxOf c : Nat) : Int) = _
    rw [i]; omega
  · rw [if_neg h]
    have f := PySem.StrLaws.found_one (S azL) c
    rw [decide_eq_false (fun z => h ((azM c).mp z))] at f
    cases q : Builtin.Str.occurrences (S azL) ⟨#[c]⟩ 0 (S azL).length 1 with
    | nil => rfl
    | cons x r => rw [q] at f; cases f
theorem asc_fnd : ∀ l : List Nat, (∀ c ∈ l, 97 ≤ c ∧ c ≤ 122) → ascI (l.map fnd) = ascN l := by
  intro l h
  unfold ascI ascN
  have : (l.map fnd).Pairwise (· < ·) ↔ l.Pairwise (· < ·) := by
    rw [List.pairwise_map]
    constructor
    · intro p
      refine List.Pairwise.imp_of_mem ?_ p
      intro a b ha hb q
      unfold fnd at q
      rw [if_pos (h a ha), if_pos (h b hb)] at q
      omega
    · intro p
      refine List.Pairwise.imp_of_mem ?_ p
      intro a b ha hb q
      unfold fnd
      rw [if_pos (h a ha), if_pos (h b hb)]
      omega
  by_cases e : l.Pairwise (· < ·)
  · rw [decide_eq_true e, decide_eq_true (this.mpr e)]
  · rw [decide_eq_false e, decide_eq_false (fun z => e (this.mp z))]
theorem bad_fnd (l : List Nat) : decide ((-1 : Int) ∈ l.map fnd) = !(l.all fun d => decide (97 ≤ d ∧ d ≤ 122)) := by
  by_cases h : ∀ c ∈ l, 97 ≤ c ∧ c ≤ 122
  · rw [List.all_eq_true.mpr fun d hd => decide_eq_true (h d hd), decide_eq_false]; rfl
    intro z
    obtain ⟨c, hc, e⟩ := List.mem_map.mp z
    unfold fnd at e
    rw [if_pos (h c hc)] at e
    have := h c hc
    omega
  · have h2 : (l.all fun d => decide (97 ≤ d ∧ d ≤ 122)) = false := by
      rw [Bool.eq_false_iff]
      exact fun z => h fun c hc => of_decide_eq_true (List.all_eq_true.mp z c hc)
    rw [h2, decide_eq_true]; rfl
    refine Classical.byContradiction fun q => h fun c hc => ?_
    refine Classical.byContradiction fun u => q (List.mem_map.mpr ⟨c, hc, ?_⟩)
    unfold fnd
    rw [if_neg u]
end G
namespace G
open PySem PySem.Spec PyProof.Rows L2
theorem clay_ints : ∀ ns : List Int, PyData.canLayAll0 (ns.map PyData.int) = true
  | [] => rfl
  | y :: r => by simp [PyData.canLayAll0, PyData.canLay0, clay_ints r]
theorem depth_ints : ∀ ns : List Int, PyData.depthAll (ns.map PyData.int) = 0
  | [] => rfl
  | _ :: r => by simp [PyData.depthAll, PyData.depth, depth_ints r]
theorem shaped_intsL (ns : List Int) : SeqAt.shaped (.list (ns.map PyData.int)) = true := by
  have h1 := clay_ints ns
  have h2 := depth_ints ns
  simp [SeqAt.shaped, PyData.canLay0, PyData.depth, h1, h2]
end G
set_option maxHeartbeats 1000000
namespace Law
open PySem PySem.Spec PyProof.Rows L2 G
def topS (i : Nat) : Stmt := PySem.Challenge.pw_guessrests_k07_families.main.body.getD i (.Pass ⟨0, 0, 0, 0⟩)
abbrev s_is_alphabet : Stmt := topS 6
abbrev N_is_alphabet : List Str := ["text"]
theorem sc_is_alphabet : FnScope N_is_alphabet ["text"] (defScope s_is_alphabet) := ⟨rfl, rfl, rfl, by decide +kernel, rfl, by decide +kernel, by decide +kernel⟩
abbrev s_is_word : Stmt := topS 7
abbrev N_is_word : List Str := ["alphabet", "text", "letter"]
theorem sc_is_word : FnScope N_is_word ["alphabet", "text"] (defScope s_is_word) := ⟨rfl, rfl, rfl, by decide +kernel, rfl, by decide +kernel, by decide +kernel⟩
abbrev s_check_family : Stmt := topS 9
abbrev N_check_family : List Str := ["family", "count", "width", "row", "names", "things", "start", "marks", "steps"]
theorem sc_check_family : FnScope N_check_family ["family"] (defScope s_check_family) := ⟨rfl, rfl, rfl, by decide +kernel, rfl, by decide +kernel, by decide +kernel⟩
abbrev s_columns_of : Stmt := topS 10
abbrev N_columns_of : List Str := ["family", "lefts", "rights", "pairs", "left", "right"]
theorem sc_columns_of : FnScope N_columns_of ["family"] (defScope s_columns_of) := ⟨rfl, rfl, rfl, by decide +kernel, rfl, by decide +kernel, by decide +kernel⟩
abbrev s_are_states : Stmt := topS 11
abbrev N_are_states : List Str := ["numbers", "count", "number"]
theorem sc_are_states : FnScope N_are_states ["numbers", "count"] (defScope s_are_states) := ⟨rfl, rfl, rfl, by decide +kernel, rfl, by decide +kernel, by decide +kernel⟩
abbrev s_ascend : Stmt := topS 12
abbrev N_ascend : List Str := ["numbers", "left", "right"]
theorem sc_ascend : FnScope N_ascend ["numbers"] (defScope s_ascend) := ⟨rfl, rfl, rfl, by decide +kernel, rfl, by decide +kernel, by decide +kernel⟩
abbrev s_law_draws : Stmt := topS 14
abbrev N_law_draws : List Str := ["script", "many", "cells", "rest", "draws", "k", "at", "cell", "mixed"]
theorem sc_law_draws : FnScope N_law_draws ["script", "many"] (defScope s_law_draws) := ⟨rfl, rfl, rfl, by decide +kernel, rfl, by decide +kernel, by decide +kernel⟩
abbrev s_law_take : Stmt := topS 15
abbrev N_law_take : List Str := ["draws", "many"]
theorem sc_law_take : FnScope N_law_take ["draws", "many"] (defScope s_law_take) := ⟨rfl, rfl, rfl, by decide +kernel, rfl, by decide +kernel, by decide +kernel⟩
abbrev s_law_alphabet : Stmt := topS 16
abbrev N_law_alphabet : List Str := ["draws", "many", "letters", "k", "letter", "other"]
theorem sc_law_alphabet : FnScope N_law_alphabet ["draws", "many"] (defScope s_law_alphabet) := ⟨rfl, rfl, rfl, by decide +kernel, rfl, by decide +kernel, by decide +kernel⟩
abbrev s_law_columns : Stmt := topS 17
abbrev N_law_columns : List Str := ["family", "found", "letter", "other"]
theorem sc_law_columns : FnScope N_law_columns ["family"] (defScope s_law_columns) := ⟨rfl, rfl, rfl, by decide +kernel, rfl, by decide +kernel, by decide +kernel⟩
abbrev s_law_family : Stmt := topS 18
abbrev N_law_family : List Str := ["draws", "most", "names", "things", "many", "columns", "steps", "k", "marks", "j"]
theorem sc_law_family : FnScope N_law_family ["draws", "most"] (defScope s_law_family) := ⟨rfl, rfl, rfl, by decide +kernel, rfl, by decide +kernel, by decide +kernel⟩
abbrev s_law_known_family : Stmt := topS 19
abbrev N_law_known_family : List Str := ["draws", "names", "things", "kind", "columns", "row", "out", "column"]
theorem sc_law_known_family : FnScope N_law_known_family ["draws"] (defScope s_law_known_family) := ⟨rfl, rfl, rfl, by decide +kernel, rfl, by decide +kernel, by decide +kernel⟩
abbrev s_law_lively : Stmt := topS 20
abbrev N_law_lively : List Str := ["draws", "most", "family"]
theorem sc_law_lively : FnScope N_law_lively ["draws", "most"] (defScope s_law_lively) := ⟨rfl, rfl, rfl, by decide +kernel, rfl, by decide +kernel, by decide +kernel⟩
abbrev s_law_with_three : Stmt := topS 21
abbrev N_law_with_three : List Str := ["draws", "family", "columns", "steps", "row", "k"]
theorem sc_law_with_three : FnScope N_law_with_three ["draws", "family"] (defScope s_law_with_three) := ⟨rfl, rfl, rfl, by decide +kernel, rfl, by decide +kernel, by decide +kernel⟩
abbrev s_law : Stmt := topS 22
abbrev N_law : List Str := ["script", "draws", "family", "states", "others", "other", "k"]
theorem sc_law : FnScope N_law ["script"] (defScope s_law) := ⟨rfl, rfl, rfl, by decide +kernel, rfl, by decide +kernel, by decide +kernel⟩
structure Bi (mg : Str → Option Value) : Prop where
  len : mg "len" = none
  list : mg "list" = none
  sorted : mg "sorted" = none
  set : mg "set" = none
  all : mg "all" = none
  tuple : mg "tuple" = none
  zip : mg "zip" = none
  int : mg "int" = none
  range : mg "range" = none
structure Dn (K : PySem.W.Frag) (mg : Str → Option Value) (x : Str) (st : Stmt) (ps : List Str) (f : Addr) (fd : FuncData) : Prop where
  F : Fun K x x st f fd
  g : mg x = some (.ref f)
  b : Binds K fd ps []
structure En (K : PySem.W.Frag) (mg : Str → Option Value) : Type where
  a_is_alphabet : Addr
  d_is_alphabet : FuncData
  D_is_alphabet : Dn K mg "is_alphabet" s_is_alphabet ["text"] a_is_alphabet d_is_alphabet
  a_is_word : Addr
  d_is_word : FuncData
  D_is_word : Dn K mg "is_word" s_is_word ["alphabet", "text"] a_is_word d_is_word
  a_check_family : Addr
  d_check_family : FuncData
  D_check_family : Dn K mg "check_family" s_check_family ["family"] a_check_family d_check_family
  a_columns_of : Addr
  d_columns_of : FuncData
  D_columns_of : Dn K mg "columns_of" s_columns_of ["family"] a_columns_of d_columns_of
  a_are_states : Addr
  d_are_states : FuncData
  D_are_states : Dn K mg "_are_states" s_are_states ["numbers", "count"] a_are_states d_are_states
  a_ascend : Addr
  d_ascend : FuncData
  D_ascend : Dn K mg "_ascend" s_ascend ["numbers"] a_ascend d_ascend
  a_law_draws : Addr
  d_law_draws : FuncData
  D_law_draws : Dn K mg "_law_draws" s_law_draws ["script", "many"] a_law_draws d_law_draws
  a_law_take : Addr
  d_law_take : FuncData
  D_law_take : Dn K mg "_law_take" s_law_take ["draws", "many"] a_law_take d_law_take
  a_law_alphabet : Addr
  d_law_alphabet : FuncData
  D_law_alphabet : Dn K mg "_law_alphabet" s_law_alphabet ["draws", "many"] a_law_alphabet d_law_alphabet
  a_law_columns : Addr
  d_law_columns : FuncData
  D_law_columns : Dn K mg "_law_columns" s_law_columns ["family"] a_law_columns d_law_columns
  a_law_family : Addr
  d_law_family : FuncData
  D_law_family : Dn K mg "_law_family" s_law_family ["draws", "most"] a_law_family d_law_family
  a_law_known_family : Addr
  d_law_known_family : FuncData
  D_law_known_family : Dn K mg "_law_known_family" s_law_known_family ["draws"] a_law_known_family d_law_known_family
  a_law_lively : Addr
  d_law_lively : FuncData
  D_law_lively : Dn K mg "_law_lively" s_law_lively ["draws", "most"] a_law_lively d_law_lively
  a_law_with_three : Addr
  d_law_with_three : FuncData
  D_law_with_three : Dn K mg "_law_with_three" s_law_with_three ["draws", "family"] a_law_with_three d_law_with_three
  a_law : Addr
  d_law : FuncData
  D_law : Dn K mg "law" s_law ["script"] a_law d_law
  c_is_word : Addr
  p_is_word : Addr
  FC_is_word : FunC K "is_word" s_is_word a_is_word d_is_word c_is_word
  T_LETTERS : Tok
  C_LETTERS : mg "_LETTERS" = some (.str "abcdefghijklmnopqrstuvwxyz" T_LETTERS)
  T_MOST_LETTERS : Tok
  C_MOST_LETTERS : mg "_MOST_LETTERS" = some (.int 3 T_MOST_LETTERS)
  B : Bi mg
section
variable {P : Program} {w : World} {K : PySem.W.Frag} {mg : Str → Option Value} {base : Heap}
local macro_rules | `(tactic| walk_at "v1") => `(tactic| first
  | with_reducible refine w_seq ?_
  | with_reducible refine w_asg ?_
  | with_reducible refine w_gname ?_
  | ((with_reducible refine w_var (v := ?vv1) ?hv1 ?_); (case hv1 => rfl))
  | with_reducible refine w_c ?_
  | with_reducible refine w_op ?_
  | with_reducible refine w_I0 ?_
  | with_reducible refine w_cons ?_
  | with_reducible refine w_nil ?_
  | with_reducible refine w_cb ?_
  | with_reducible refine w_call ?_
  | with_reducible refine w_if ?_
  | with_reducible refine w_test ?_
  | with_reducible refine w_ex ?_
  | with_reducible refine w_eqI ?_
  | with_reducible refine w_neI ?_
  | with_reducible refine w_eqS ?_
  | with_reducible refine w_neS ?_
  | with_reducible refine w_neB ?_
  | with_reducible refine w_ret ?_
  | with_reducible refine w_drop ?_
  | with_reducible refine w_next ?_
  | with_reducible refine w_U ?_
  | with_reducible refine w_un ?_
  | with_reducible refine w_lst ?_
  | with_reducible refine w_tup ?_
  | with_reducible refine w_sl ?_
  | with_reducible refine w_noP ?_
  | with_reducible refine w_part ?_
  | with_reducible refine w_exI ?_
  | with_reducible refine w_bm ?_
  | with_reducible refine w_bm0 ?_
  | with_reducible refine w_m1 ?_
  | with_reducible refine w_m0 ?_
  | with_reducible refine w_isS ?_
  | with_reducible refine w_not ?_
  | with_reducible refine w_and ?_
  | with_reducible refine w_or ?_
  | with_reducible refine w_B ?_
  | with_reducible refine w_yes ?_
  | with_reducible refine w_ifE ?_
  | with_reducible refine w_notV ?_
  | with_reducible refine w_andV ?_
  | with_reducible refine w_orV ?_
  | with_reducible refine w_chain ?_
  | with_reducible refine w_sub ?_
  | with_reducible refine w_retN ?_
  | with_reducible refine w_brk ?_
  | with_reducible refine w_cont ?_
  | ((with_reducible refine w_aug (x := ?vv1) ?hv1 ?_); (case hv1 => rfl))
  | with_reducible refine w_ip ?_
  | with_reducible refine w_forR1 ?_
  | with_reducible refine w_forR2 ?_
  | with_reducible refine w_forL ?_
  | with_reducible refine w_forT ?_
  | with_reducible refine w_forS ?_
  | with_reducible refine w_lcR1 ?_
  | with_reducible refine w_lcR2 ?_
  | with_reducible refine w_lcL ?_
  | with_reducible refine w_lcT ?_
  | with_reducible refine w_lcS ?_
  | with_reducible refine w_lcZ ?_
  | with_reducible refine w_forZ ?_
  | with_reducible refine w_lcA ?_
  | with_reducible refine w_lcE ?_
  | with_reducible refine w_forE ?_
  | with_reducible refine w_lcZz ?_
  | with_reducible refine w_forZz ?_
  | with_reducible refine w_fmt ?_
  | with_reducible refine w_js0 ?_
  | with_reducible refine w_js1 ?_
  | with_reducible refine w_orT ?_
  | with_reducible refine w_lc2R1 ?_
  | with_reducible refine w_lc2R2 ?_
  | with_reducible refine w_lc2L ?_
  | with_reducible refine w_lc2T ?_
  | with_reducible refine w_lc2S ?_
  | with_reducible refine iteT ?_
  | with_reducible refine iteF ?_
  | with_reducible refine iteNT ?_
  | with_reducible refine iteNF ?_
  | refine ⟨_, rfl, ?_⟩
  | refine ⟨_, _, rfl, rfl, ?_⟩
  | refine .inl ⟨_, rfl, ?_⟩
  | refine .inr ⟨_, rfl, ?_⟩)
local macro_rules | `(tactic| walk_at "v") => `(tactic| repeat (walk_at "v1"))

/-! ### is_word -/
def sp_is_word (K : PySem.W.Frag) (Pt : Addr) : Sp := fun vs H Q _ => ∃ (A : List Nat) (z : Str), vs = [.str (S A), .str z] ∧ GxR.TabG H Pt ∧ ∀ H', GxR.Tabbed Pt H H' → Q (.bl (z.cps.toList.all fun d => decide (d ∈ A))) H'
theorem ok_is_word (E : En K mg) (T : GxR.TabB base mg E.c_is_word E.p_is_word) : FnOk P w K mg base CX0 1 E.a_is_word E.d_is_word ["alphabet", "text"] (sp_is_word K E.p_is_word) := by
  refine E.FC_is_word.ok sc_is_word (fun vs H Q XE h => ?_) (fun A outer s H vs Q XE hr h => ?_)
  · obtain ⟨B, z, rfl, _⟩ := h; rfl
  · obtain ⟨B, z, rfl, hT, q⟩ := h
    refine ⟨_, (pss_one (ps_ret (pe_allC (j := 0) hr (by rfl) E.B.all (by decide +kernel) T rfl (pv 1) rfl rfl (by decide +kernel) rfl rfl rfl (defScope s_is_word) rfl (by decide +kernel) rfl (by decide) (by decide) (by decide) (fun _ => rfl) (by rfl)))), ?_⟩
    walk_at "v"
    exact ⟨hT, q⟩

/-! ### is_alphabet -/
def sp_is_alphabet (K : PySem.W.Frag) (Pt : Addr) : Sp := fun vs H Q _ => ∃ z : Str, vs = [.str z] ∧ z.length ≤ 1000 ∧ (∃ ps : Array Value, H Pt = some (.tbl ps) ∧ TriplesOk ps.toList) ∧ ∀ H', TabS Pt H H' → Q (.bl (isAl z.cps.toList)) H'
theorem ok_is_alphabet (E : En K mg) (T : GxR.TabB base mg E.c_is_word E.p_is_word) : FnOk P w K mg base CX0 2 E.a_is_alphabet E.d_is_alphabet ["text"] (sp_is_alphabet K E.p_is_word) := by
  refine E.D_is_alphabet.F.ok sc_is_alphabet (fun vs H Q XE h => ?_) (fun cdv A outer s H vs Q XE hr h => ?_)
  · obtain ⟨z, rfl, _⟩ := h; rfl
  · obtain ⟨z, rfl, hz, hT, q⟩ := h
    refine ⟨_, (pss_cons (ps_if (pt_not (pt_chain op_le op_le pe_int (pe_callB call_len_str (by rfl) E.B.len PySem.boot_len (pa_cons (pv 0) pa_nil)) (pe_glob (v := .int 3) rfl E.C_MOST_LETTERS ⟨_, rfl⟩))) (pss_one (ps_ret pe_bl)) pss_nil)
      (pss_one (ps_ret (pe_and (pe_call (ok_is_word E T) (hr.mono (by decide)) (by rfl) E.D_is_word.g E.D_is_word.F.kp E.D_is_word.b .nil pass0 (pa_cons (pe_glob (v := .str "abcdefghijklmnopqrstuvwxyz") rfl E.C_LETTERS ⟨_, rfl⟩) (pa_cons (pv 0) pa_nil))) (pe_one (pe_cmpR (k_eqD K hr.units) (pe_callTy (call_list_str rfl) (by rfl) E.B.list (by decide +kernel) (pa_cons (pv 0) pa_nil)) (pe_callB (cr_sortT rfl) (by rfl) E.B.sorted (by decide +kernel) (pa_cons (pe_callTy (call_set_str rfl) (by rfl) E.B.set (by decide +kernel) (pa_cons (pv 0) pa_nil)) pa_nil)) (nomark _))))))), ?_⟩
    generalize E.p_is_word = Pt at hT q ⊢
    have sz : z.length ≤ sizeLine := szl (by omega)
    have zl : z.cps.toList.length = z.length := Array.length_toList
    have bad : isAl z.cps.toList = false → Q (.bl false) H := fun e => by
      have := q H (TabS.refl hT)
      rw [e] at this; exact this
    walk_at "v"
    refine ⟨sz, ?_⟩
    walk_at "v"
    refine ite2 (fun e1 => ?_) (fun e1 => ?_)
    · have e1 := of_decide_eq_true e1
      walk_at "v"
      refine ite2 (fun e2 => ?_) (fun e2 => ?_)
      · walk_at "v"
        refine bad ?_
        have : ¬ (z.length : Int) ≤ 3 := by simpa using e2
        unfold isAl
        rw [decide_eq_false (show ¬ z.cps.toList.length ≤ 3 by omega), Bool.and_false]; rfl
      · have e2 : (z.length : Int) ≤ 3 := by simpa using e2
        have ea : isAl z.cps.toList = ((z.cps.toList.all fun d => decide (97 ≤ d ∧ d ≤ 122)) && ascN z.cps.toList) := by
          unfold isAl
          rw [decide_eq_true (show 1 ≤ z.cps.toList.length by omega), decide_eq_true (show z.cps.toList.length ≤ 3 by omega)]; rfl
        rw [ea] at q
        walk_at "v"
        rw [azE]
        refine ⟨_, z, rfl, hT, fun H1 tb => ?_⟩
        simp only [az_mem]
        have t1 := TabS.of tb
        walk_at "v"
        refine ite2 (fun e3 => ?_) (fun e3 => ?_)
        · rw [e3, Bool.true_and] at q
          walk_at "v"
          refine ⟨sz, fun L1 n1 => ?_⟩
          have t2 := t1.new (o := .lst (z.cps.toList.map fun c => V.str ⟨#[c]⟩)) n1
          walk_at "v"
          refine ⟨hz, fun A2 n2 => ?_⟩
          have t3 := t2.new (o := SetTO w A2 (sgs z)) n2
          have hL : upd (upd H1 L1 (.lst (z.cps.toList.map fun c => V.str ⟨#[c]⟩))) A2 (SetTO w A2 (sgs z)) L1 = some (.lst (z.cps.toList.map fun c => V.str ⟨#[c]⟩)) := by
            rw [upd_ne (ne_of_none upd_same n2)]; exact upd_same
          refine ⟨A2, sgs z, rfl, upd_same, by rw [List.length_map]; omega, fun ys p hn hs hm np => ?_⟩
          have t4 := t3.new (o := .lst (ys.map V.str)) np
          have eL : (z.cps.toList.map fun c => V.str ⟨#[c]⟩) = (sgs z).map V.str := by rw [List.map_map]; rfl
          rw [eL] at hL t4 np ⊢
          refine ⟨.list ((sgs z).map PyData.str), .list (ys.map PyData.str), .lst (.inl (.inl (by rw [upd_ne (ne_of_none hL np)]; exact hL))) (dps_strs _), .lst (.inl (.inl upd_same)) (dps_strs _), shaped_sgs e3 (fun k h => h), shaped_sgs e3 (fun k h => (hm k).mp h), ?_⟩
          have ee : PyData.eqv (.list ((sgs z).map PyData.str)) (.list (ys.map PyData.str)) = ascN z.cps.toList := by
            rw [PyData.eqv, eqv_strs, asc_signs hn hs hm]
          rw [ee]
          exact q _ t4
        · rw [Bool.eq_false_iff.mpr e3, Bool.false_and] at q
          walk_at "v"
          exact q _ t1
    · have e1 : ¬ (1 : Int) ≤ z.length := fun z => e1 (decide_eq_true z)
      walk_at "v"
      refine bad ?_
      unfold isAl
      rw [decide_eq_false (show ¬ 1 ≤ z.cps.toList.length by omega)]; rfl

/-! ### _are_states -/
def okS (n k : Int) : Bool := decide (0 ≤ k) && decide (k < n)
def sp_are_states (K : PySem.W.Frag) : Sp := fun vs H Q _ => ∃ (f : Addr) (ns : List Int) (n : Int), vs = [.ref f, .int n] ∧ SqT K H f (ns.map V.int) ∧ ns.length ≤ 1000 ∧ ∀ H', Same H H' → Q (.bl (ns.all (okS n))) H'
theorem ok_are_states (E : En K mg) : FnOk P w K mg base CX0 1 E.a_are_states E.d_are_states ["numbers", "count"] (sp_are_states K) := by
  refine E.D_are_states.F.ok sc_are_states (fun vs H Q XE h => ?_) (fun cdv A outer s H vs Q XE hr h => ?_)
  · obtain ⟨f, ns, n, rfl, _⟩ := h; rfl
  · obtain ⟨f, ns, n, rfl, hf, hl, q⟩ := h
    refine ⟨_, (pss_one (ps_ret (pe_callB (k_all K rfl) (by rfl) E.B.all (by decide +kernel) (pa_cons (pe_lc (own := [("number", 2)]) (g := gName 2) (tt := tYes) rfl sc_are_states.nd (k_pi_tup K (pv 0)) (blkOk_by (own := [("number", 2)]) (N := N_are_states) (sc := defScope s_are_states) (by decide +kernel)) (fun _ _ _ _ _ => (pg_name (i := 2) sc_are_states.nd rfl (Or.inl rfl))) (fun _ _ _ _ _ => pts_nil) (fun _ _ _ _ _ => (pe_chain op_le op_lt pe_int (pv 2) (pv 1)))) pa_nil)))), ?_⟩
    have O := Ow.start0 (H := H)
    walk_at "v"
    refine ⟨⟨_, hf⟩, ?_⟩
    refine lc_T (fun Dl i H' => Ow H [] H' [(Dl, .lst (((ns.take i).map (okS n)).map V.bl))]) (fun Dl hD => by exact O.new hD) (fun Dl i H' _ O => O.seqT hf) (fun Dl i x H' hx O => ?_) (fun Dl H' O => ?_)
    · obtain ⟨z, hz, rfl⟩ := map_get hx
      have fin : ∀ b, b = okS n z → ∃ acc, H' Dl = some (.lst acc) ∧ acc.length < sizeLine ∧ Ow H [] (upd H' Dl (.lst (acc ++ [.bl b]))) [(Dl, .lst (((ns.take (i + 1)).map (okS n)).map V.bl))] := fun b e => by
        subst e
        refine ⟨_, O.get 0 rfl, szlt (by rw [List.length_map, List.length_map, List.length_take]; omega), ?_⟩
        rw [take_snoc hz, List.map_append, List.map_append]
        exact O.set 0 rfl
      refine w_gname ⟨rfl, ?_⟩
      walk_at "v"
      refine ite2 (fun e => ?_) (fun e => ?_)
      · walk_at "v"
        exact fin _ (by unfold okS; rw [e]; rfl)
      · exact fin _ (by unfold okS; rw [Bool.eq_false_iff.mpr e]; rfl)
    · rw [List.length_map, List.take_length] at O
      walk_at "v"
      refine ⟨Dl, ns.map (okS n), rfl, O.lst 0 rfl, ?_⟩
      rw [List.all_map]
      exact q _ (fun b o h => O.fr b o h (by simp))

/-! ### _ascend -/
def sp_ascend (K : PySem.W.Frag) : Sp := fun vs H Q _ => ∃ (f : Addr) (ns : List Int), vs = [.ref f] ∧ SqT K H f (ns.map V.int) ∧ ns.length ≤ 1000 ∧ ∀ H', Same H H' → Q (.bl (ascI ns)) H'
theorem ok_ascend (E : En K mg) : FnOk P w K mg base CX0 1 E.a_ascend E.d_ascend ["numbers"] (sp_ascend K) := by
  refine E.D_ascend.F.ok sc_ascend (fun vs H Q XE h => ?_) (fun cdv A outer s H vs Q XE hr h => ?_)
  · obtain ⟨f, ns, rfl, _⟩ := h; rfl
  · obtain ⟨f, ns, rfl, hf, hl, q⟩ := h
    refine ⟨_, (pss_one (ps_ret (pe_callB (k_all K rfl) (by rfl) E.B.all (by decide +kernel) (pa_cons (pe_lc (own := [("left", 1), ("right", 2)]) (g := gTup K 2 (gCons (gName 1) (gCons (gName 2) gNil))) (tt := tYes) rfl sc_ascend.nd (RZ.pi_zipA (by rfl) E.B.zip (pa_cons (pv 0) (pa_cons (pe_slice (k_sl_tupA K) (pv 0) (po_some pe_int) po_none) pa_nil))) (blkOk_by (own := [("left", 1), ("right", 2)]) (N := N_ascend) (sc := defScope s_ascend) (by decide +kernel)) (fun _ _ _ _ _ => (pg_tup rfl (pgs_cons (pg_name (i := 1) sc_ascend.nd rfl (Or.inl rfl)) (pgs_cons (pg_name (i := 2) sc_ascend.nd rfl (Or.inl rfl)) pgs_nil)))) (fun _ _ _ _ _ => pts_nil) (fun _ _ _ _ _ => (pe_cmpR op_lt (pv 1) (pv 2) (nomark _)))) pa_nil)))), ?_⟩
    walk_at "v"
    refine w_slA1 hf fun p H1 sm hp => ?_
    have hf1 := seqT_same sm hf
    rw [← List.map_drop] at hp
    walk_at "v"
    refine ⟨f, p, _, _, rfl, .inr ⟨hf1, hp, ?_⟩⟩
    refine lc_ZT (fun Dl i H' => Ow H1 [] H' [(Dl, .lst (((steps2 ns).take i).map V.bl))]) (fun Dl hD => by exact Ow.start0.new hD) (fun Dl i H' _ O => ⟨O.seqT hf1, O.seqT hp⟩) (fun Dl i x y T H' hx hy O hT => ?_) (fun Dl H' O => ?_)
    · obtain ⟨a, ha, rfl⟩ := map_get hx
      obtain ⟨b, hb, rfl⟩ := map_get hy
      have O2 := O.new (o := .tup [.int a, .int b]) hT
      refine w_gtup2 (O2.tup 1 rfl) ⟨rfl, ?_⟩
      walk_at "v"
      have hi := (List.getElem?_eq_some_iff.mp ha).1
      refine ⟨_, O2.get 0 rfl, szlt ?_, ?_⟩
      · rw [List.length_map, List.length_take]; omega
      · have e : (steps2 ns)[i]? = some (decide (a < b)) := by
          unfold steps2
          rw [List.getElem?_map, (List.getElem?_zip_eq_some (z := (a, b))).mpr ⟨ha, hb⟩]; rfl
        rw [take_snoc e, List.map_append]
        exact (O2.set 0 rfl).take 1 (by simp)
    · have e : min (ns.map V.int).length ((ns.drop 1).map V.int).length = (steps2 ns).length := by
        unfold steps2
        rw [List.length_map, List.length_map, List.length_map, List.length_zip]
      rw [e, List.take_length] at O
      walk_at "v"
      refine ⟨Dl, steps2 ns, rfl, O.lst 0 rfl, ?_⟩
      rw [steps2_all]
      exact q _ (fun b o h => O.fr b o (sm b o h) (by simp))

/-! ### columns_of -/
def sp_columns_of (K : PySem.W.Frag) : Sp := fun vs H Q _ => ∃ (f : Addr) (A B : List Nat) (rest : List V), vs = [.ref f] ∧ SqT K H f (.str (S A) :: .str (S B) :: rest) ∧ A.length ≤ 3 ∧ B.length ≤ 3 ∧
  ∀ (H' : Hp) (p : Addr), Same H H' → Dp K H' (.ref p) (.tuple (colsD A B)) → Q (.ref p) H'
theorem ok_columns_of (E : En K mg) : FnOk P w K mg base CX0 1 E.a_columns_of E.d_columns_of ["family"] (sp_columns_of K) := by
  refine E.D_columns_of.F.ok sc_columns_of (fun vs H Q XE h => ?_) (fun cdv A outer s H vs Q XE hr h => ?_)
  · obtain ⟨f, A, B, rest, rfl, _⟩ := h; rfl
  · obtain ⟨f, A, B, rest, rfl, hf, hA, hB, q⟩ := h
    refine ⟨_, (pss_cons (ps_set (i := 1) sc_columns_of.nd rfl (Or.inl rfl) (pe_op op_cat (pe_callTy (call_list_str rfl) (by rfl) E.B.list (by decide +kernel) (pa_cons (pe_ix (k_ix_tup K) (pv 0) pe_int (fun _ _ => rfl)) pa_nil)) (pe_lst (pa_cons pe_str pa_nil))))
      (pss_cons (ps_set (i := 2) sc_columns_of.nd rfl (Or.inr rfl) (pe_op op_cat (pe_callTy (call_list_str rfl) (by rfl) E.B.list (by decide +kernel) (pa_cons (pe_ix (k_ix_tup K) (pv 0) pe_int (fun _ _ => rfl)) pa_nil)) (pe_lst (pa_cons pe_str pa_nil))))
      (pss_cons (ps_setLc2 (i := 3) (own := [("left", 4), ("right", 5)]) (vs1 := [5]) (g := gName 4) (tt := tYes) (g1 := gName 5) (tt1 := tYes) rfl sc_columns_of.nd rfl rfl (sw_true rfl rfl rfl (by decide +kernel)) (k_pi_list K (pv 1)) (blkOk_by (own := [("left", 4), ("right", 5)]) (N := N_columns_of) (sc := defScope s_columns_of) (by decide +kernel)) (by decide) (fun _ _ _ _ _ => (pg_name (i := 4) sc_columns_of.nd rfl (Or.inl rfl))) (fun _ _ _ _ _ => pts_nil) (fun _ _ _ _ _ => (k_pi_list K (pv 2))) (fun _ _ _ _ _ => (pg_name (i := 5) sc_columns_of.nd rfl (Or.inl rfl))) (fun _ _ _ _ _ => pts_nil) (fun _ _ _ _ _ => (pe_tup (pa_cons (pv 4) (pa_cons (pv 5) pa_nil)))))
      (pss_one (ps_ret (pe_callTy (k_tuple_of K) (by rfl) E.B.tuple (by decide +kernel) (pa_cons (pe_slice (k_sl_list K) (pv 3) po_none (po_some (pe_un un_neg pe_int))) pa_nil))))))), ?_⟩
    have O := Ow.start0 (H := H)
    have lA := lf_small hA
    have lB := lf_small hB
    walk_at "v"
    refine w_ixT hf (atI_nat (j := 0) rfl) ?_
    refine ⟨_, rfl, szl (by rw [S_len]; omega), fun L1 h1 => ?_⟩
    have O := O.new (o := .lst ((S A).cps.toList.map fun c => V.str ⟨#[c]⟩)) h1
    walk_at "v"
    refine ⟨szl (by simp), fun L2 h2 => ?_⟩
    have O := O.new (o := .lst [.str (PySem.Str.ofString "")]) h2
    refine ⟨_, _, _, _, rfl, rfl, O.get 0 rfl, O.get 1 rfl, szl ?_, fun L3 h3 => ?_⟩
    · rw [List.length_map, S_tl]; simp; omega
    have O := O.new (o := .lst (((S A).cps.toList.map fun c => V.str ⟨#[c]⟩) ++ [V.str (PySem.Str.ofString "")])) h3
    rw [lf_V] at O ⊢
    walk_at "v"
    refine w_ixT (O.seqT hf) (atI_nat (j := 1) rfl) ?_
    refine ⟨_, rfl, szl (by rw [S_len]; omega), fun L4 h4 => ?_⟩
    have O := O.new (o := .lst ((S B).cps.toList.map fun c => V.str ⟨#[c]⟩)) h4
    walk_at "v"
    refine ⟨szl (by simp), fun L5 h5 => ?_⟩
    have O := O.new (o := .lst [.str (PySem.Str.ofString "")]) h5
    refine ⟨_, _, _, _, rfl, rfl, O.get 3 rfl, O.get 4 rfl, szl ?_, fun L6 h6 => ?_⟩
    · rw [List.length_map, S_tl]; simp; omega
    have O := O.new (o := .lst (((S B).cps.toList.map fun c => V.str ⟨#[c]⟩) ++ [V.str (PySem.Str.ofString "")])) h6
    rw [lf_V] at O ⊢
    have O := O.sub (L' := [(L3, .lst (wds (lf A))), (L6, .lst (wds (lf B)))]) (by simp) (by simp)
    walk_at "v"
    generalize hH1 : upd _ L6 _ = H1 at O ⊢
    refine ⟨⟨_, O.lst 0 rfl⟩, ?_⟩
    refine lc2_L (fun Dl j H' => ∃ xs : List V, Ow H [] H' [(L3, .lst (wds (lf A))), (L6, .lst (wds (lf B))), (Dl, .lst xs)] ∧ DpAll K H' xs (prodD ((lf A).take j) (lf B))) (fun Dl hD => ⟨[], O.new hD, .nil⟩) (fun Dl j H' _ h => by obtain ⟨_, O, _⟩ := h; exact O.lst 0 rfl) (fun Dl j x H' hx h => ?_) (fun Dl H' h => ?_)
    · obtain ⟨xs, O, hxs⟩ := h
      obtain ⟨u, hu, rfl⟩ := mem_wds hx
      have hj := (List.getElem?_eq_some_iff.mp hu).1
      refine w_gname ⟨rfl, ?_⟩
      walk_at "v"
      refine ⟨⟨_, O.lst 1 rfl⟩, ?_⟩
      refine lcIn_L (xs := wds (lf B)) (fun m H' => ∃ xs : List V, Ow H [] H' [(L3, .lst (wds (lf A))), (L6, .lst (wds (lf B))), (Dl, .lst xs)] ∧ DpAll K H' xs (prodD ((lf A).take j) (lf B) ++ ((lf B).take m).map fun r => pairD u r)) (by exact ⟨xs, O, by simpa using hxs⟩) (fun m H' _ h => by obtain ⟨_, O, _⟩ := h; exact O.lst 1 rfl) (fun m x H' hx h => ?_) (fun H' h => ?_)
      · obtain ⟨xs, O, hxs⟩ := h
        obtain ⟨r, hr2, rfl⟩ := mem_wds hx
        have hm := (List.getElem?_eq_some_iff.mp hr2).1
        refine w_gname ⟨rfl, ?_⟩
        walk_at "v"
        refine ⟨szl (by simp), fun P hP => ?_⟩
        have O2 := O.new (o := .tup [.str (S u), .str (S r)]) hP
        have ht : tupOs (prodD ((lf A).take j) (lf B) ++ ((lf B).take m).map fun r => pairD u r) = true := tupOs_app (prod_tup _ _) (tupOs_of fun d hd => by obtain ⟨x, _, rfl⟩ := List.mem_map.mp hd; exact pair_tup _ _)
        have d1 := dps_tk (TK.new (o := .tup [.str (S u), .str (S r)]) hP) _ _ ht hxs
        have d2 : Dp K _ (.ref P) (pairD u r) := .tup (O2.tup 3 rfl) (.cons (.str _) (.cons (.str _) .nil))
        have d3 := dps_app d1 (.cons d2 .nil)
        have hl : xs.length ≤ 100 := by
          rw [dps_len hxs, List.length_append, prod_len, List.length_map, List.length_take, List.length_take]
          have : min j (lf A).length * (lf B).length ≤ 4 * 4 := Nat.mul_le_mul (by omega) lB
          omega
        refine ⟨_, O2.get 2 rfl, szlt (by omega), xs ++ [.ref P], ?_, ?_⟩
        · exact (O2.set (o' := .lst (xs ++ [.ref P])) 2 rfl).take 3 (by simp)
        · rw [take_snoc hr2, List.map_append, ← List.append_assoc]
          refine dps_tk (TK.chg (O2.get 2 rfl)) _ _ (tupOs_app ht ?_) d3
          simp [tupOs, pair_tup]
      · obtain ⟨xs, O, hxs⟩ := h
        refine ⟨xs, O, ?_⟩
        rw [List.length_map, List.take_length] at hxs
        rw [prod_snoc hu]; exact hxs
    · obtain ⟨xs, O, hxs⟩ := h
      rw [List.length_map, List.take_length] at hxs
      walk_at "v"
      refine ⟨Dl, xs, rfl, O.lst 2 rfl, fun p hp => ?_⟩
      rw [cut_last]
      have k1 := TK.new (o := .lst xs.dropLast) hp
      have O := O.new (o := .lst xs.dropLast) hp
      refine ⟨p, xs.dropLast, rfl, .inl ⟨O.lst 3 rfl, fun p2 hp2 => ?_⟩⟩
      have k2 := TK.new (o := .tup xs.dropLast) hp2
      have O := O.new (o := .tup xs.dropLast) hp2
      exact q _ p2 (fun b o h => O.fr b o h (by simp)) (.tup (O.tup 4 rfl) (dps_tk (k1.trans k2) _ _ (cols_tup A B) (dps_last hxs)))

/-! ### check_family -/
def sp_check_family (K : PySem.W.Frag) (Pt : Addr) : Sp := fun vs H Q _ => ∃ (v : V) (F : Fam), vs = [v] ∧ F.Ok ∧ Dp K H v F.D ∧ (∃ ps : Array Value, H Pt = some (.tbl ps) ∧ TriplesOk ps.toList) ∧ ∀ H', TabS Pt H H' → Q .non H'
theorem ok_check_family (E : En K mg) (T : GxR.TabB base mg E.c_is_word E.p_is_word) : FnOk P w K mg base CX0 3 E.a_check_family E.d_check_family ["family"] (sp_check_family K E.p_is_word) := by
  refine E.D_check_family.F.ok sc_check_family (fun vs H Q XE h => ?_) (fun cdv A outer s H vs Q XE hr h => ?_)
  · obtain ⟨v, F, rfl, _⟩ := h; rfl
  · obtain ⟨v, F, rfl, hF, hv, hT, q⟩ := h
    refine ⟨_, (pss_cons (ps_asg (pv 0) (pg_tup rfl (pgs_cons (pg_name (i := 4) sc_check_family.nd rfl (Or.inl rfl)) (pgs_cons (pg_name (i := 5) sc_check_family.nd rfl (Or.inl rfl)) (pgs_cons (pg_name (i := 6) sc_check_family.nd rfl (Or.inl rfl)) (pgs_cons (pg_name (i := 7) sc_check_family.nd rfl (Or.inl rfl)) (pgs_cons (pg_name (i := 8) sc_check_family.nd rfl (Or.inl rfl)) pgs_nil)))))))
      (pss_cons (ps_if (PW.pt (pw_or (pt_not (pt_val (pe_call (ok_is_alphabet E T) (hr.mono (by decide)) (by rfl) E.D_is_alphabet.g E.D_is_alphabet.F.kp E.D_is_alphabet.b .nil pass0 (pa_cons (pv 4) pa_nil)))) (pw_or1 (pt_not (pt_val (pe_call (ok_is_alphabet E T) (hr.mono (by decide)) (by rfl) E.D_is_alphabet.g E.D_is_alphabet.F.kp E.D_is_alphabet.b .nil pass0 (pa_cons (pv 5) pa_nil))))))) (pss_one ps_quiet) pss_nil)
      (pss_cons (ps_set (i := 1) sc_check_family.nd rfl (Or.inl rfl) (pe_callB (k_len_seq K) (by rfl) E.B.len PySem.boot_len (pa_cons (pv 8) pa_nil)))
      (pss_cons (ps_if (pt_not (pt_val (pe_call (ok_are_states E) (hr.mono (by decide)) (by rfl) E.D_are_states.g E.D_are_states.F.kp E.D_are_states.b .nil pass0 (pa_cons (pe_tup (pa_cons (pv 6) pa_nil)) (pa_cons (pv 1) pa_nil))))) (pss_one ps_quiet) pss_nil)
      (pss_cons (ps_if (PW.pt (pw_or (pt_not (pt_val (pe_call (ok_are_states E) (hr.mono (by decide)) (by rfl) E.D_are_states.g E.D_are_states.F.kp E.D_are_states.b .nil pass0 (pa_cons (pv 7) (pa_cons (pv 1) pa_nil))))) (pw_or1 (pt_not (pt_val (pe_call (ok_ascend E) (hr.mono (by decide)) (by rfl) E.D_ascend.g E.D_ascend.F.kp E.D_ascend.b .nil pass0 (pa_cons (pv 7) pa_nil))))))) (pss_one ps_quiet) pss_nil)
      (pss_cons (ps_set (i := 2) sc_check_family.nd rfl (Or.inl rfl) (pe_callB (k_len_seq K) (by rfl) E.B.len PySem.boot_len (pa_cons (pe_call (ok_columns_of E) (hr.mono (by decide)) (by rfl) E.D_columns_of.g E.D_columns_of.F.kp E.D_columns_of.b .nil pass0 (pa_cons (pv 0) pa_nil)) pa_nil)))
      (pss_one (ps_for PassesOwn.never rfl (k_pi_tup K (pv 8)) (pg_name (i := 3) sc_check_family.nd rfl (Or.inl rfl)) (pss_one (ps_if (PW.pt (pw_or (pt_cmpR op_ne (pe_callB (k_len_seq K) (by rfl) E.B.len PySem.boot_len (pa_cons (pv 3) pa_nil)) (pv 2) (nomark _)) (pw_or1 (pt_not (pt_val (pe_call (ok_are_states E) (hr.mono (by decide)) (by rfl) E.D_are_states.g E.D_are_states.F.kp E.D_are_states.b .nil pass0 (pa_cons (pv 3) (pa_cons (pv 1) pa_nil)))))))) (pss_one ps_quiet) pss_nil)))))))))), ?_⟩
    generalize E.p_is_word = Pt at hT q ⊢
    obtain ⟨f, m, tt, rs, rfl, hf, hm, htt, hrs⟩ := fam_un hv
    have hA3 := hF.an.le
    have hB3 := hF.at_.le
    have hl := hF.le
    have hst := hF.st
    have hml := hF.ml
    have hrl : rs.length = F.sp.length := by rw [dps_len hrs, List.length_map]
    walk_at "v"
    refine ⟨f, _, rfl, hf, rfl, ?_⟩
    refine ⟨_, _, rfl, _, _, rfl, _, _, rfl, _, _, rfl, _, _, rfl, rfl, ?_⟩
    walk_at "v"
    refine ⟨by rw [S_len]; omega, hT, fun H1 t1 => ?_⟩
    have e1 : isAl (S F.nm).cps.toList = true := al_isAl hF.an
    have e2 : isAl (S F.th).cps.toList = true := al_isAl hF.at_
    rw [e1]
    walk_at "v"
    refine ⟨by rw [S_len]; omega, t1.1, fun H2 t2 => ?_⟩
    rw [e2]
    have t3 := t1.trans t2
    clear t1 t2
    walk_at "v"
    refine ⟨tt, rs, rfl, .inr (t3.seqT hT htt), ?_⟩
    walk_at "v"
    refine ⟨szl (by simp), fun p hp => ?_⟩
    have t4 := t3.new (o := .tup [.int (F.st : Int)]) hp
    walk_at "v"
    refine ⟨p, [(F.st : Int)], _, rfl, .inl (.inl upd_same), by simp, fun H3 sm => ?_⟩
    have t5 := t4.trans (TabS.same t4.1 sm)
    have e3 : [(F.st : Int)].all (okS (rs.length : Int)) = true := by
      simp [okS]; omega
    rw [e3]
    walk_at "v"
    have em : (ivs F.mr) = (F.mr.map fun x : Nat => (x : Int)).map V.int := by rw [List.map_map]; rfl
    have hm5 := t5.seqT hT hm
    rw [em] at hm5
    refine ⟨m, _, _, rfl, hm5, by rw [List.length_map]; omega, fun H4 sm4 => ?_⟩
    have t6 := t5.trans (TabS.same t5.1 sm4)
    have e4 : (F.mr.map fun x : Nat => (x : Int)).all (okS (rs.length : Int)) = true := by
      rw [List.all_map, List.all_eq_true]
      intro x hx
      have := hF.ms.1 x hx
      simp [okS]; omega
    rw [e4]
    walk_at "v"
    have hm6 := t6.seqT hT hm
    rw [em] at hm6
    refine ⟨m, _, rfl, hm6, by rw [List.length_map]; omega, fun H5 sm5 => ?_⟩
    have t7 := t6.trans (TabS.same t6.1 sm5)
    have e5 : ascI (F.mr.map fun x : Nat => (x : Int)) = true := by
      unfold ascI
      rw [decide_eq_true]
      rw [List.pairwise_map]
      exact hF.ms.2.imp fun h => by omega
    rw [e5]
    walk_at "v"
    refine ⟨f, F.nm, F.th, _, rfl, t7.seqT hT hf, hA3, hB3, fun H6 c sm6 hc => ?_⟩
    have t8 := t7.trans (TabS.same t7.1 sm6)
    walk_at "v"
    obtain ⟨cs, hcs, hcl⟩ : ∃ cs, SqT K H6 c cs ∧ cs.length = (F.nm.length + 1) * (F.th.length + 1) - 1 := by
      cases hc with | tup h1 h2 => exact ⟨_, h1, by rw [dps_len h2, cols_len]⟩
    refine ⟨c, cs, rfl, .inr hcs, ?_⟩
    rw [hcl]
    generalize hW : (F.nm.length + 1) * (F.th.length + 1) - 1 = W
    walk_at "v"
    refine ⟨⟨_, t8.seqT hT htt⟩, ?_⟩
    refine for_T (xs := rs) (fun i σ' H' => ∃ y3 : Option V, σ' = [some (.ref f), some (.int (rs.length : Int)), some (.int (W : Int)), y3, some (.str (S F.nm)), some (.str (S F.th)), some (.int (F.st : Int)), some (.ref m), some (.ref tt)] ∧ TabS Pt H H') (by exact ⟨_, rfl, t8⟩) (fun i σ' H' _ h => by obtain ⟨_, _, t⟩ := h; exact t.seqT hT htt) ?_ ?_
    · rintro i x σ' H' hx ⟨y3, rfl, t⟩
      have hi := (List.getElem?_eq_some_iff.mp hx).1
      obtain ⟨r, hr1⟩ : ∃ r, F.sp[i]? = some r := ⟨_, List.getElem?_eq_getElem (by omega)⟩
      obtain ⟨p2, hp2, hpr⟩ := fam_row hrs hr1
      obtain rfl : x = .ref p2 := by rw [hx] at hp2; exact Option.some.inj hp2
      obtain ⟨r1, r2⟩ := hF.row r (List.mem_of_getElem? hr1)
      have hpr := t.seqT hT hpr
      walk_at "v"
      refine ⟨p2, _, rfl, .inr hpr, ?_⟩
      walk_at "v"
      have el : (ivs r).length = W := by rw [List.length_map, r1]; exact hW
      rw [el, decide_eq_true rfl]
      refine iteNT ?_
      walk_at "v"
      have er : ivs r = (r.map fun x : Nat => (x : Int)).map V.int := by rw [List.map_map]; rfl
      rw [er] at hpr
      have hr1000 : r.length ≤ 1000 := by
        have : (F.nm.length + 1) * (F.th.length + 1) ≤ 4 * 4 := Nat.mul_le_mul (by omega) (by omega)
        omega
      refine ⟨p2, _, _, rfl, hpr, by rw [List.length_map]; exact hr1000, fun H7 sm7 => ?_⟩
      have e6 : (r.map fun x : Nat => (x : Int)).all (okS (rs.length : Int)) = true := by
        rw [List.all_map, List.all_eq_true]
        intro x hx
        have := r2 x hx
        simp [okS]; omega
      rw [e6]
      walk_at "v"
      exact t.trans (TabS.same t.1 sm7)
    · rintro σ' H' ⟨y3, rfl, t⟩
      exact q _ t

/-! ### _law_draws -/
def sp_law_draws (K : PySem.W.Frag) : Sp := fun vs H Q _ => ∃ (a : Addr) (ns : List Int) (m : Int), vs = [.ref a, .int m] ∧ SqL K H a (ns.map V.int) ∧ ns.length ≤ 63 ∧ 0 ≤ m ∧ m ≤ 1000 ∧
  ∀ (H' : Hp) (p : Addr) (ds : List Int), Same H H' → H p = none → H' p = some (.lst (ds.map V.int)) → Dr ds → Q (.ref p) H'
theorem ok_law_draws (E : En K mg) : FnOk P w K mg base CX0 1 E.a_law_draws E.d_law_draws ["script", "many"] (sp_law_draws K) := by
  refine E.D_law_draws.F.ok sc_law_draws (fun vs H Q XE h => ?_) (fun cdv A outer s H vs Q XE hr h => ?_)
  · obtain ⟨a, ds, m, rfl, _⟩ := h; rfl
  · obtain ⟨a, ns, m, rfl, hS, hn, hm0, hm, q⟩ := h
    refine ⟨_, (pss_cons (ps_setLc (i := 2) (own := [("cell", 7)]) (g := gName 7) (tt := tYes) rfl sc_law_draws.nd rfl rfl (sw_true rfl rfl rfl (by decide +kernel)) (k_pi_list K (pv 0)) (blkOk_by (own := [("cell", 7)]) (N := N_law_draws) (sc := defScope s_law_draws) (by decide +kernel)) (fun _ _ _ _ _ => (pg_name (i := 7) sc_law_draws.nd rfl (Or.inl rfl))) (fun _ _ _ _ _ => pts_nil) (fun _ _ _ _ _ => (pe_callTy call_int1 (by rfl) E.B.int (by decide +kernel) (pa_cons (pv 7) pa_nil))))
      (Evl.pss_cut (ps_if (pt_cmpR op_eq (pe_callB (k_len_seq K) (by rfl) E.B.len PySem.boot_len (pa_cons (pv 2) pa_nil)) pe_int (nomark _)) (pss_one (ps_expr (pe_bm PySem.F.plainAttrs_list PySem.F.slot_list_append PySem.F.type_list_append mt_append (pv 2) (pa_cons pe_int pa_nil)))) pss_nil)
      (pss_cons (ps_set (i := 3) sc_law_draws.nd rfl (Or.inl rfl) (pe_callTy (k_list_of K) (by rfl) E.B.list (by decide +kernel) (pa_cons (pv 2) pa_nil)))
      (pss_cons (ps_set (i := 4) sc_law_draws.nd rfl (Or.inl rfl) (pe_lst pa_nil))
      (pss_cons (ps_for PassesOwn.never rfl (pi_range1 (by rfl) E.B.range (pa_cons (pv 1) pa_nil)) (pg_name (i := 5) sc_law_draws.nd rfl (Or.inl rfl)) (pss_cons (ps_set (i := 6) sc_law_draws.nd rfl (Or.inl rfl) (pe_op op_mod (pv 5) (pe_callB (k_len_seq K) (by rfl) E.B.len PySem.boot_len (pa_cons (pv 2) pa_nil))))
      (pss_one (ps_if (pt_cmpR op_ge (pe_ix (k_ix_list K) (pv 2) (pv 6) (fun _ _ => rfl)) (pe_op op_pow pe_int pe_int) (nomark _)) (pss_cons (ps_expr (pe_bm PySem.F.plainAttrs_list PySem.F.slot_list_append PySem.F.type_list_append mt_append (pv 4) (pa_cons (pe_op op_mod (pe_callTy call_int1 (by rfl) E.B.int (by decide +kernel) (pa_cons (pe_ix (k_ix_list K) (pv 3) (pv 6) (fun _ _ => rfl)) pa_nil)) pe_int) pa_nil)))
      (pss_one (ps_asg (pe_op op_fdiv (pe_ix (k_ix_list K) (pv 3) (pv 6) (fun _ _ => rfl)) pe_int) (pg_sub (pv 3) (pv 6) set_list)))) (pss_cons (ps_set (i := 8) sc_law_draws.nd rfl (Or.inl rfl) (pe_op op_mod (pe_callTy call_int1 (by rfl) E.B.int (by decide +kernel) (pa_cons (pe_op op_add (pe_op op_add (pe_op op_mul (pe_ix (k_ix_list K) (pv 2) (pv 6) (fun _ _ => rfl)) pe_int) (pe_op op_mul (pv 5) pe_int)) pe_int) pa_nil)) pe_int))
      (pss_one (ps_expr (pe_bm PySem.F.plainAttrs_list PySem.F.slot_list_append PySem.F.type_list_append mt_append (pv 4) (pa_cons (pe_op op_mod (pe_callTy call_int1 (by rfl) E.B.int (by decide +kernel) (pa_cons (pe_op op_add (pe_op op_add (pe_op op_mul (pv 8) (pv 8)) (pe_op op_mul pe_int (pv 8))) (pv 5)) pa_nil)) pe_int) pa_nil)))))))))
      (pss_cons (ps_expr (pe_bm0 PySem.F.plainAttrs_list PySem.F.slot_list_reverse PySem.F.type_list_reverse mt_reverse (pv 4)))
      (pss_one (ps_ret (pv 4))))))))), ?_⟩
    have O0 : Ow H [] H [] := Ow.start0
    walk_at "v"
    refine ⟨⟨_, hS⟩, ?_⟩
    refine lc_L (fun C i H' => Ow H [] H' [(C, .lst ((ns.map V.int).take i))]) (fun C hC => O0.new hC) (fun C i H' _ O => O.seqL hS (by simp)) (fun C i x H' hx O => ?_) (fun C H1 O => ?_)
    · obtain ⟨z, hz, rfl⟩ := map_get hx
      walk_at "v"
      refine ⟨rfl, ?_⟩
      walk_at "v"
      refine ⟨_, O.get 0 rfl, szlt ?_, ?_⟩
      · rw [List.length_take, List.length_map]; omega
      · have := O.set (o' := .lst ((ns.map V.int).take i ++ [.int z])) 0 rfl
        rw [take_snoc hx]; exact this
    · rw [List.take_length] at O
      refine w_gname ?_
      refine w_cut (fun σ' H' => ∃ cs : List Int, σ' = [some (.ref a), some (.int m), some (.ref C), none, none, none, none, none, none] ∧ cs ≠ [] ∧ cs.length ≤ 64 ∧ Ow H [] H' [(C, .lst (cs.map V.int))]) ?_ ?_
      · walk_at "v"
        refine ⟨_, _, rfl, .inl (O.lst 0 rfl), ?_⟩
        walk_at "v"
        refine ite2 (fun e => ?_) (fun e => ?_)
        · walk_at "v"
          refine w_tyL (O.lst 0 rfl) ?_
          walk_at "v"
          refine w_append (O.get 0 rfl) (szlt (by rw [List.length_map]; omega)) ?_
          refine ⟨[0], rfl, by simp, by simp, ?_⟩
          have e1 := of_decide_eq_true e
          have e2 : ns = [] := by
            cases ns with
            | nil => rfl
            | cons z zs => rw [List.length_map, List.length_cons] at e1; omega
          subst e2
          exact O.set 0 rfl
        · walk_at "v"
          refine ⟨ns, rfl, ?_, by omega, O⟩
          rintro rfl; exact e rfl
      · rintro σ' H1 ⟨cs, rfl, hc0, hc, O⟩
        have hl : 0 < cs.length := List.length_pos_iff.mpr hc0
        walk_at "v"
        refine ⟨_, _, rfl, .inl (O.lst 0 rfl), fun R hR => ?_⟩
        have O1 := O.new (o := .lst (cs.map V.int)) hR
        walk_at "v"
        refine ⟨Nat.zero_le _, fun Dd hD => ?_⟩
        have O2 := O1.new (o := .lst []) hD
        walk_at "v"
        refine ⟨by omega, by omega, ?_⟩
        refine for_R (fun i σ' H' => ∃ (y5 y6 y7 y8 : Option V) (rs ds : List Int), σ' = [some (.ref a), some (.int m), some (.ref C), some (.ref R), some (.ref Dd), y5, y6, y7, y8] ∧ rs.length = cs.length ∧ (∀ d ∈ ds, (0 : Int) ≤ d) ∧ ds.length = i ∧
          Ow H [] H' [(C, .lst (cs.map V.int)), (R, .lst (rs.map V.int)), (Dd, .lst (ds.map V.int))]) (by exact ⟨_, _, _, _, cs, [], rfl, rfl, by simp, rfl, O2⟩) ?_ ?_
        · rintro i σ' H' hi ⟨y5, y6, y7, y8, rs, ds, rfl, hr', hd0, hdi, O⟩
          walk_at "v"
          refine ⟨_, _, rfl, .inl (O.lst 0 rfl), ?_⟩
          walk_at "v"
          refine ⟨by show (0 : Int) < _; rw [List.length_map]; omega, ?_⟩
          obtain ⟨j, hj, ej⟩ : ∃ j : Nat, j < cs.length ∧ ((0 : Int) + (i : Int)) % ((cs.map V.int).length : Int) = (j : Int) := by
            refine ⟨i % cs.length, Nat.mod_lt _ hl, ?_⟩
            rw [List.length_map]; simp
          simp only [ej]
          walk_at "v"
          have hcj : (cs.map V.int)[j]? = some (.int cs[j]) := by rw [List.getElem?_map, List.getElem?_eq_getElem hj]; rfl
          have hrj : (rs.map V.int)[j]? = some (.int (rs[j]'(by omega))) := by rw [List.getElem?_map, List.getElem?_eq_getElem (by omega)]; rfl
          refine w_ixL (O.lst 0 rfl) (atI_nat hcj) ?_
          walk_at "v"
          refine ⟨⟨by decide, by decide, by decide⟩, ?_⟩
          walk_at "v"
          have szd : (ds.map V.int).length < sizeLine := szlt (by rw [List.length_map]; omega)
          refine ite2 (fun e => ?_) (fun e => ?_)
          · walk_at "v"
            refine w_tyL (O.lst 2 rfl) ?_
            walk_at "v"
            refine w_ixL (O.lst 1 rfl) (atI_nat hrj) ?_
            walk_at "v"
            refine ⟨by show (0 : Int) < 1000; decide, ?_⟩
            walk_at "v"
            refine w_append (O.get 2 rfl) szd ?_
            walk_at "v"
            have O := O.set (o' := .lst (ds.map V.int ++ [.int (rs[j]'(by omega) % 1000)])) 2 rfl
            refine w_ixL (O.lst 1 rfl) (atI_nat hrj) ?_
            walk_at "v"
            refine ⟨⟨by decide, by decide⟩, ?_⟩
            walk_at "v"
            refine ⟨_, _, _, j, rfl, rfl, O.get 1 rfl, Evl.ixN_nat (by rw [List.length_map]; omega), ?_⟩
            refine ⟨_, _, _, _, rs.set j (rs[j]'(by omega) / 1000), ds ++ [rs[j]'(by omega) % 1000], rfl, by rw [List.length_set]; exact hr', ?_, by rw [List.length_append]; simp; omega, ?_⟩
            · intro d hd
              rcases List.mem_append.mp hd with h | h
              · exact hd0 d h
              · rw [List.mem_singleton.mp h]; exact Int.emod_nonneg _ (by decide)
            · have := O.set (o' := .lst ((rs.map V.int).set j (.int (rs[j]'(by omega) / 1000)))) 1 rfl
              rw [List.map_set, List.map_append]; exact this
          · walk_at "v"
            refine w_ixL (O.lst 0 rfl) (atI_nat hcj) ?_
            walk_at "v"
            refine ⟨.inr ⟨by decide, by decide⟩, ?_⟩
            walk_at "v"
            refine ⟨.inr ⟨by decide, by decide⟩, ?_⟩
            walk_at "v"
            refine ⟨by show (0 : Int) < 2147483647; decide, ?_⟩
            walk_at "v"
            dsimp only
            generalize hmx : (cs[j] * 48271 + (0 + (i : Int)) * 69621 + 11) % 2147483647 = mx
            have hm1 : 0 ≤ mx := by rw [← hmx]; exact Int.emod_nonneg _ (by decide)
            have hm2 : mx < 2147483647 := by rw [← hmx]; exact Int.emod_lt_of_pos _ (by decide)
            refine w_tyL (O.lst 2 rfl) ?_
            walk_at "v"
            refine ⟨.inl ⟨by omega, by omega⟩, ?_⟩
            walk_at "v"
            refine ⟨.inl ⟨by decide, by decide⟩, ?_⟩
            walk_at "v"
            refine ⟨by show (0 : Int) < 1000003; decide, ?_⟩
            walk_at "v"
            refine w_append (O.get 2 rfl) szd ?_
            refine ⟨_, _, _, _, rs, ds ++ [(mx * mx + 3 * mx + (0 + (i : Int))) % 1000003], rfl, hr', ?_, by rw [List.length_append]; simp; omega, ?_⟩
            · intro d hd
              rcases List.mem_append.mp hd with h | h
              · exact hd0 d h
              · rw [List.mem_singleton.mp h]; exact Int.emod_nonneg _ (by decide)
            · have := O.set (o' := .lst (ds.map V.int ++ [.int ((mx * mx + 3 * mx + (0 + (i : Int))) % 1000003)])) 2 rfl
              rw [List.map_append]; exact this
        · rintro σ' H' ⟨y5, y6, y7, y8, rs, ds, rfl, hr', hd0, hdi, O⟩
          walk_at "v"
          refine w_tyL (O.lst 2 rfl) ?_
          refine ⟨_, _, rfl, rfl, O.get 2 rfl, ?_⟩
          walk_at "v"
          have O := O.set (o' := .lst (ds.map V.int).reverse) 2 rfl
          refine q _ Dd ds.reverse (fun b o h => O.fr b o h (by simp)) (O1.free hD).2 ?_ ⟨fun d hd => hd0 d (List.mem_reverse.mp hd), ?_⟩
          · rw [List.map_reverse]; exact O.get 2 rfl
          · rw [List.length_reverse]; omega

/-! ### _law_take -/
def sp_law_take (K : PySem.W.Frag) : Sp := fun vs H Q _ => ∃ (a : Addr) (ds : List Int) (m : Int), vs = [.ref a, .int m] ∧ H a = some (.lst (ds.map V.int)) ∧ Dr ds ∧ 1 ≤ m ∧
  ∀ (r : Int) (ds' : List Int), 0 ≤ r → r < m → Dr ds' → Q (.int r) (upd H a (.lst (ds'.map V.int)))
theorem ok_law_take (E : En K mg) : FnOk P w K mg base CX0 1 E.a_law_take E.d_law_take ["draws", "many"] (sp_law_take K) := by
  refine E.D_law_take.F.ok sc_law_take (fun vs H Q XE h => ?_) (fun cdv A outer s H vs Q XE hr h => ?_)
  · obtain ⟨a, ds, m, rfl, _⟩ := h; rfl
  · obtain ⟨a, ds, m, rfl, hd, hD, hm, q⟩ := h
    refine ⟨_, (pss_cons (ps_if (pt_cmpR op_eq (pe_callB (k_len_seq K) (by rfl) E.B.len PySem.boot_len (pa_cons (pv 0) pa_nil)) pe_int (nomark _)) (pss_one (ps_ret pe_int)) pss_nil)
      (pss_one (ps_ret (pe_op op_mod (pe_callTy call_int1 (by rfl) E.B.int (by decide +kernel) (pa_cons (pe_bm0 PySem.F.plainAttrs_list PySem.F.slot_list_pop PySem.F.type_list_pop mt_pop (pv 0)) pa_nil)) (pv 1))))), ?_⟩
    walk_at "v"
    refine ⟨a, _, rfl, .inl (.of hd), ?_⟩
    walk_at "v"
    refine ite2 (fun e => ?_) (fun e => ?_)
    · walk_at "v"
      have e1 := of_decide_eq_true e
      have := q 0 ds (by omega) (by omega) hD
      rw [upd_id hd] at this
      exact this
    · walk_at "v"
      refine w_tyL (.of hd) ?_
      have e0 : ds ≠ [] := by
        rintro rfl; exact e rfl
      refine ⟨a, _, .int (ds.getLast e0), rfl, rfl, hd, ?_, ?_⟩
      · rw [List.length_map, List.getElem?_map, ← List.getLast?_eq_getElem?, List.getLast?_eq_getLast e0]; rfl
      · rw [← List.map_dropLast]
        walk_at "v"
        have h0 := hD.1 _ (List.getLast_mem e0)
        refine ⟨by show (0:Int) < m; omega, ?_⟩
        exact q _ _ (Int.emod_nonneg _ (by omega)) (Int.emod_lt_of_pos _ (by omega)) hD.drop

/-! ### _law_alphabet -/
def sp_law_alphabet (K : PySem.W.Frag) : Sp := fun vs H Q _ => ∃ (a : Addr) (ds : List Int) (m : Int), vs = [.ref a, .int m] ∧ H a = some (.lst (ds.map V.int)) ∧ Dr ds ∧ 1 ≤ m ∧ m ≤ 3 ∧
  ∀ A : List Nat, Al A → (A.length : Int) = m → DQ a H Q (.str (S A))
theorem ok_law_alphabet (E : En K mg) : FnOk P w K mg base CX0 2 E.a_law_alphabet E.d_law_alphabet ["draws", "many"] (sp_law_alphabet K) := by
  refine E.D_law_alphabet.F.ok sc_law_alphabet (fun vs H Q XE h => ?_) (fun cdv A outer s H vs Q XE hr h => ?_)
  · obtain ⟨a, ds, m, rfl, _⟩ := h; rfl
  · obtain ⟨a, ds, m, rfl, hd, hD, hm0, hm, q⟩ := h
    refine ⟨_, (pss_cons (ps_set (i := 2) sc_law_alphabet.nd rfl (Or.inr rfl) (pe_lst pa_nil))
      (pss_cons (ps_for PassesOwn.never rfl (pi_range1 (by rfl) E.B.range (pa_cons (pv 1) pa_nil)) (pg_name (i := 3) sc_law_alphabet.nd rfl (Or.inl rfl)) (pss_cons (ps_set (i := 4) sc_law_alphabet.nd rfl (Or.inl rfl) (pe_ix ix_str pe_str (pe_call (ok_law_take E) (hr.mono (by decide)) (by rfl) E.D_law_take.g E.D_law_take.F.kp E.D_law_take.b .nil pass0 (pa_cons (pv 0) (pa_cons pe_int pa_nil))) (fun _ _ => rfl)))
      (Evl.pss_cut (ps_if (pt_cmpR (k_in_seq K) (pv 4) (pv 2) (by rfl)) (pss_one (ps_set (i := 4) sc_law_alphabet.nd rfl (Or.inl rfl) (pe_ix (k_ix_list K) (pe_lc (own := [("other", 5)]) (g := gName 5) rfl sc_law_alphabet.nd (pi_str pe_str) (blkOk_by (own := [("other", 5)]) (N := N_law_alphabet) (sc := defScope s_law_alphabet) (by decide +kernel)) (fun _ _ _ _ _ => (pg_name (i := 5) sc_law_alphabet.nd rfl (Or.inl rfl))) (fun _ _ _ _ _ => (pts_one (pt_cmpR (k_notIn_seq K) (pv 5) (pv 2) (by rfl)))) (fun _ _ _ _ _ => (pv 5))) pe_int (fun _ _ => rfl)))) pss_nil)
      (pss_one (ps_expr (pe_bm PySem.F.plainAttrs_list PySem.F.slot_list_append PySem.F.type_list_append mt_append (pv 2) (pa_cons (pv 4) pa_nil)))))))
      (pss_one (ps_ret (pe_join pe_str (pe_callB (k_sortedS K) (by rfl) E.B.sorted (by decide +kernel) (pa_cons (pv 2) pa_nil))))))), ?_⟩
    have O0 := Ow.start1 hd
    walk_at "v"
    refine ⟨Nat.zero_le _, fun Lt hL => ?_⟩
    have O := O0.new (o := .lst []) hL
    walk_at "v"
    refine ⟨by omega, by omega, ?_⟩
    refine for_R (fun i σ' H' => ∃ (y3 y4 y5 : Option V) (ds : List Int) (cs : List Nat), σ' = [some (.ref a), some (.int m), some (.ref Lt), y3, y4, y5] ∧ Dr ds ∧ cs.length = i ∧ cs.Nodup ∧ (∀ c ∈ cs, 97 ≤ c ∧ c ≤ 122) ∧
      Ow H [a] H' [(a, .lst (ds.map V.int)), (Lt, .lst (cs.map sgn))]) (by exact ⟨_, _, _, ds, [], rfl, hD, rfl, by simp, by simp, O⟩) ?_ ?_
    · rintro i σ' H' hi ⟨y3, y4, y5, ds, cs, rfl, hD, hci, hnd, haz, O⟩
      have hc3 : cs.length ≤ 2 := by omega
      walk_at "v"
      refine ⟨a, ds, 26, rfl, O.get 0 rfl, hD, by decide, fun r ds' h0 h1 hD' => ?_⟩
      have O := O.set (o' := .lst (ds'.map V.int)) 0 rfl
      walk_at "v"
      refine w_ixS az_sz (az_atI h0 h1) ?_
      walk_at "v"
      refine w_cut (fun σ'' H' => ∃ (z5 : Option V) (c : Nat), σ'' = [some (.ref a), some (.int m), some (.ref Lt), some (.int (0 + (i : Int))), some (sgn c), z5] ∧ c ∉ cs ∧ 97 ≤ c ∧ c ≤ 122 ∧ Ow H [a] H' [(a, .lst (ds'.map V.int)), (Lt, .lst (cs.map sgn))]) ?_ ?_
      · walk_at "v"
        refine ⟨_, _, rfl, .inl (O.lst 1 rfl), rfl, flat_str _ _, ?_⟩
        rw [inV_sgn]
        refine ⟨_, rfl, ?_⟩
        refine ite2 (fun e => ?_) (fun e => ?_)
        · walk_at "v"
          refine lc_S (fun Dl j H' => Ow H [a] H' [(a, .lst (ds'.map V.int)), (Lt, .lst (cs.map sgn)), (Dl, .lst ((([97, 98, 99, 100].take j).filter fun c => decide (c ∉ cs)).map sgn))]) (fun Dl hD => by exact O.new hD) (fun Dl j c H' hc O => ?_) (fun Dl H' O => ?_)
          · have hc' : [97, 98, 99, 100][j]? = some c := hc
            refine w_gname ⟨rfl, ?_⟩
            walk_at "v"
            refine ⟨_, _, rfl, .inl (O.lst 1 rfl), rfl, flat_str _ _, ?_⟩
            rw [inV_sgn]
            refine ⟨_, rfl, ?_⟩
            have et : [97, 98, 99, 100].take (j + 1) = [97, 98, 99, 100].take j ++ [c] := take_snoc hc'
            refine ite2 (fun e => ?_) (fun e => ?_)
            · have hn : c ∉ cs := by simpa using e
              walk_at "v"
              refine ⟨_, O.get 2 rfl, szlt ?_, ?_⟩
              · rw [List.length_map]; exact Nat.le_trans (List.length_filter_le _ _) (by rw [List.length_take]; simp; omega)
              · rw [et, List.filter_append, List.map_append, List.filter_cons, if_pos (by simpa using hn)]
                exact O.set 2 rfl
            · have hn : c ∈ cs := by simpa using e
              rw [et, List.filter_append, List.filter_cons, if_neg (by simpa using hn)]
              simpa using O
          · obtain ⟨c, zs, ef⟩ := pick4 (cs := cs) (by omega)
            have O := O.get 2 rfl
            have e4 : [97, 98, 99, 100].take (PySem.Str.ofString "abcd").cps.size = [97, 98, 99, 100] := rfl
            rw [e4, ef] at O
            rename_i O'
            have hm : c ∈ [97, 98, 99, 100].filter fun c => decide (c ∉ cs) := by rw [ef]; exact List.mem_cons_self
            rw [List.mem_filter] at hm
            walk_at "v"
            refine w_ixL (v := sgn c) (.of O) (atI_nat (j := 0) rfl) ?_
            refine ⟨_, c, rfl, by simpa using hm.2, ?_, ?_, ?_⟩
            · have := hm.1; simp at this; omega
            · have := hm.1; simp at this; omega
            · exact O'.take 2 (fun b hb => by rw [List.mem_singleton.mp hb]; exact List.mem_cons_self)
        · walk_at "v"
          refine ⟨_, _, rfl, by simpa using e, by omega, by omega, O⟩
      · rintro σ'' H1 ⟨z5, c, rfl, hc, ha1, ha2, O⟩
        walk_at "v"
        refine w_tyL (O.lst 1 rfl) ?_
        walk_at "v"
        refine w_append (O.get 1 rfl) (szlt (by rw [List.length_map]; omega)) ?_
        refine ⟨_, _, _, ds', cs ++ [c], rfl, hD', by rw [List.length_append]; simp; omega, ?_, ?_, ?_⟩
        · rw [List.nodup_append]
          exact ⟨hnd, by simp, fun x hx y hy e => by rw [List.mem_singleton.mp hy] at e; exact hc (e ▸ hx)⟩
        · intro x hx
          rcases List.mem_append.mp hx with h | h
          · exact haz x h
          · rw [List.mem_singleton.mp h]; exact ⟨ha1, ha2⟩
        · rw [List.map_append]; exact O.set 1 rfl
    · rintro σ' H' ⟨y3, y4, y5, ds, cs, rfl, hD, hci, hnd, haz, O⟩
      walk_at "v"
      refine ⟨Lt, cs.map (fun c => S [c]), rfl, ?_, by rw [List.length_map]; omega, fun ys p hp hs hfree => ?_⟩
      · rw [List.map_map]; exact O.lst 1 rfl
      · obtain ⟨zs, rfl, hz, hle⟩ := sorted_signs hp hs
        have O := O.new (o := .lst ((zs.map (fun c => S [c])).map V.str)) hfree
        refine ⟨S [], p, zs.map (fun c => S [c]), rfl, rfl, .inl (O.lst 2 rfl), ?_, ?_⟩
        · rw [ints_len, List.length_map, hz.length_eq, S_len]; simp; omega
        · rw [join_signs]
          refine q zs ⟨?_, ?_, ?_, ?_⟩ ?_ _ ds O.frO (O.get 0 rfl) hD
          · rw [hz.length_eq]; omega
          · rw [hz.length_eq]; omega
          · have hn : zs.Nodup := hz.nodup_iff.mpr hnd
            exact (hle.and hn).imp fun h => Nat.lt_of_le_of_ne h.1 h.2
          · exact fun c hc => haz c (hz.mem_iff.mp hc)
          · rw [hz.length_eq]; omega

/-! ### _law_columns -/
def sp_law_columns (K : PySem.W.Frag) : Sp := fun vs H Q _ => ∃ (f : Addr) (A B : List Nat) (rest : List V), vs = [.ref f] ∧ SqT K H f (.str (S A) :: .str (S B) :: rest) ∧ A.length ≤ 3 ∧ B.length ≤ 3 ∧
  ∀ (H' : Hp) (p : Addr) (xs : List V), Same H H' → H p = none → H' p = some (.lst xs) → DpAll K H' xs (colsD A B) → Q (.ref p) H'
theorem ok_law_columns (E : En K mg) : FnOk P w K mg base CX0 1 E.a_law_columns E.d_law_columns ["family"] (sp_law_columns K) := by
  refine E.D_law_columns.F.ok sc_law_columns (fun vs H Q XE h => ?_) (fun cdv A outer s H vs Q XE hr h => ?_)
  · obtain ⟨f, A, B, rest, rfl, _⟩ := h; rfl
  · obtain ⟨f, A, B, rest, rfl, hf, hA, hB, q⟩ := h
    refine ⟨_, (pss_cons (ps_set (i := 1) sc_law_columns.nd rfl (Or.inl rfl) (pe_lst pa_nil))
      (pss_cons (ps_for PassesOwn.never rfl (k_pi_list K (pe_op op_cat (pe_callTy (call_list_str rfl) (by rfl) E.B.list (by decide +kernel) (pa_cons (pe_ix (k_ix_tup K) (pv 0) pe_int (fun _ _ => rfl)) pa_nil)) (pe_lst (pa_cons pe_str pa_nil)))) (pg_name (i := 2) sc_law_columns.nd rfl (Or.inr rfl)) (pss_one (ps_set (i := 1) sc_law_columns.nd rfl (Or.inl rfl) (pe_op op_cat (pv 1) (pe_lc (own := [("other", 3)]) (g := gName 3) (tt := tYes) rfl sc_law_columns.nd (k_pi_list K (pe_op op_cat (pe_callTy (call_list_str rfl) (by rfl) E.B.list (by decide +kernel) (pa_cons (pe_ix (k_ix_tup K) (pv 0) pe_int (fun _ _ => rfl)) pa_nil)) (pe_lst (pa_cons pe_str pa_nil)))) (blkOk_by (own := [("other", 3)]) (N := N_law_columns) (sc := defScope s_law_columns) (by decide +kernel)) (fun _ _ _ _ _ => (pg_name (i := 3) sc_law_columns.nd rfl (Or.inl rfl))) (fun _ _ _ _ _ => pts_nil) (fun _ _ _ _ _ => (pe_tup (pa_cons (pv 2) (pa_cons (pv 3) pa_nil)))))))))
      (pss_one (ps_ret (pe_slice (k_sl_list K) (pv 1) po_none (po_some (pe_un un_neg pe_int))))))), ?_⟩
    have O := Ow.start0 (H := H)
    have lA := lf_small hA
    have lB := lf_small hB
    walk_at "v"
    refine ⟨Nat.zero_le _, fun Fd hFd => ?_⟩
    have O := O.new (o := .lst []) hFd
    walk_at "v"
    refine w_ixT (O.seqT hf) (atI_nat (j := 0) rfl) ?_
    refine ⟨_, rfl, szl (by rw [S_len]; omega), fun L1 h1 => ?_⟩
    have O := O.new (o := .lst ((S A).cps.toList.map fun c => V.str ⟨#[c]⟩)) h1
    walk_at "v"
    refine ⟨szl (by simp), fun L2 h2 => ?_⟩
    have O := O.new (o := .lst [.str (PySem.Str.ofString "")]) h2
    refine ⟨_, _, _, _, rfl, rfl, O.get 1 rfl, O.get 2 rfl, szl ?_, fun L3 h3 => ?_⟩
    · rw [List.length_map, S_tl]; simp; omega
    have O := O.new (o := .lst (((S A).cps.toList.map fun c => V.str ⟨#[c]⟩) ++ [V.str (PySem.Str.ofString "")])) h3
    rw [lf_V] at O ⊢
    have O := O.sub (L' := [(Fd, .lst []), (L3, .lst (wds (lf A)))]) (by simp) (by simp)
    generalize hH1 : upd _ L3 _ = H1 at O ⊢
    refine ⟨L3, rfl, ⟨_, O.lst 1 rfl⟩, ?_⟩
    refine for_L (xs := wds (lf A)) (fun j σ' H' => ∃ (Fd : Addr) (xs : List V) (y2 y3 : Option V), σ' = [some (.ref f), some (.ref Fd), y2, y3] ∧ H Fd = none ∧ Ow H [] H' [(L3, .lst (wds (lf A))), (Fd, .lst xs)] ∧ DpAll K H' xs (prodD ((lf A).take j) (lf B))) (by exact ⟨Fd, [], _, _, rfl, hFd, O.swap, .nil⟩) (fun j σ' H' _ h => by obtain ⟨_, _, _, _, _, _, O, _⟩ := h; exact O.lst 0 rfl) ?_ ?_
    · rintro j x σ' H' hx ⟨Fd, xs, y2, y3, rfl, hFd, O, hxs⟩
      obtain ⟨u, hu, rfl⟩ := mem_wds hx
      have hj := (List.getElem?_eq_some_iff.mp hu).1
      walk_at "v"
      refine w_ixT (O.seqT hf) (atI_nat (j := 1) rfl) ?_
      refine ⟨_, rfl, szl (by rw [S_len]; omega), fun L4 h4 => ?_⟩
      have k4 := TK.new (o := .lst ((S B).cps.toList.map fun c => V.str ⟨#[c]⟩)) h4
      have O := O.new (o := .lst ((S B).cps.toList.map fun c => V.str ⟨#[c]⟩)) h4
      walk_at "v"
      refine ⟨szl (by simp), fun L5 h5 => ?_⟩
      have k5 := TK.new (o := .lst [.str (PySem.Str.ofString "")]) h5
      have O := O.new (o := .lst [.str (PySem.Str.ofString "")]) h5
      refine ⟨_, _, _, _, rfl, rfl, O.get 2 rfl, O.get 3 rfl, szl ?_, fun L6 h6 => ?_⟩
      · rw [List.length_map, S_tl]; simp; omega
      have k6 := TK.new (o := .lst (((S B).cps.toList.map fun c => V.str ⟨#[c]⟩) ++ [V.str (PySem.Str.ofString "")])) h6
      have O := O.new (o := .lst (((S B).cps.toList.map fun c => V.str ⟨#[c]⟩) ++ [V.str (PySem.Str.ofString "")])) h6
      have hxs := dps_tk ((k4.trans k5).trans k6) _ _ (prod_tup _ _) hxs
      rw [lf_V] at O hxs ⊢
      have O := O.sub (L' := [(L3, .lst (wds (lf A))), (Fd, .lst xs), (L6, .lst (wds (lf B)))]) (by simp) (by simp)
      clear k4 k5 k6
      generalize hH2 : upd _ L6 _ = H2 at O hxs ⊢
      refine ⟨L6, rfl, ⟨_, O.lst 2 rfl⟩, ?_⟩
      refine lc_L (xs := wds (lf B)) (fun Dl m H' => ∃ zs : List V, Ow H [] H' [(L3, .lst (wds (lf A))), (Fd, .lst xs), (L6, .lst (wds (lf B))), (Dl, .lst zs)] ∧ DpAll K H' xs (prodD ((lf A).take j) (lf B)) ∧ DpAll K H' zs (((lf B).take m).map fun r => pairD u r)) (fun Dl hD => by exact ⟨[], O.new hD, dps_tk (TK.new hD) _ _ (prod_tup _ _) hxs, .nil⟩) (fun Dl m H' _ h => by obtain ⟨_, O, _⟩ := h; exact O.lst 2 rfl) (fun Dl m x H' hx h => ?_) (fun Dl H' h => ?_)
      · obtain ⟨zs, O, hxs, hzs⟩ := h
        obtain ⟨r, hr2, rfl⟩ := mem_wds hx
        have hm := (List.getElem?_eq_some_iff.mp hr2).1
        refine w_gname ⟨rfl, ?_⟩
        walk_at "v"
        refine ⟨szl (by simp), fun P hP => ?_⟩
        have kP := TK.new (o := .tup [.str (S u), .str (S r)]) hP
        have O2 := O.new (o := .tup [.str (S u), .str (S r)]) hP
        have ht : tupOs (((lf B).take m).map fun r => pairD u r) = true := tupOs_of fun d hd => by obtain ⟨x, _, rfl⟩ := List.mem_map.mp hd; exact pair_tup _ _
        have d1 := dps_tk kP _ _ ht hzs
        have d2 : Dp K _ (.ref P) (pairD u r) := .tup (O2.tup 4 rfl) (.cons (.str _) (.cons (.str _) .nil))
        have d3 := dps_app d1 (.cons d2 .nil)
        have hl : zs.length ≤ 4 := by
          rw [dps_len hzs, List.length_map, List.length_take]; omega
        have kS := TK.chg (o := .lst (zs ++ [.ref P])) (O2.get 3 rfl)
        refine ⟨_, O2.get 3 rfl, szlt (by omega), zs ++ [.ref P], ?_, ?_, ?_⟩
        · exact (O2.set (o' := .lst (zs ++ [.ref P])) 3 rfl).take 4 (by simp)
        · exact dps_tk (kP.trans kS) _ _ (prod_tup _ _) hxs
        · rw [take_snoc hr2, List.map_append]
          refine dps_tk kS _ _ (tupOs_app ht ?_) d3
          simp [tupOs, pair_tup]
      · obtain ⟨zs, O, hxs, hzs⟩ := h
        rw [List.length_map, List.take_length] at hzs
        have hl1 : xs.length ≤ 16 := by
          rw [dps_len hxs, prod_len, List.length_take]
          exact Nat.mul_le_mul (show min j (lf A).length ≤ 4 by omega) lB
        have hl2 : zs.length ≤ 4 := by rw [dps_len hzs, List.length_map]; exact lB
        refine ⟨_, _, _, _, rfl, rfl, O.get 1 rfl, O.get 3 rfl, szl (by omega), fun p hp => ?_⟩
        have k := TK.new (o := .lst (xs ++ zs)) hp
        have hp0 := (O.free hp).2
        have O := O.new (o := .lst (xs ++ zs)) hp
        refine ⟨p, xs ++ zs, _, _, rfl, hp0, O.sub (L' := [(L3, .lst (wds (lf A))), (p, .lst (xs ++ zs))]) (by simp) (by simp), ?_⟩
        rw [prod_snoc hu]
        refine dps_app (dps_tk k _ _ (prod_tup _ _) hxs) (dps_tk k _ _ ?_ hzs)
        exact tupOs_of fun d hd => by obtain ⟨x, _, rfl⟩ := List.mem_map.mp hd; exact pair_tup _ _
    · rintro σ' H' ⟨Fd, xs, y2, y3, rfl, hFd, O, hxs⟩
      rw [List.length_map, List.take_length] at hxs
      walk_at "v"
      refine ⟨Fd, xs, rfl, O.lst 1 rfl, fun p hp => ?_⟩
      rw [cut_last]
      have hp0 := (O.free hp).2
      have k1 := TK.new (o := .lst xs.dropLast) hp
      have O := O.new (o := .lst xs.dropLast) hp
      exact q _ p _ (fun b o h => O.fr b o h (by simp)) hp0 (O.get 2 rfl) (dps_tk k1 _ _ (cols_tup A B) (dps_last hxs))

/-! ### _law_family -/
def FQ (K : PySem.W.Frag) (a : Addr) (H : Hp) (Q : VK) : Prop := ∀ (F : Fam), F.Ok → ∀ (H' : Hp) (v : V) (ds' : List Int), Fr a H H' → H' a = some (.lst (ds'.map V.int)) → Dr ds' → Dp K H' v F.D → Q v H'
def sp_law_family (K : PySem.W.Frag) : Sp := fun vs H Q _ => ∃ (a : Addr) (ds : List Int) (m : Nat), vs = [.ref a, .int (m : Int)] ∧ H a = some (.lst (ds.map V.int)) ∧ Dr ds ∧ 1 ≤ m ∧ m ≤ 10 ∧ FQ K a H Q
theorem ok_law_family (E : En K mg) : FnOk P w K mg base CX0 3 E.a_law_family E.d_law_family ["draws", "most"] (sp_law_family K) := by
  refine E.D_law_family.F.ok sc_law_family (fun vs H Q XE h => ?_) (fun cdv A outer s H vs Q XE hr h => ?_)
  · obtain ⟨a, ds, m, rfl, _⟩ := h; rfl
  · obtain ⟨a, ds, m, rfl, hd, hD, hm1, hm, q⟩ := h
    refine ⟨_, (pss_cons (ps_set (i := 2) sc_law_family.nd rfl (Or.inl rfl) (pe_call (ok_law_alphabet E) (hr.mono (by decide)) (by rfl) E.D_law_alphabet.g E.D_law_alphabet.F.kp E.D_law_alphabet.b .nil pass0 (pa_cons (pv 0) (pa_cons (pe_ix (k_ix_list K) (pe_lst (pa_cons pe_int (pa_cons pe_int (pa_cons pe_int (pa_cons pe_int (pa_cons pe_int (pa_cons pe_int pa_nil))))))) (pe_call (ok_law_take E) (hr.mono (by decide)) (by rfl) E.D_law_take.g E.D_law_take.F.kp E.D_law_take.b .nil pass0 (pa_cons (pv 0) (pa_cons pe_int pa_nil))) (fun _ _ => rfl)) pa_nil))))
      (pss_cons (ps_set (i := 3) sc_law_family.nd rfl (Or.inl rfl) (pe_call (ok_law_alphabet E) (hr.mono (by decide)) (by rfl) E.D_law_alphabet.g E.D_law_alphabet.F.kp E.D_law_alphabet.b .nil pass0 (pa_cons (pv 0) (pa_cons (pe_ix (k_ix_list K) (pe_lst (pa_cons pe_int (pa_cons pe_int (pa_cons pe_int (pa_cons pe_int (pa_cons pe_int (pa_cons pe_int pa_nil))))))) (pe_call (ok_law_take E) (hr.mono (by decide)) (by rfl) E.D_law_take.g E.D_law_take.F.kp E.D_law_take.b .nil pass0 (pa_cons (pv 0) (pa_cons pe_int pa_nil))) (fun _ _ => rfl)) pa_nil))))
      (pss_cons (ps_set (i := 4) sc_law_family.nd rfl (Or.inr rfl) (pe_op op_add pe_int (pe_call (ok_law_take E) (hr.mono (by decide)) (by rfl) E.D_law_take.g E.D_law_take.F.kp E.D_law_take.b .nil pass0 (pa_cons (pv 0) (pa_cons (pv 1) pa_nil)))))
      (pss_cons (ps_set (i := 5) sc_law_family.nd rfl (Or.inl rfl) (pe_op op_sub (pe_op op_mul (pe_op op_add (pe_callB call_len_str (by rfl) E.B.len PySem.boot_len (pa_cons (pv 2) pa_nil)) pe_int) (pe_op op_add (pe_callB call_len_str (by rfl) E.B.len PySem.boot_len (pa_cons (pv 3) pa_nil)) pe_int)) pe_int))
      (pss_cons (ps_set (i := 6) sc_law_family.nd rfl (Or.inl rfl) (pe_lst pa_nil))
      (pss_cons (ps_for PassesOwn.never rfl (pi_range1 (by rfl) E.B.range (pa_cons (pv 4) pa_nil)) (pg_name (i := 7) sc_law_family.nd rfl (Or.inl rfl)) (pss_one (ps_expr (pe_bm PySem.F.plainAttrs_list PySem.F.slot_list_append PySem.F.type_list_append mt_append (pv 6) (pa_cons (pe_callTy (k_tuple_of K) (by rfl) E.B.tuple (by decide +kernel) (pa_cons (pe_lc (own := [("j", 9)]) (g := gName 9) (tt := tYes) rfl sc_law_family.nd (pi_range1 (by rfl) E.B.range (pa_cons (pv 5) pa_nil)) (blkOk_by (own := [("j", 9)]) (N := N_law_family) (sc := defScope s_law_family) (by decide +kernel)) (fun _ _ _ _ _ => (pg_name (i := 9) sc_law_family.nd rfl (Or.inl rfl))) (fun _ _ _ _ _ => pts_nil) (fun _ _ _ _ _ => (pe_call (ok_law_take E) (hr.mono (by decide)) (by rfl) E.D_law_take.g E.D_law_take.F.kp E.D_law_take.b .nil pass0 (pa_cons (pv 0) (pa_cons (pv 4) pa_nil))))) pa_nil)) pa_nil)))))
      (pss_cons (ps_set (i := 8) sc_law_family.nd rfl (Or.inl rfl) (pe_callTy (k_tuple_of K) (by rfl) E.B.tuple (by decide +kernel) (pa_cons (pe_lc (own := [("k", 7)]) (g := gName 7) rfl sc_law_family.nd (pi_range1 (by rfl) E.B.range (pa_cons (pv 4) pa_nil)) (blkOk_by (own := [("k", 7)]) (N := N_law_family) (sc := defScope s_law_family) (by decide +kernel)) (fun _ _ _ _ _ => (pg_name (i := 7) sc_law_family.nd rfl (Or.inl rfl))) (fun _ _ _ _ _ => (pts_one (pt_cmpR op_eq (pe_call (ok_law_take E) (hr.mono (by decide)) (by rfl) E.D_law_take.g E.D_law_take.F.kp E.D_law_take.b .nil pass0 (pa_cons (pv 0) (pa_cons pe_int pa_nil))) pe_int (nomark _)))) (fun _ _ _ _ _ => (pv 7))) pa_nil)))
      (pss_one (ps_ret (pe_tup (pa_cons (pv 2) (pa_cons (pv 3) (pa_cons (pe_call (ok_law_take E) (hr.mono (by decide)) (by rfl) E.D_law_take.g E.D_law_take.F.kp E.D_law_take.b .nil pass0 (pa_cons (pv 0) (pa_cons (pv 4) pa_nil))) (pa_cons (pv 8) (pa_cons (pe_callTy (k_tuple_of K) (by rfl) E.B.tuple (by decide +kernel) (pa_cons (pv 6) pa_nil)) pa_nil))))))))))))))), ?_⟩
    have O := Ow.start1 hd
    walk_at "v"
    refine ⟨szl (by simp), fun T hT => ?_⟩
    have O := O.new (o := .lst [.int 2, .int 1, .int 2, .int 1, .int 2, .int 3]) hT
    walk_at "v"
    refine ⟨a, ds, 6, rfl, O.get 0 rfl, hD, by decide, fun r ds2 h0 h1 hD => ?_⟩
    have O := O.set (o' := .lst (ds2.map V.int)) 0 rfl
    obtain ⟨v, hv, n1, rfl, hn1, hn1'⟩ := at4 (xs := [.int 2, .int 1, .int 2, .int 1, .int 2, .int 3]) (P := fun v => ∃ n : Int, v = .int n ∧ 1 ≤ n ∧ n ≤ 3) h0 h1 (by
      intro x hx
      simp only [List.mem_cons, List.not_mem_nil, or_false] at hx
      rcases hx with rfl | rfl | rfl | rfl | rfl | rfl <;> exact ⟨_, rfl, by decide, by decide⟩)
    walk_at "v"
    refine w_ixL (O.lst 1 rfl) hv ?_
    refine ⟨a, ds2, n1, rfl, O.get 0 rfl, hD, hn1, hn1', fun B hB hBl H2 ds3 fr hd hD => ?_⟩
    have O := (O.put 0 rfl fr hd).take 1 (by simp)
    walk_at "v"
    refine ⟨szl (by simp), fun T hT => ?_⟩
    have O := O.new (o := .lst [.int 1, .int 2, .int 1, .int 1, .int 2, .int 1]) hT
    walk_at "v"
    refine ⟨a, ds3, 6, rfl, O.get 0 rfl, hD, by decide, fun r ds4 h0 h1 hD => ?_⟩
    have O := O.set (o' := .lst (ds4.map V.int)) 0 rfl
    obtain ⟨v, hv, n2, rfl, hn2, hn2'⟩ := at4 (xs := [.int 1, .int 2, .int 1, .int 1, .int 2, .int 1]) (P := fun v => ∃ n : Int, v = .int n ∧ 1 ≤ n ∧ n ≤ 3) h0 h1 (by
      intro x hx
      simp only [List.mem_cons, List.not_mem_nil, or_false] at hx
      rcases hx with rfl | rfl | rfl | rfl | rfl | rfl <;> exact ⟨_, rfl, by decide, by decide⟩)
    walk_at "v"
    refine w_ixL (O.lst 1 rfl) hv ?_
    refine ⟨a, ds4, n2, rfl, O.get 0 rfl, hD, hn2, hn2', fun C hC hCl H3 ds5 fr hd hD => ?_⟩
    have O := (O.put 0 rfl fr hd).take 1 (by simp)
    walk_at "v"
    refine ⟨a, ds5, (m : Int), rfl, O.get 0 rfl, hD, by omega, fun r ds6 h0 h1 hD => ?_⟩
    have O := O.set (o' := .lst (ds6.map V.int)) 0 rfl
    obtain ⟨r, rfl⟩ := Int.eq_ofNat_of_zero_le h0
    have hB3 := hB.le
    have hC3 := hC.le
    obtain ⟨M, hM⟩ : ∃ M : Nat, M = 1 + r := ⟨_, rfl⟩
    have eM : (1 : Int) + (r : Int) = (M : Int) := by omega
    walk_at "v"
    rw [eM]
    refine ⟨szl (by rw [S_len]; omega), ?_⟩
    walk_at "v"
    refine ⟨szl (by rw [S_len]; omega), ?_⟩
    rw [S_len, S_len]
    walk_at "v"
    refine ⟨.inl ⟨by omega, by omega⟩, ?_⟩
    walk_at "v"
    dsimp only
    obtain ⟨c, hc⟩ : ∃ c : Nat, c = (B.length + 1) * (C.length + 1) - 1 := ⟨_, rfl⟩
    have hc16 : (B.length + 1) * (C.length + 1) ≤ 4 * 4 := Nat.mul_le_mul (by omega) (by omega)
    have hc1 : 1 ≤ (B.length + 1) * (C.length + 1) := Nat.mul_le_mul (by omega : 1 ≤ B.length + 1) (by omega : 1 ≤ C.length + 1)
    have ec : ((B.length : Int) + 1) * ((C.length : Int) + 1) - 1 = (c : Int) := by
      have : ((B.length : Int) + 1) * ((C.length : Int) + 1) = (((B.length + 1) * (C.length + 1) : Nat) : Int) := by simp
      rw [this, hc]; omega
    rw [ec]
    refine ⟨Nat.zero_le _, fun St hSt => ?_⟩
    have O := O.new (o := .lst []) hSt
    walk_at "v"
    refine ⟨by omega, by omega, ?_⟩
    have hM1 : 1 ≤ M := by omega
    have hM10 : M ≤ 10 := by omega
    refine for_R (fun i σ' H' => ∃ (y7 : Option V) (xs : List V) (sp : List (List Nat)) (ds : List Int), σ' = [some (.ref a), some (.int (m : Int)), some (.str (S B)), some (.str (S C)), some (.int (M : Int)), some (.int (c : Int)), some (.ref St), y7, none, none] ∧ Dr ds ∧ sp.length = i ∧ (∀ r ∈ sp, r.length = c ∧ ∀ x ∈ r, x < M) ∧
      Ow H [a] H' [(a, .lst (ds.map V.int)), (St, .lst xs)] ∧ DpAll K H' xs (sp.map rowD)) (by exact ⟨_, [], [], ds6, rfl, hD, rfl, by simp, O, .nil⟩) ?_ ?_
    · rintro i σ' H' hi ⟨y7, xs, sp, ds, rfl, hD, hsp, hrow, O, hxs⟩
      walk_at "v"
      refine w_tyL (O.lst 1 rfl) ?_
      walk_at "v"
      refine ⟨by omega, by omega, ?_⟩
      refine lc_R (fun Dl j H' => ∃ (ds : List Int) (r : List Nat), Dr ds ∧ r.length = j ∧ (∀ x ∈ r, x < M) ∧ Ow H [a] H' [(a, .lst (ds.map V.int)), (St, .lst xs), (Dl, .lst (ivs r))] ∧ DpAll K H' xs (sp.map rowD)) (fun Dl hDl => ⟨ds, [], hD, rfl, by simp, O.new hDl, dps_tk (TK.new hDl) _ _ (rows_tup _) hxs⟩) (fun Dl j H' hj h => ?_) (fun Dl H' h => ?_)
      · obtain ⟨ds, r, hD, hr', hx, O, hxs⟩ := h
        refine w_gname ⟨rfl, ?_⟩
        walk_at "v"
        refine ⟨a, ds, (M : Int), rfl, O.get 0 rfl, hD, by omega, fun x ds' h0 h1 hD => ?_⟩
        have k1 := TK.chg (o := .lst (ds'.map V.int)) (O.get 0 rfl)
        have O := O.set (o' := .lst (ds'.map V.int)) 0 rfl
        obtain ⟨x, rfl⟩ := Int.eq_ofNat_of_zero_le h0
        have k2 := TK.chg (o := .lst (ivs r ++ [.int (x : Int)])) (O.get 2 rfl)
        refine ⟨_, O.get 2 rfl, szlt (by rw [List.length_map]; omega), ds', r ++ [x], hD, by simp; omega, ?_, ?_, dps_tk (k1.trans k2) _ _ (rows_tup _) hxs⟩
        · intro y hy
          rcases List.mem_append.mp hy with h | h
          · exact hx y h
          · rw [List.mem_singleton.mp h]; omega
        · have e : ivs (r ++ [x]) = ivs r ++ [.int (x : Int)] := by simp [ivs]
          rw [e]; exact O.set 2 rfl
      · obtain ⟨ds, r, hD, hr', hx, O, hxs⟩ := h
        refine ⟨Dl, _, rfl, .inl ⟨O.lst 2 rfl, fun p hp => ?_⟩⟩
        have k1 := TK.new (o := .tup (ivs r)) hp
        have O := O.new (o := .tup (ivs r)) hp
        have d1 := dps_tk k1 _ _ (rows_tup _) hxs
        have d2 : Dp K _ (.ref p) (rowD r) := row_mk (O.tup 3 rfl)
        have d3 := dps_app d1 (.cons d2 .nil)
        have k2 := TK.chg (o := .lst (xs ++ [.ref p])) (O.get 1 rfl)
        walk_at "v"
        have hl : xs.length ≤ 10 := by rw [dps_len hxs, List.length_map]; omega
        refine w_append (O.get 1 rfl) (szlt (by omega)) ?_
        refine ⟨_, xs ++ [.ref p], sp ++ [r], ds, rfl, hD, by simp; omega, ?_, (O.set (o' := .lst (xs ++ [.ref p])) 1 rfl).take 2 (by simp), ?_⟩
        · intro z hz
          rcases List.mem_append.mp hz with h | h
          · exact hrow z h
          · rw [List.mem_singleton.mp h]; exact ⟨by omega, hx⟩
        · rw [List.map_append]
          refine dps_tk k2 _ _ (tupOs_app (rows_tup _) ?_) d3
          simp [tupOs, row_tup]
    · rintro σ' H' ⟨y7, xs, sp, ds, rfl, hD, hsp, hrow, O, hxs⟩
      have hsp : sp.length = M := by omega
      walk_at "v"
      refine ⟨by omega, by omega, ?_⟩
      refine lc_R (fun Dl j H' => ∃ (ds : List Int) (r : List Nat), Dr ds ∧ MkR r j ∧ Ow H [a] H' [(a, .lst (ds.map V.int)), (St, .lst xs), (Dl, .lst (ivs r))] ∧ DpAll K H' xs (sp.map rowD)) (fun Dl hDl => by exact ⟨ds, [], hD, MkR.nil, O.new hDl, dps_tk (TK.new hDl) _ _ (rows_tup _) hxs⟩) (fun Dl j H' hj h => ?_) (fun Dl H' h => ?_)
      · obtain ⟨ds, r, hD, hr', O, hxs⟩ := h
        refine w_gname ⟨rfl, ?_⟩
        walk_at "v"
        refine ⟨a, ds, 2, rfl, O.get 0 rfl, hD, by decide, fun x ds' h0 h1 hD => ?_⟩
        have k1 := TK.chg (o := .lst (ds'.map V.int)) (O.get 0 rfl)
        have O := O.set (o' := .lst (ds'.map V.int)) 0 rfl
        walk_at "v"
        refine ite2 (fun e => ?_) (fun e => ?_)
        · have ej : (0 : Int) + (j : Int) = (j : Int) := Int.zero_add _
          walk_at "v"
          rw [ej]
          have k2 := TK.chg (o := .lst (ivs r ++ [.int (j : Int)])) (O.get 2 rfl)
          refine ⟨_, O.get 2 rfl, szlt (by have := hr'.1; rw [List.length_map]; omega), ds', r ++ [j], hD, hr'.snoc, ?_, dps_tk (k1.trans k2) _ _ (rows_tup _) hxs⟩
          have e : ivs (r ++ [j]) = ivs r ++ [.int (j : Int)] := by simp [ivs]
          rw [e]; exact O.set 2 rfl
        · exact ⟨ds', r, hD, hr'.skip, O, dps_tk k1 _ _ (rows_tup _) hxs⟩
      · obtain ⟨ds, mr, hD, hmr, O, hxs⟩ := h
        refine ⟨Dl, _, rfl, .inl ⟨O.lst 2 rfl, fun p hp => ?_⟩⟩
        have k1 := TK.new (o := .tup (ivs mr)) hp
        have O := O.new (o := .tup (ivs mr)) hp
        have hxs := dps_tk k1 _ _ (rows_tup _) hxs
        walk_at "v"
        refine ⟨a, ds, (M : Int), rfl, O.get 0 rfl, hD, by omega, fun x ds' h0 h1 hD => ?_⟩
        have k1 := TK.chg (o := .lst (ds'.map V.int)) (O.get 0 rfl)
        have O := O.set (o' := .lst (ds'.map V.int)) 0 rfl
        have hxs := dps_tk k1 _ _ (rows_tup _) hxs
        obtain ⟨x, rfl⟩ := Int.eq_ofNat_of_zero_le h0
        walk_at "v"
        refine ⟨St, _, rfl, .inl ⟨O.lst 1 rfl, fun t ht => ?_⟩⟩
        have k1 := TK.new (o := .tup xs) ht
        have O := O.new (o := .tup xs) ht
        have hxs := dps_tk k1 _ _ (rows_tup _) hxs
        walk_at "v"
        refine ⟨szl (by simp), fun f hf => ?_⟩
        have k1 := TK.new (o := .tup [.str (S B), .str (S C), .int (x : Int), .ref p, .ref t]) hf
        have O := O.new (o := .tup [.str (S B), .str (S C), .int (x : Int), .ref p, .ref t]) hf
        have hxs := dps_tk k1 _ _ (rows_tup _) hxs
        refine q ⟨B, C, x, mr, sp⟩ ⟨hB, hC, by show x < sp.length; omega, by show sp.length ≤ 10; omega, by have := hmr.1; show mr.length ≤ 10; omega, ⟨fun y hy => by have := hmr.2.1 y hy; show y < sp.length; omega, hmr.2.2⟩, ?_⟩ _ _ ds' O.frO (O.get 0 rfl) hD (fam_mk (F := ⟨B, C, x, mr, sp⟩) (O.tup 5 rfl) (O.tup 3 rfl) (O.tup 4 rfl) hxs)
        intro r hr2
        obtain ⟨h1, h2⟩ := hrow r hr2
        exact ⟨by show r.length = (B.length + 1) * (C.length + 1) - 1; omega, fun y hy => by have := h2 y hy; show y < sp.length; omega⟩

/-! ### _law_known_family -/
def sp_law_known_family (K : PySem.W.Frag) : Sp := fun vs H Q _ => ∃ (a : Addr) (ds : List Int), vs = [.ref a] ∧ H a = some (.lst (ds.map V.int)) ∧ Dr ds ∧
  ∀ (F : Fam), F.Ok → ∀ (H' : Hp) (L : Addr) (v : V) (b : Bool) (ds' : List Int), Fr a H H' → H' a = some (.lst (ds'.map V.int)) → Dr ds' → H' L = some (.lst [v, .bl b]) → Dp K H' v F.D → Q (.ref L) H'
theorem ok_law_known_family (E : En K mg) : FnOk P w K mg base CX0 3 E.a_law_known_family E.d_law_known_family ["draws"] (sp_law_known_family K) := by
  refine E.D_law_known_family.F.ok sc_law_known_family (fun vs H Q XE h => ?_) (fun cdv A outer s H vs Q XE hr h => ?_)
  · obtain ⟨a, ds, rfl, _⟩ := h; rfl
  · obtain ⟨a, ds, rfl, hd, hD, q⟩ := h
    refine ⟨_, (pss_cons (ps_set (i := 1) sc_law_known_family.nd rfl (Or.inr rfl) (pe_call (ok_law_alphabet E) (hr.mono (by decide)) (by rfl) E.D_law_alphabet.g E.D_law_alphabet.F.kp E.D_law_alphabet.b .nil pass0 (pa_cons (pv 0) (pa_cons pe_int pa_nil))))
      (pss_cons (ps_set (i := 2) sc_law_known_family.nd rfl (Or.inl rfl) (pe_call (ok_law_alphabet E) (hr.mono (by decide)) (by rfl) E.D_law_alphabet.g E.D_law_alphabet.F.kp E.D_law_alphabet.b .nil pass0 (pa_cons (pv 0) (pa_cons (pe_op op_add pe_int (pe_call (ok_law_take E) (hr.mono (by decide)) (by rfl) E.D_law_take.g E.D_law_take.F.kp E.D_law_take.b .nil pass0 (pa_cons (pv 0) (pa_cons pe_int pa_nil)))) pa_nil))))
      (pss_cons (ps_set (i := 3) sc_law_known_family.nd rfl (Or.inl rfl) (pe_call (ok_law_take E) (hr.mono (by decide)) (by rfl) E.D_law_take.g E.D_law_take.F.kp E.D_law_take.b .nil pass0 (pa_cons (pv 0) (pa_cons pe_int pa_nil))))
      (pss_cons (ps_set (i := 4) sc_law_known_family.nd rfl (Or.inl rfl) (pe_call (ok_law_columns E) (hr.mono (by decide)) (by rfl) E.D_law_columns.g E.D_law_columns.F.kp E.D_law_columns.b .nil pass0 (pa_cons (pe_tup (pa_cons (pv 1) (pa_cons (pv 2) pa_nil))) pa_nil)))
      (pss_cons (ps_if (pt_cmpR op_eq (pv 3) pe_int (nomark _)) (pss_cons (ps_set (i := 5) sc_law_known_family.nd rfl (Or.inl rfl) (pe_callTy (k_tuple_of K) (by rfl) E.B.tuple (by decide +kernel) (pa_cons (pe_lc (own := [("column", 7)]) (g := gName 7) (tt := tYes) rfl sc_law_known_family.nd (k_pi_list K (pv 4)) (blkOk_by (own := [("column", 7)]) (N := N_law_known_family) (sc := defScope s_law_known_family) (by decide +kernel)) (fun _ _ _ _ _ => (pg_name (i := 7) sc_law_known_family.nd rfl (Or.inl rfl))) (fun _ _ _ _ _ => pts_nil) (fun _ _ _ _ _ => (pe_callTy call_int1 (by rfl) E.B.int (by decide +kernel) (pa_cons (pe_cmpR op_eq (pe_ix (k_ix_seq K) (pv 7) pe_int (fun _ _ => rfl)) pe_str (nomark _)) pa_nil)))) pa_nil)))
      (pss_one (ps_ret (pe_lst (pa_cons (pe_tup (pa_cons (pv 1) (pa_cons (pv 2) (pa_cons pe_int (pa_cons (pe_tup (pa_cons pe_int pa_nil)) (pa_cons (pe_tup (pa_cons (pv 5) (pa_cons (pe_callTy (k_tuple_of K) (by rfl) E.B.tuple (by decide +kernel) (pa_cons (pe_lc (own := [("column", 7)]) (g := gName 7) (tt := tYes) rfl sc_law_known_family.nd (k_pi_list K (pv 4)) (blkOk_by (own := [("column", 7)]) (N := N_law_known_family) (sc := defScope s_law_known_family) (by decide +kernel)) (fun _ _ _ _ _ => (pg_name (i := 7) sc_law_known_family.nd rfl (Or.inl rfl))) (fun _ _ _ _ _ => pts_nil) (fun _ _ _ _ _ => pe_int)) pa_nil)) pa_nil))) pa_nil)))))) (pa_cons pe_bl pa_nil)))))) pss_nil)
      (pss_cons (ps_if (pt_cmpR op_eq (pv 3) pe_int (nomark _)) (pss_cons (ps_set (i := 5) sc_law_known_family.nd rfl (Or.inl rfl) (pe_callTy (k_tuple_of K) (by rfl) E.B.tuple (by decide +kernel) (pa_cons (pe_lc (own := [("column", 7)]) (g := gName 7) (tt := tYes) rfl sc_law_known_family.nd (k_pi_list K (pv 4)) (blkOk_by (own := [("column", 7)]) (N := N_law_known_family) (sc := defScope s_law_known_family) (by decide +kernel)) (fun _ _ _ _ _ => (pg_name (i := 7) sc_law_known_family.nd rfl (Or.inl rfl))) (fun _ _ _ _ _ => pts_nil) (fun _ _ _ _ _ => (pe_callTy call_int1 (by rfl) E.B.int (by decide +kernel) (pa_cons (pe_cmpR op_eq (pe_ix (k_ix_seq K) (pv 7) pe_int (fun _ _ => rfl)) pe_str (nomark _)) pa_nil)))) pa_nil)))
      (pss_one (ps_ret (pe_lst (pa_cons (pe_tup (pa_cons (pv 1) (pa_cons (pv 2) (pa_cons pe_int (pa_cons (pe_tup (pa_cons pe_int pa_nil)) (pa_cons (pe_tup (pa_cons (pv 5) (pa_cons (pe_callTy (k_tuple_of K) (by rfl) E.B.tuple (by decide +kernel) (pa_cons (pe_lc (own := [("column", 7)]) (g := gName 7) (tt := tYes) rfl sc_law_known_family.nd (k_pi_list K (pv 4)) (blkOk_by (own := [("column", 7)]) (N := N_law_known_family) (sc := defScope s_law_known_family) (by decide +kernel)) (fun _ _ _ _ _ => (pg_name (i := 7) sc_law_known_family.nd rfl (Or.inl rfl))) (fun _ _ _ _ _ => pts_nil) (fun _ _ _ _ _ => pe_int)) pa_nil)) pa_nil))) pa_nil)))))) (pa_cons pe_bl pa_nil)))))) pss_nil)
      (pss_cons (ps_set (i := 5) sc_law_known_family.nd rfl (Or.inl rfl) (pe_callTy (k_tuple_of K) (by rfl) E.B.tuple (by decide +kernel) (pa_cons (pe_lc (own := [("column", 7)]) (g := gName 7) (tt := tYes) rfl sc_law_known_family.nd (k_pi_list K (pv 4)) (blkOk_by (own := [("column", 7)]) (N := N_law_known_family) (sc := defScope s_law_known_family) (by decide +kernel)) (fun _ _ _ _ _ => (pg_name (i := 7) sc_law_known_family.nd rfl (Or.inl rfl))) (fun _ _ _ _ _ => pts_nil) (fun _ _ _ _ _ => (pe_op op_add (pe_op op_mul pe_int (pe_callTy call_int1 (by rfl) E.B.int (by decide +kernel) (pa_cons (pe_cmpR op_eq (pe_ix (k_ix_seq K) (pv 7) pe_int (fun _ _ => rfl)) (pe_ix ix_str (pv 1) pe_int (fun _ _ => rfl)) (nomark _)) pa_nil))) (pe_callTy call_int1 (by rfl) E.B.int (by decide +kernel) (pa_cons (pe_cmpR op_eq (pe_ix (k_ix_seq K) (pv 7) pe_int (fun _ _ => rfl)) pe_str (nomark _)) pa_nil))))) pa_nil)))
      (pss_cons (ps_set (i := 6) sc_law_known_family.nd rfl (Or.inl rfl) (pe_callTy (k_tuple_of K) (by rfl) E.B.tuple (by decide +kernel) (pa_cons (pe_lc (own := [("column", 7)]) (g := gName 7) (tt := tYes) rfl sc_law_known_family.nd (k_pi_list K (pv 4)) (blkOk_by (own := [("column", 7)]) (N := N_law_known_family) (sc := defScope s_law_known_family) (by decide +kernel)) (fun _ _ _ _ _ => (pg_name (i := 7) sc_law_known_family.nd rfl (Or.inl rfl))) (fun _ _ _ _ _ => pts_nil) (fun _ _ _ _ _ => (pe_op op_add pe_int (pe_callTy call_int1 (by rfl) E.B.int (by decide +kernel) (pa_cons (pe_cmpR op_eq (pe_ix (k_ix_seq K) (pv 7) pe_int (fun _ _ => rfl)) (pe_ix ix_str (pv 1) pe_int (fun _ _ => rfl)) (nomark _)) pa_nil))))) pa_nil)))
      (pss_one (ps_ret (pe_lst (pa_cons (pe_tup (pa_cons (pv 1) (pa_cons (pv 2) (pa_cons pe_int (pa_cons (pe_tup (pa_cons pe_int (pa_cons pe_int pa_nil))) (pa_cons (pe_tup (pa_cons (pv 5) (pa_cons (pv 6) (pa_cons (pe_callTy (k_tuple_of K) (by rfl) E.B.tuple (by decide +kernel) (pa_cons (pe_lc (own := [("column", 7)]) (g := gName 7) (tt := tYes) rfl sc_law_known_family.nd (k_pi_list K (pv 4)) (blkOk_by (own := [("column", 7)]) (N := N_law_known_family) (sc := defScope s_law_known_family) (by decide +kernel)) (fun _ _ _ _ _ => (pg_name (i := 7) sc_law_known_family.nd rfl (Or.inl rfl))) (fun _ _ _ _ _ => pts_nil) (fun _ _ _ _ _ => pe_int)) pa_nil)) pa_nil)))) pa_nil)))))) (pa_cons pe_bl pa_nil))))))))))))), ?_⟩
    have O := Ow.start1 hd
    walk_at "v"
    refine ⟨a, ds, 2, rfl, O.get 0 rfl, hD, by decide, by decide, fun B hB hBl H2 ds2 fr hd hD => ?_⟩
    have O := O.put 0 rfl fr hd
    walk_at "v"
    refine ⟨a, ds2, 2, rfl, O.get 0 rfl, hD, by decide, fun r ds3 h0 h1 hD => ?_⟩
    have O := O.set (o' := .lst (ds3.map V.int)) 0 rfl
    walk_at "v"
    refine ⟨a, ds3, _, rfl, O.get 0 rfl, hD, by omega, by omega, fun C hC hCl H3 ds4 fr hd hD => ?_⟩
    have O := O.put 0 rfl fr hd
    walk_at "v"
    refine ⟨a, ds4, 3, rfl, O.get 0 rfl, hD, by decide, fun kind ds5 _ _ hD => ?_⟩
    have O := O.set (o' := .lst (ds5.map V.int)) 0 rfl
    walk_at "v"
    refine ⟨szl (by simp), fun t0 h0 => ?_⟩
    have O := O.new (o := .tup [.str (S B), .str (S C)]) h0
    refine ⟨t0, B, C, [], rfl, O.tup 1 rfl, hB.le, hC.le, fun H4 L xs sm hLn hL hxs => ?_⟩
    have O := O.add hLn sm hL
    have O := O.sub (L' := [(a, .lst (ds5.map V.int)), (L, .lst xs)]) (by simp) (by simp)
    have hxl : xs.length = (B.length + 1) * (C.length + 1) - 1 := by rw [dps_len hxs, cols_len]
    have hB2 : B.length = 2 := by omega
    have hC3 := hC.le
    have hx10 : xs.length ≤ 11 := by rw [hxl, hB2]; omega
    walk_at "v"
    refine ite2 (fun e => ?_) (fun e => ?_)
    · skip
      walk_at "v"
      refine ⟨⟨_, O.lst 1 rfl⟩, ?_⟩
      refine lc_row (b := 2) (O.lst 1 rfl) (by omega) (fun i x H' P hx sm k => ?_) (fun x => rfl) (fun H5 Dl r1 sm hn hDl hr1 hb1 => ?_)
      · obtain ⟨p, l, r, rfl, hp⟩ := col_at hxs hx
        walk_at "v"
        refine .inr (.inl ⟨p, _, _, .str (S l), rfl, rfl, seqT_same sm hp, atI_nat (j := 0) rfl, ?_⟩)
        walk_at "v"
        generalize decide (S _ = _) = kk
        cases kk
        · exact k 0 (by decide)
        · exact k 1 (by decide)
      have hxs := dps_same sm _ _ hxs
      have O := O.add hn sm hDl
      refine ⟨Dl, _, rfl, .inl ⟨O.lst 2 rfl, fun p1 hp1 => ?_⟩⟩
      have O := O.new (o := .tup (ivs r1)) hp1
      have hxs := dps_tk (TK.new (o := .tup (ivs r1)) hp1) _ _ (cols_tup _ _) hxs
      walk_at "v"
      refine ⟨szl (by simp), fun m hm => ?_⟩
      have O := O.new (o := .tup [.int 0]) hm
      have hxs := dps_tk (TK.new (o := .tup [.int 0]) hm) _ _ (cols_tup _ _) hxs
      walk_at "v"
      refine ⟨⟨_, O.lst 1 rfl⟩, ?_⟩
      refine lc_row (b := 2) (O.lst 1 rfl) (by omega) (fun i x H' P hx sm k => ?_) (fun x => rfl) (fun H6 D2 r2 sm hn hD2 hr2 hb2 => ?_)
      · refine w_c ?_
        exact k 1 (by decide)
      have O := O.add hn sm hD2
      refine ⟨D2, _, rfl, .inl ⟨O.lst 5 rfl, fun p2 hp2 => ?_⟩⟩
      have O := O.new (o := .tup (ivs r2)) hp2
      walk_at "v"
      refine ⟨szl (by simp), fun t ht => ?_⟩
      have O := O.new (o := .tup [.ref p1, .ref p2]) ht
      refine ⟨szl (by simp), fun f hf => ?_⟩
      have O := O.new (o := .tup [.str (S B), .str (S C), .int 0, .ref m, .ref t]) hf
      walk_at "v"
      refine ⟨szl (by simp), fun Lr hLr => ?_⟩
      have O := O.new (o := .lst [.ref f, .bl true]) hLr
      refine q ⟨B, C, 0, [0], [r1, r2]⟩ ⟨hB, hC, by show 0 < 2; decide, by show 2 ≤ 10; decide, by show 1 ≤ 10; decide, ⟨by show ∀ x ∈ [0], x < 2; decide, by show [0].Pairwise (· < ·); decide⟩, ?_⟩ _ Lr (.ref f) true ds5 O.frO (O.get 0 rfl) hD (O.get 9 rfl) (fam_mk (F := ⟨B, C, 0, [0], [r1, r2]⟩) (O.tup 8 rfl) (O.tup 4 rfl) (O.tup 7 rfl) (.cons (row_mk (O.tup 3 rfl)) (.cons (row_mk (O.tup 6 rfl)) .nil)))
      intro r hr'
      show r.length = (B.length + 1) * (C.length + 1) - 1 ∧ ∀ x ∈ r, x < 2
      rcases List.mem_cons.mp hr' with h | h
      · rw [h]; exact ⟨by omega, hb1⟩
      · rw [List.mem_singleton.mp h]; exact ⟨by omega, hb2⟩
    walk_at "v"
    refine ite2 (fun e => ?_) (fun e => ?_)
    · skip
      walk_at "v"
      refine ⟨⟨_, O.lst 1 rfl⟩, ?_⟩
      refine lc_row (b := 2) (O.lst 1 rfl) (by omega) (fun i x H' P hx sm k => ?_) (fun x => rfl) (fun H5 Dl r1 sm hn hDl hr1 hb1 => ?_)
      · obtain ⟨p, l, r, rfl, hp⟩ := col_at hxs hx
        walk_at "v"
        refine .inr (.inl ⟨p, _, _, .str (S r), rfl, rfl, seqT_same sm hp, atI_nat (j := 1) rfl, ?_⟩)
        walk_at "v"
        generalize decide (S _ = _) = kk
        cases kk
        · exact k 0 (by decide)
        · exact k 1 (by decide)
      have hxs := dps_same sm _ _ hxs
      have O := O.add hn sm hDl
      refine ⟨Dl, _, rfl, .inl ⟨O.lst 2 rfl, fun p1 hp1 => ?_⟩⟩
      have O := O.new (o := .tup (ivs r1)) hp1
      have hxs := dps_tk (TK.new (o := .tup (ivs r1)) hp1) _ _ (cols_tup _ _) hxs
      walk_at "v"
      refine ⟨szl (by simp), fun m hm => ?_⟩
      have O := O.new (o := .tup [.int 0]) hm
      have hxs := dps_tk (TK.new (o := .tup [.int 0]) hm) _ _ (cols_tup _ _) hxs
      walk_at "v"
      refine ⟨⟨_, O.lst 1 rfl⟩, ?_⟩
      refine lc_row (b := 2) (O.lst 1 rfl) (by omega) (fun i x H' P hx sm k => ?_) (fun x => rfl) (fun H6 D2 r2 sm hn hD2 hr2 hb2 => ?_)
      · refine w_c ?_
        exact k 1 (by decide)
      have O := O.add hn sm hD2
      refine ⟨D2, _, rfl, .inl ⟨O.lst 5 rfl, fun p2 hp2 => ?_⟩⟩
      have O := O.new (o := .tup (ivs r2)) hp2
      walk_at "v"
      refine ⟨szl (by simp), fun t ht => ?_⟩
      have O := O.new (o := .tup [.ref p1, .ref p2]) ht
      refine ⟨szl (by simp), fun f hf => ?_⟩
      have O := O.new (o := .tup [.str (S B), .str (S C), .int 0, .ref m, .ref t]) hf
      walk_at "v"
      refine ⟨szl (by simp), fun Lr hLr => ?_⟩
      have O := O.new (o := .lst [.ref f, .bl true]) hLr
      refine q ⟨B, C, 0, [0], [r1, r2]⟩ ⟨hB, hC, by show 0 < 2; decide, by show 2 ≤ 10; decide, by show 1 ≤ 10; decide, ⟨by show ∀ x ∈ [0], x < 2; decide, by show [0].Pairwise (· < ·); decide⟩, ?_⟩ _ Lr (.ref f) true ds5 O.frO (O.get 0 rfl) hD (O.get 9 rfl) (fam_mk (F := ⟨B, C, 0, [0], [r1, r2]⟩) (O.tup 8 rfl) (O.tup 4 rfl) (O.tup 7 rfl) (.cons (row_mk (O.tup 3 rfl)) (.cons (row_mk (O.tup 6 rfl)) .nil)))
      intro r hr'
      show r.length = (B.length + 1) * (C.length + 1) - 1 ∧ ∀ x ∈ r, x < 2
      rcases List.mem_cons.mp hr' with h | h
      · rw [h]; exact ⟨by omega, hb1⟩
      · rw [List.mem_singleton.mp h]; exact ⟨by omega, hb2⟩
    walk_at "v"
    refine ⟨⟨_, O.lst 1 rfl⟩, ?_⟩
    have sB : (S B).length ≤ sizeLine := szl (by rw [S_len]; omega)
    have hB1 : B[1]? = some (B[1]'(by omega)) := List.getElem?_eq_getElem (by omega)
    have hne : ∀ l : List Nat, ¬ (S l = ⟨#[B[1]'(by omega)]⟩ ∧ S l = PySem.Str.ofString "") := fun l z => by
      have h1 : l = [B[1]'(by omega)] := S_inj z.1
      have h2 : l = [] := S_inj z.2
      rw [h2] at h1; cases h1
    refine lc_row (b := 3) (O.lst 1 rfl) (by omega) (fun i x H' P hx sm k => ?_) (fun x => rfl) (fun H5 Dl r1 sm hn hDl hr1 hb1 => ?_)
    · obtain ⟨p, l, r, rfl, hp⟩ := col_at hxs hx
      have hp := seqT_same sm hp
      walk_at "v"
      refine .inr (.inl ⟨p, _, _, .str (S l), rfl, rfl, hp, atI_nat (j := 0) rfl, ?_⟩)
      walk_at "v"
      refine w_ixS sB (atI_nat hB1) ?_
      walk_at "v"
      refine ⟨.inl ⟨by decide, by decide⟩, ?_⟩
      walk_at "v"
      refine .inr (.inl ⟨p, _, _, .str (S l), rfl, rfl, hp, atI_nat (j := 0) rfl, ?_⟩)
      walk_at "v"
      have hn := hne l
      by_cases z1 : S l = ⟨#[B[1]'(by omega)]⟩
      · have z2 : ¬ S l = PySem.Str.ofString "" := fun z => hn ⟨z1, z⟩
        rw [decide_eq_true z1, decide_eq_false z2]
        exact k 2 (by decide)
      · rw [decide_eq_false z1]
        by_cases z2 : S l = PySem.Str.ofString ""
        · rw [decide_eq_true z2]
          exact k 1 (by decide)
        · rw [decide_eq_false z2]
          exact k 0 (by decide)
    have hxs := dps_same sm _ _ hxs
    have O := O.add hn sm hDl
    refine ⟨Dl, _, rfl, .inl ⟨O.lst 2 rfl, fun p1 hp1 => ?_⟩⟩
    have O := O.new (o := .tup (ivs r1)) hp1
    have hxs := dps_tk (TK.new (o := .tup (ivs r1)) hp1) _ _ (cols_tup _ _) hxs
    walk_at "v"
    refine ⟨⟨_, O.lst 1 rfl⟩, ?_⟩
    refine lc_row (b := 3) (O.lst 1 rfl) (by omega) (fun i x H' P hx sm k => ?_) (fun x => rfl) (fun H6 D2 r2 sm hn hD2 hr2 hb2 => ?_)
    · obtain ⟨p, l, r, rfl, hp⟩ := col_at hxs hx
      have hp := seqT_same sm hp
      walk_at "v"
      refine .inr (.inl ⟨p, _, _, .str (S l), rfl, rfl, hp, atI_nat (j := 0) rfl, ?_⟩)
      walk_at "v"
      refine w_ixS sB (atI_nat hB1) ?_
      walk_at "v"
      generalize decide (S _ = _) = kk
      cases kk
      · exact k 1 (by decide)
      · exact k 2 (by decide)
    have hxs := dps_same sm _ _ hxs
    have O := O.add hn sm hD2
    refine ⟨D2, _, rfl, .inl ⟨O.lst 4 rfl, fun p2 hp2 => ?_⟩⟩
    have O := O.new (o := .tup (ivs r2)) hp2
    have hxs := dps_tk (TK.new (o := .tup (ivs r2)) hp2) _ _ (cols_tup _ _) hxs
    walk_at "v"
    refine ⟨szl (by simp), fun m hm => ?_⟩
    have O := O.new (o := .tup [.int 0, .int 2]) hm
    have hxs := dps_tk (TK.new (o := .tup [.int 0, .int 2]) hm) _ _ (cols_tup _ _) hxs
    walk_at "v"
    refine ⟨⟨_, O.lst 1 rfl⟩, ?_⟩
    refine lc_row (b := 3) (O.lst 1 rfl) (by omega) (fun i x H' P hx sm k => ?_) (fun x => rfl) (fun H7 D3 r3 sm hn hD3 hr3 hb3 => ?_)
    · refine w_c ?_
      exact k 2 (by decide)
    have O := O.add hn sm hD3
    refine ⟨D3, _, rfl, .inl ⟨O.lst 7 rfl, fun p3 hp3 => ?_⟩⟩
    have O := O.new (o := .tup (ivs r3)) hp3
    walk_at "v"
    refine ⟨szl (by simp), fun t ht => ?_⟩
    have O := O.new (o := .tup [.ref p1, .ref p2, .ref p3]) ht
    refine ⟨szl (by simp), fun f hf => ?_⟩
    have O := O.new (o := .tup [.str (S B), .str (S C), .int 0, .ref m, .ref t]) hf
    walk_at "v"
    refine ⟨szl (by simp), fun Lr hLr => ?_⟩
    have O := O.new (o := .lst [.ref f, .bl false]) hLr
    refine q ⟨B, C, 0, [0, 2], [r1, r2, r3]⟩ ⟨hB, hC, by show 0 < 3; decide, by show 3 ≤ 10; decide, by show 2 ≤ 10; decide, ⟨by show ∀ x ∈ [0, 2], x < 3; decide, by show [0, 2].Pairwise (· < ·); decide⟩, ?_⟩ _ Lr (.ref f) false ds5 O.frO (O.get 0 rfl) hD (O.get 11 rfl) (fam_mk (F := ⟨B, C, 0, [0, 2], [r1, r2, r3]⟩) (O.tup 10 rfl) (O.tup 6 rfl) (O.tup 9 rfl) (.cons (row_mk (O.tup 3 rfl)) (.cons (row_mk (O.tup 5 rfl)) (.cons (row_mk (O.tup 8 rfl)) .nil))))
    intro r hr'
    show r.length = (B.length + 1) * (C.length + 1) - 1 ∧ ∀ x ∈ r, x < 3
    rcases List.mem_cons.mp hr' with h | h
    · rw [h]; exact ⟨by omega, hb1⟩
    · rcases List.mem_cons.mp h with h | h
      · rw [h]; exact ⟨by omega, hb2⟩
      · rw [List.mem_singleton.mp h]; exact ⟨by omega, hb3⟩

/-! ### _law_with_three -/
def sp_law_with_three (K : PySem.W.Frag) : Sp := fun vs H Q _ => ∃ (a : Addr) (ds : List Int) (v : V) (F : Fam), vs = [.ref a, v] ∧ H a = some (.lst (ds.map V.int)) ∧ Dr ds ∧ F.Ok ∧ Dp K H v F.D ∧ FQ K a H Q
theorem ok_law_with_three (E : En K mg) : FnOk P w K mg base CX0 3 E.a_law_with_three E.d_law_with_three ["draws", "family"] (sp_law_with_three K) := by
  refine E.D_law_with_three.F.ok sc_law_with_three (fun vs H Q XE h => ?_) (fun cdv A outer s H vs Q XE hr h => ?_)
  · obtain ⟨a, ds, v, F, rfl, _⟩ := h; rfl
  · obtain ⟨a, ds, v, F, rfl, hd, hD, hF, hv, q⟩ := h
    refine ⟨_, (pss_cons (ps_set (i := 2) sc_law_with_three.nd rfl (Or.inr rfl) (pe_op op_sub (pe_op op_mul (pe_op op_add (pe_callB call_len_str (by rfl) E.B.len PySem.boot_len (pa_cons (pe_ix (k_ix_tup K) (pv 1) pe_int (fun _ _ => rfl)) pa_nil)) pe_int) pe_int) pe_int))
      (pss_cons (ps_setLc (i := 3) (own := [("row", 4)]) (g := gName 4) (tt := tYes) rfl sc_law_with_three.nd rfl rfl (sw_true rfl rfl rfl (by decide +kernel)) (k_pi_tup K (pe_ix (k_ix_tup K) (pv 1) pe_int (fun _ _ => rfl))) (blkOk_by (own := [("row", 4)]) (N := N_law_with_three) (sc := defScope s_law_with_three) (by decide +kernel)) (fun _ _ _ _ _ => (pg_name (i := 4) sc_law_with_three.nd rfl (Or.inl rfl))) (fun _ _ _ _ _ => pts_nil) (fun _ _ _ _ _ => (pe_callTy (k_tuple_of K) (by rfl) E.B.tuple (by decide +kernel) (pa_cons (pe_lc (own := [("k", 5)]) (g := gName 5) (tt := tYes) rfl sc_law_with_three.nd (pi_range1 (by rfl) E.B.range (pa_cons (pv 2) pa_nil)) (blkOk_in (own := [("k", 5)]) (N := N_law_with_three) (sc := defScope s_law_with_three) rfl rfl (by decide +kernel)) (fun _ _ _ _ _ => (pg_name (i := 5) sc_law_with_three.nd rfl (Or.inl rfl))) (fun _ _ _ _ _ => pts_nil) (fun _ _ _ _ _ => (pe_call (ok_law_take E) (hr.mono (by decide)) (by rfl) E.D_law_take.g E.D_law_take.F.kp E.D_law_take.b .nil pass0 (pa_cons (pv 0) (pa_cons (pe_callB (k_len_seq K) (by rfl) E.B.len PySem.boot_len (pa_cons (pe_ix (k_ix_tup K) (pv 1) pe_int (fun _ _ => rfl)) pa_nil)) pa_nil))))) pa_nil))))
      (pss_one (ps_ret (pe_op (k_catA K) (pe_op (k_catA K) (pe_tup (pa_cons (pe_ix (k_ix_tup K) (pv 1) pe_int (fun _ _ => rfl)) (pa_cons (pe_call (ok_law_alphabet E) (hr.mono (by decide)) (by rfl) E.D_law_alphabet.g E.D_law_alphabet.F.kp E.D_law_alphabet.b .nil pass0 (pa_cons (pv 0) (pa_cons pe_int pa_nil))) pa_nil))) (pe_slice (k_sl_tupA K) (pv 1) (po_some pe_int) (po_some pe_int))) (pe_tup (pa_cons (pe_callTy (k_tuple_of K) (by rfl) E.B.tuple (by decide +kernel) (pa_cons (pv 3) pa_nil)) pa_nil))))))), ?_⟩
    have O := Ow.start1 hd
    obtain ⟨f, m, t, rs, rfl, hf, hm, ht, hrs⟩ := fam_un hv
    have hA3 := hF.an.le
    have hM10 := hF.le
    have hM1 := hF.st
    have hrl : rs.length = F.sp.length := by rw [dps_len hrs, List.length_map]
    walk_at "v"
    refine w_ixT hf (atI_nat (j := 0) rfl) ?_
    refine ⟨_, rfl, szl (by rw [S_len]; omega), ?_⟩
    rw [S_len]
    walk_at "v"
    refine ⟨.inl ⟨by omega, by omega⟩, ?_⟩
    walk_at "v"
    dsimp only
    obtain ⟨c, hc⟩ : ∃ c : Nat, c = (F.nm.length + 1) * 4 - 1 := ⟨_, rfl⟩
    have ec : ((F.nm.length : Int) + 1) * 4 - 1 = (c : Int) := by omega
    rw [ec]
    refine w_ixT hf (atI_nat (j := 4) rfl) ?_
    refine ⟨t, rfl, ⟨_, ht⟩, ?_⟩
    refine lc_T (xs := rs) (fun Dl j H' => ∃ (ds : List Int) (xs : List V) (sp : List (List Nat)), Dr ds ∧ sp.length = j ∧ (∀ r ∈ sp, r.length = c ∧ ∀ x ∈ r, x < F.sp.length) ∧ Ow H [a] H' [(a, .lst (ds.map V.int)), (Dl, .lst xs)] ∧ DpAll K H' xs (sp.map rowD)) (fun Dl hDl => ⟨ds, [], [], hD, rfl, by simp, O.new hDl, .nil⟩) (fun Dl j H' _ h => by obtain ⟨_, _, _, _, _, _, O, _⟩ := h; exact O.seqT ht) (fun Dl j x H' hx h => ?_) (fun Dl H' h => ?_)
    · obtain ⟨ds, xs, sp, hD, hsp, hrow, O, hxs⟩ := h
      have hj := (List.getElem?_eq_some_iff.mp hx).1
      refine w_gname ⟨rfl, ?_⟩
      walk_at "v"
      refine ⟨by omega, by omega, ?_⟩
      refine lc_R (fun D2 j H' => ∃ (ds : List Int) (r : List Nat), Dr ds ∧ r.length = j ∧ (∀ x ∈ r, x < F.sp.length) ∧ Ow H [a] H' [(a, .lst (ds.map V.int)), (Dl, .lst xs), (D2, .lst (ivs r))] ∧ DpAll K H' xs (sp.map rowD)) (fun D2 hDl => ⟨ds, [], hD, rfl, by simp, O.new hDl, dps_tk (TK.new hDl) _ _ (rows_tup _) hxs⟩) (fun D2 j H' hj h => ?_) (fun D2 H' h => ?_)
      · obtain ⟨ds, r, hD, hr', hx, O, hxs⟩ := h
        refine w_gname ⟨rfl, ?_⟩
        walk_at "v"
        refine w_ixT (O.seqT hf) (atI_nat (j := 4) rfl) ?_
        refine ⟨t, rs, rfl, .inr (O.seqT ht), ?_⟩
        walk_at "v"
        rw [hrl]
        refine ⟨a, ds, (F.sp.length : Int), rfl, O.get 0 rfl, hD, by omega, fun x ds' h0 h1 hD => ?_⟩
        have k1 := TK.chg (o := .lst (ds'.map V.int)) (O.get 0 rfl)
        have O := O.set (o' := .lst (ds'.map V.int)) 0 rfl
        obtain ⟨x, rfl⟩ := Int.eq_ofNat_of_zero_le h0
        have k2 := TK.chg (o := .lst (ivs r ++ [.int (x : Int)])) (O.get 2 rfl)
        refine ⟨_, O.get 2 rfl, szlt (by rw [List.length_map]; omega), ds', r ++ [x], hD, by simp; omega, ?_, ?_, dps_tk (k1.trans k2) _ _ (rows_tup _) hxs⟩
        · intro y hy
          rcases List.mem_append.mp hy with h | h
          · exact hx y h
          · rw [List.mem_singleton.mp h]; omega
        · have e : ivs (r ++ [x]) = ivs r ++ [.int (x : Int)] := by simp [ivs]
          rw [e]; exact O.set 2 rfl
      · obtain ⟨ds, r, hD, hr', hx, O, hxs⟩ := h
        refine ⟨D2, _, rfl, .inl ⟨O.lst 2 rfl, fun p hp => ?_⟩⟩
        have k1 := TK.new (o := .tup (ivs r)) hp
        have O := O.new (o := .tup (ivs r)) hp
        have d1 := dps_tk k1 _ _ (rows_tup _) hxs
        have d2 : Dp K _ (.ref p) (rowD r) := row_mk (O.tup 3 rfl)
        have d3 := dps_app d1 (.cons d2 .nil)
        have k2 := TK.chg (o := .lst (xs ++ [.ref p])) (O.get 1 rfl)
        have hl : xs.length ≤ 10 := by rw [dps_len hxs, List.length_map]; omega
        refine ⟨_, O.get 1 rfl, szlt (by omega), ds, xs ++ [.ref p], sp ++ [r], hD, by simp; omega, ?_, (O.set (o' := .lst (xs ++ [.ref p])) 1 rfl).take 2 (by simp), ?_⟩
        · intro z hz
          rcases List.mem_append.mp hz with h | h
          · exact hrow z h
          · rw [List.mem_singleton.mp h]; exact ⟨by omega, hx⟩
        · rw [List.map_append]
          refine dps_tk k2 _ _ (tupOs_app (rows_tup _) ?_) d3
          simp [tupOs, row_tup]
    · obtain ⟨ds, xs, sp, hD, hsp, hrow, O, hxs⟩ := h
      rw [hrl] at hsp
      walk_at "v"
      refine w_ixT (O.seqT hf) (atI_nat (j := 0) rfl) ?_
      walk_at "v"
      refine ⟨a, ds, 3, rfl, O.get 0 rfl, hD, by decide, by decide, fun B hB hBl H2 ds2 fr hd2 hD => ?_⟩
      have hxs := dps_tk (TK.fr (O.get 0 rfl) fr) _ _ (rows_tup _) hxs
      have O := O.put 0 rfl fr hd2
      walk_at "v"
      refine ⟨szl (by simp), fun t1 h1 => ?_⟩
      have hxs := dps_tk (TK.new (o := .tup [.str (S F.nm), .str (S B)]) h1) _ _ (rows_tup _) hxs
      have O := O.new (o := .tup [.str (S F.nm), .str (S B)]) h1
      walk_at "v"
      refine ⟨f, _, rfl, O.seqT hf, fun z => ?_, fun _ t2 h2 => ?_⟩
      · exact absurd (show (2 : Nat) = 0 from z.1) (by decide)
      have ecut : cutV [.str (S F.nm), .str (S F.th), .int (F.st : Int), .ref m, .ref t] (some 2) (some 4) = [V.int (F.st : Int), .ref m] := rfl
      rw [ecut]
      have hxs := dps_tk (TK.new (o := .tup [V.int (F.st : Int), .ref m]) h2) _ _ (rows_tup _) hxs
      have O := O.new (o := .tup [V.int (F.st : Int), .ref m]) h2
      refine ⟨t1, t2, _, _, rfl, rfl, O.tup 2 rfl, O.tup 3 rfl, szl (by simp), fun z => ?_, fun _ z => ?_, fun _ _ t3 h3 => ?_⟩
      · cases z
      · cases z
      have hxs := dps_tk (TK.new (o := .tup ([V.str (S F.nm), .str (S B)] ++ [V.int (F.st : Int), .ref m])) h3) _ _ (rows_tup _) hxs
      have O := O.new (o := .tup ([V.str (S F.nm), .str (S B)] ++ [V.int (F.st : Int), .ref m])) h3
      walk_at "v"
      refine ⟨Dl, _, rfl, .inl ⟨O.lst 1 rfl, fun t4 h4 => ?_⟩⟩
      have hxs := dps_tk (TK.new (o := .tup xs) h4) _ _ (rows_tup _) hxs
      have O := O.new (o := .tup xs) h4
      walk_at "v"
      refine ⟨szl (by simp), fun t5 h5 => ?_⟩
      have hxs := dps_tk (TK.new (o := .tup [V.ref t4]) h5) _ _ (rows_tup _) hxs
      have O := O.new (o := .tup [V.ref t4]) h5
      refine ⟨t3, t5, _, _, rfl, rfl, O.tup 4 rfl, O.tup 6 rfl, szl (by simp), fun z => ?_, fun _ z => ?_, fun _ _ t6 h6 => ?_⟩
      · cases z
      · cases z
      have hxs := dps_tk (TK.new (o := .tup (([V.str (S F.nm), .str (S B)] ++ [V.int (F.st : Int), .ref m]) ++ [V.ref t4])) h6) _ _ (rows_tup _) hxs
      have O := O.new (o := .tup (([V.str (S F.nm), .str (S B)] ++ [V.int (F.st : Int), .ref m]) ++ [V.ref t4])) h6
      refine q ⟨F.nm, B, F.st, F.mr, sp⟩ ⟨hF.an, hB, by show F.st < sp.length; omega, by show sp.length ≤ 10; omega, hF.ml, ⟨fun y hy => by have := hF.ms.1 y hy; show y < sp.length; omega, hF.ms.2⟩, ?_⟩ _ _ ds2 O.frO (O.get 0 rfl) hD (fam_mk (F := ⟨F.nm, B, F.st, F.mr, sp⟩) (O.tup 7 rfl) (O.seqT hm) (O.tup 5 rfl) hxs)
      intro r hr2
      obtain ⟨h1, h2⟩ := hrow r hr2
      have hB4 : B.length = 3 := by omega
      exact ⟨by show r.length = (F.nm.length + 1) * (B.length + 1) - 1; rw [hB4]; omega, fun y hy => by have := h2 y hy; show y < sp.length; omega⟩

/-! ### _law_lively -/
def sp_law_lively (K : PySem.W.Frag) : Sp := fun vs H Q _ => ∃ (a : Addr) (ds : List Int) (m : Nat), vs = [.ref a, .int (m : Int)] ∧ H a = some (.lst (ds.map V.int)) ∧ Dr ds ∧ 1 ≤ m ∧ m ≤ 10 ∧ FQ K a H Q
theorem ok_law_lively (E : En K mg) : FnOk P w K mg base CX0 4 E.a_law_lively E.d_law_lively ["draws", "most"] (sp_law_lively K) := by
  refine E.D_law_lively.F.ok sc_law_lively (fun vs H Q XE h => ?_) (fun cdv A outer s H vs Q XE hr h => ?_)
  · obtain ⟨a, ds, m, rfl, _⟩ := h; rfl
  · obtain ⟨a, ds, m, rfl, hd, hD, hm1, hm, q⟩ := h
    refine ⟨_, (pss_cons (ps_if (pt_cmpR op_eq (pe_call (ok_law_take E) (hr.mono (by decide)) (by rfl) E.D_law_take.g E.D_law_take.F.kp E.D_law_take.b .nil pass0 (pa_cons (pv 0) (pa_cons pe_int pa_nil))) pe_int (nomark _)) (pss_one (ps_ret (pe_ix (k_ix_list K) (pe_call (ok_law_known_family E) (hr.mono (by decide)) (by rfl) E.D_law_known_family.g E.D_law_known_family.F.kp E.D_law_known_family.b .nil pass0 (pa_cons (pv 0) pa_nil)) pe_int (fun _ _ => rfl)))) pss_nil)
      (pss_cons (ps_set (i := 2) sc_law_lively.nd rfl (Or.inl rfl) (pe_call (ok_law_family E) (hr.mono (by decide)) (by rfl) E.D_law_family.g E.D_law_family.F.kp E.D_law_family.b .nil pass0 (pa_cons (pv 0) (pa_cons (pv 1) pa_nil))))
      (pss_cons (ps_if (pt_cmpR op_eq (pe_call (ok_law_take E) (hr.mono (by decide)) (by rfl) E.D_law_take.g E.D_law_take.F.kp E.D_law_take.b .nil pass0 (pa_cons (pv 0) (pa_cons pe_int pa_nil))) pe_int (nomark _)) (pss_one (ps_ret (pe_call (ok_law_with_three E) (hr.mono (by decide)) (by rfl) E.D_law_with_three.g E.D_law_with_three.F.kp E.D_law_with_three.b .nil pass0 (pa_cons (pv 0) (pa_cons (pv 2) pa_nil))))) pss_nil)
      (pss_one (ps_ret (pv 2)))))), ?_⟩
    have O := Ow.start1 hd
    walk_at "v"
    refine ⟨a, ds, 3, rfl, O.get 0 rfl, hD, by decide, fun r ds2 h0 h1 hD => ?_⟩
    have O := O.set (o' := .lst (ds2.map V.int)) 0 rfl
    walk_at "v"
    refine ite2 (fun e => ?_) (fun e => ?_)
    · walk_at "v"
      refine ⟨a, ds2, rfl, O.get 0 rfl, hD, fun F hF H2 L f b ds3 fr hd hD hL hv => ?_⟩
      have O := O.put 0 rfl fr hd
      walk_at "v"
      refine w_ixL (.of hL) (atI_nat (j := 0) rfl) ?_
      exact q F hF _ _ ds3 O.frO (O.get 0 rfl) hD hv
    · walk_at "v"
      refine ⟨a, ds2, m, rfl, O.get 0 rfl, hD, hm1, hm, fun F hF H2 v ds3 fr hd hD hv => ?_⟩
      have O := O.put 0 rfl fr hd
      walk_at "v"
      refine ⟨a, ds3, 7, rfl, O.get 0 rfl, hD, by decide, fun r ds4 h0 h1 hD => ?_⟩
      have hv := dp_tk (TK.chg (o := .lst (ds4.map V.int)) (O.get 0 rfl)) _ _ F.tup hv
      have O := O.set (o' := .lst (ds4.map V.int)) 0 rfl
      walk_at "v"
      refine ite2 (fun e => ?_) (fun e => ?_)
      · walk_at "v"
        refine ⟨a, ds4, v, F, rfl, O.get 0 rfl, hD, hF, hv, fun F2 hF2 H3 v2 ds5 fr hd hD hv2 => ?_⟩
        have O := O.put 0 rfl fr hd
        exact q F2 hF2 _ _ ds5 O.frO (O.get 0 rfl) hD hv2
      · walk_at "v"
        exact q F hF _ _ ds4 O.frO (O.get 0 rfl) hD hv

/-! ### law -/
def sp_law (K : PySem.W.Frag) (Pt : Addr) : Sp := fun vs H Q _ => ∃ (a : Addr) (ns : List Int), vs = [.ref a] ∧ SqL K H a (ns.map V.int) ∧ ns.length ≤ 63 ∧ H Pt = some (.tbl #[]) ∧ ∀ H', Q (.bl true) H'
theorem sp_law_start {H : Hp} {a Pt : Addr} {ns : List Int} {X : XK} (hT : H Pt = some (.tbl #[])) (h : SqL K H a (ns.map V.int)) (hl : ns.length ≤ 63) : sp_law K Pt [.ref a] H (fun v _ => v = .bl true) X := ⟨a, ns, rfl, h, hl, hT, fun _ => rfl⟩
theorem ok_law (E : En K mg) (T : GxR.TabB base mg E.c_is_word E.p_is_word) : FnOk P w K mg base CX0 5 E.a_law E.d_law ["script"] (sp_law K E.p_is_word) := by
  refine E.D_law.F.ok sc_law (fun vs H Q XE h => ?_) (fun cdv A outer s H vs Q XE hr h => ?_)
  · obtain ⟨a, ns, rfl, _⟩ := h; rfl
  · obtain ⟨a, ns, rfl, hS, hn, hPt, q⟩ := h
    refine ⟨_, (pss_cons (ps_set (i := 1) sc_law.nd rfl (Or.inl rfl) (pe_call (ok_law_draws E) (hr.mono (by decide)) (by rfl) E.D_law_draws.g E.D_law_draws.F.kp E.D_law_draws.b .nil pass0 (pa_cons (pv 0) (pa_cons pe_int pa_nil))))
      (pss_cons (ps_set (i := 2) sc_law.nd rfl (Or.inl rfl) (pe_call (ok_law_lively E) (hr.mono (by decide)) (by rfl) E.D_law_lively.g E.D_law_lively.F.kp E.D_law_lively.b .nil pass0 (pa_cons (pv 1) (pa_cons pe_int pa_nil))))
      (Evl.pss_cut (ps_if (pt_cmpR op_eq (pe_call (ok_law_take E) (hr.mono (by decide)) (by rfl) E.D_law_take.g E.D_law_take.F.kp E.D_law_take.b .nil pass0 (pa_cons (pv 1) (pa_cons pe_int pa_nil))) pe_int (nomark _)) (pss_one (ps_set (i := 2) sc_law.nd rfl (Or.inl rfl) (pe_call (ok_law_with_three E) (hr.mono (by decide)) (by rfl) E.D_law_with_three.g E.D_law_with_three.F.kp E.D_law_with_three.b .nil pass0 (pa_cons (pv 1) (pa_cons (pv 2) pa_nil))))) pss_nil)
      (pss_cons (ps_set (i := 3) sc_law.nd rfl (Or.inl rfl) (pe_callB (k_len_seq K) (by rfl) E.B.len PySem.boot_len (pa_cons (pe_ix (k_ix_tup K) (pv 2) pe_int (fun _ _ => rfl)) pa_nil)))
      (pss_cons (ps_set (i := 4) sc_law.nd rfl (Or.inl rfl) (pe_lst (pa_cons (pv 2) (pa_cons (pe_op (k_catA K) (pe_op (k_catA K) (pe_slice (k_sl_tupA K) (pv 2) po_none (po_some pe_int)) (pe_tup (pa_cons (pe_tup pa_nil) pa_nil))) (pe_slice (k_sl_tupA K) (pv 2) (po_some pe_int) po_none)) (pa_cons (pe_op (k_catA K) (pe_op (k_catA K) (pe_slice (k_sl_tupA K) (pv 2) po_none (po_some pe_int)) (pe_tup (pa_cons (pe_callTy (k_tuple_of K) (by rfl) E.B.tuple (by decide +kernel) (pa_cons (pe_lc (own := [("k", 6)]) (g := gName 6) (tt := tYes) rfl sc_law.nd (pi_range1 (by rfl) E.B.range (pa_cons (pv 3) pa_nil)) (blkOk_by (own := [("k", 6)]) (N := N_law) (sc := defScope s_law) (by decide +kernel)) (fun _ _ _ _ _ => (pg_name (i := 6) sc_law.nd rfl (Or.inl rfl))) (fun _ _ _ _ _ => pts_nil) (fun _ _ _ _ _ => (pv 6))) pa_nil)) pa_nil))) (pe_slice (k_sl_tupA K) (pv 2) (po_some pe_int) po_none)) pa_nil)))))
      (pss_cons (ps_expr (pe_bm PySem.F.plainAttrs_list PySem.F.slot_list_append PySem.F.type_list_append mt_append (pv 4) (pa_cons (pe_op (k_catA K) (pe_op (k_catA K) (pe_slice (k_sl_tupA K) (pv 2) po_none (po_some pe_int)) (pe_tup (pa_cons (pe_op op_sub (pv 3) pe_int) pa_nil))) (pe_slice (k_sl_tupA K) (pv 2) (po_some pe_int) po_none)) pa_nil)))
      (pss_cons (ps_for PassesOwn.never rfl (k_pi_list K (pv 4)) (pg_name (i := 5) sc_law.nd rfl (Or.inl rfl)) (pss_one (ps_for PassesOwn.never rfl (pi_range1 (by rfl) E.B.range (pa_cons pe_int pa_nil)) (pg_name (i := 6) sc_law.nd rfl (Or.inl rfl)) (pss_one (ps_if (pt_cmpR op_notN (pe_call (ok_check_family E T) (hr.mono (by decide)) (by rfl) E.D_check_family.g E.D_check_family.F.kp E.D_check_family.b .nil pass0 (pa_cons (pv 5) pa_nil)) pe_non (nomark _)) (pss_one (ps_ret pe_bl)) pss_nil)))))
      (pss_one (ps_ret pe_bl))))))))), ?_⟩
    have O := start_noT hPt
    generalize E.p_is_word = Pt at O hPt ⊢
    walk_at "v"
    refine ⟨a, ns, 300, rfl, hS, hn, by decide, by decide, fun H1 p ds sm hp hd hD => ?_⟩
    have O := O.add hp sm hd
    walk_at "v"
    refine ⟨p, ds, 6, rfl, O.get 1 rfl, hD, by decide, by decide, fun F1 hF1 H2 v1 ds2 fr hd hD hv1 => ?_⟩
    have O := O.put 1 rfl fr hd
    walk_at "v"
    refine w_cut (fun σ' H' => ∃ (v : V) (F : Fam) (ds : List Int), σ' = [some (.ref a), some (.ref p), some v, none, none, none, none] ∧ F.Ok ∧ Dp K H' v F.D ∧ Dr ds ∧ Ow (noT Pt H) [] H' [(Pt, .tbl #[]), (p, .lst (ds.map V.int))]) ?_ ?_
    · walk_at "v"
      refine ⟨p, ds2, 3, rfl, O.get 1 rfl, hD, by decide, fun r ds3 h0 h1 hD => ?_⟩
      have hv1 := dp_tk (TK.chg (o := .lst (ds3.map V.int)) (O.get 1 rfl)) _ _ F1.tup hv1
      have O := O.set (o' := .lst (ds3.map V.int)) 1 rfl
      walk_at "v"
      refine ite2 (fun e => ?_) (fun e => ?_)
      · walk_at "v"
        refine ⟨p, ds3, v1, F1, rfl, O.get 1 rfl, hD, hF1, hv1, fun F2 hF2 H3 v2 ds4 fr hd hD hv2 => ?_⟩
        have O := O.put 1 rfl fr hd
        walk_at "v"
        exact ⟨_, F2, ds4, rfl, hF2, hv2, hD, O⟩
      · walk_at "v"
        exact ⟨_, F1, ds3, rfl, hF1, hv1, hD, O⟩
    · rintro σ' H3 ⟨v, F, ds3, rfl, hF, hv, hD, O⟩
      obtain ⟨f, m, tt, rs, rfl, hf, hm, htt, hrs⟩ := fam_un hv
      have hl := hF.le
      have hst := hF.st
      have hrl : rs.length = F.sp.length := by rw [dps_len hrs, List.length_map]
      walk_at "v"
      refine w_ixT hf (atI_nat (j := 4) rfl) ?_
      refine ⟨tt, rs, rfl, .inr htt, ?_⟩
      walk_at "v"
      obtain ⟨z1, hz1⟩ : ∃ z, z = V.str (S F.nm) := ⟨_, rfl⟩
      obtain ⟨z2, hz2⟩ : ∃ z, z = V.str (S F.th) := ⟨_, rfl⟩
      obtain ⟨z3, hz3⟩ : ∃ z, z = V.int (F.st : Int) := ⟨_, rfl⟩
      rw [← hz1, ← hz2, ← hz3] at hf
      have kk := TK.refl H3
      refine w_slN (ys := [z1, z2, z3]) hf rfl (by simp) fun s1 n1 => ?_
      have O := O.new (o := .tup [z1, z2, z3]) n1
      have kk := kk.trans (TK.new (o := .tup [z1, z2, z3]) n1)
      walk_at "v"
      refine ⟨szl (by simp), fun s2 n2 => ?_⟩
      have O := O.new (o := .tup []) n2
      have kk := kk.trans (TK.new (o := .tup []) n2)
      walk_at "v"
      refine ⟨szl (by simp), fun s3 n3 => ?_⟩
      have O := O.new (o := .tup [.ref s2]) n3
      have kk := kk.trans (TK.new (o := .tup [.ref s2]) n3)
      refine w_catN (zs := [z1, z2, z3, .ref s2]) (O.tup 2 rfl) (O.tup 4 rfl) rfl (by simp) (by simp) (by simp) fun s4 n4 => ?_
      have O := O.new (o := .tup [z1, z2, z3, .ref s2]) n4
      have kk := kk.trans (TK.new (o := .tup [z1, z2, z3, .ref s2]) n4)
      walk_at "v"
      refine w_slN (ys := [.ref tt]) (kk.seqT hf) rfl (by simp) fun s5 n5 => ?_
      have O := O.new (o := .tup [.ref tt]) n5
      have kk := kk.trans (TK.new (o := .tup [.ref tt]) n5)
      refine w_catN (zs := [z1, z2, z3, .ref s2, .ref tt]) (O.tup 5 rfl) (O.tup 6 rfl) rfl (by simp) (by simp) (by simp) fun o1 m1 => ?_
      have O := O.new (o := .tup [z1, z2, z3, .ref s2, .ref tt]) m1
      have kk := kk.trans (TK.new (o := .tup [z1, z2, z3, .ref s2, .ref tt]) m1)
      walk_at "v"
      refine w_slN (ys := [z1, z2, z3]) (kk.seqT hf) rfl (by simp) fun s6 n6 => ?_
      have O := O.new (o := .tup [z1, z2, z3]) n6
      have kk := kk.trans (TK.new (o := .tup [z1, z2, z3]) n6)
      walk_at "v"
      refine ⟨by omega, by omega, ?_⟩
      have d1 : Dp K _ (.ref o1) ({ F with mr := [] } : Fam).D := fam_mk (F := { F with mr := [] }) (by rw [← hz1, ← hz2, ← hz3]; exact O.tup 7 rfl) (O.tup 3 rfl) (kk.seqT htt) (dps_tk kk _ _ (rows_tup _) hrs)
      have O := O.sub (L' := [(Pt, .tbl #[]), (p, .lst (ds3.map V.int)), (s6, .tup [z1, z2, z3])]) (by repeat (first | exact List.Sublist.slnil | apply List.Sublist.cons₂ | apply List.Sublist.cons)) (by simp)
      generalize hHa : upd _ s6 _ = Ha at O kk d1 ⊢
      have en : ((rs.length : Int)).toNat = rs.length := by omega
      rw [en]
      refine lc_R (fun Dl j H' => Ow (noT Pt H) [] H' [(Pt, .tbl #[]), (p, .lst (ds3.map V.int)), (s6, .tup [z1, z2, z3]), (Dl, .lst (ivs (List.range j)))] ∧ TK Ha H') (fun Dl hDl => by exact ⟨O.new hDl, TK.new hDl⟩) (fun Dl j H' hj h => ?_) (fun Dl H' h => ?_)
      · obtain ⟨O, k⟩ := h
        refine w_gname ⟨rfl, ?_⟩
        walk_at "v"
        have ej : (0 : Int) + (j : Int) = (j : Int) := Int.zero_add _
        rw [ej]
        refine ⟨_, O.get 3 rfl, szlt (by simp; omega), ?_, k.trans (TK.chg (O.get 3 rfl))⟩
        have e : ivs (List.range (j + 1)) = ivs (List.range j) ++ [.int (j : Int)] := by simp [ivs, List.range_succ]
        rw [e]; exact O.set 3 rfl
      · obtain ⟨O, k⟩ := h
        have kk := kk.trans k
        have d1 := dp_tk k _ _ (Fam.tup _) d1
        refine ⟨Dl, _, rfl, .inl ⟨O.lst 3 rfl, fun mm nm => ?_⟩⟩
        have O := O.new (o := .tup (ivs (List.range rs.length))) nm
        have kk := kk.trans (TK.new (o := .tup (ivs (List.range rs.length))) nm)
        have d1 := dp_tk (TK.new (o := .tup (ivs (List.range rs.length))) nm) _ _ (Fam.tup _) d1
        walk_at "v"
        refine ⟨szl (by simp), fun s7 n7 => ?_⟩
        have O := O.new (o := .tup [.ref mm]) n7
        have kk := kk.trans (TK.new (o := .tup [.ref mm]) n7)
        have d1 := dp_tk (TK.new (o := .tup [.ref mm]) n7) _ _ (Fam.tup _) d1
        refine w_catN (zs := [z1, z2, z3, .ref mm]) (O.tup 2 rfl) (O.tup 5 rfl) rfl (by simp) (by simp) (by simp) fun s8 n8 => ?_
        have O := O.new (o := .tup [z1, z2, z3, .ref mm]) n8
        have kk := kk.trans (TK.new (o := .tup [z1, z2, z3, .ref mm]) n8)
        have d1 := dp_tk (TK.new (o := .tup [z1, z2, z3, .ref mm]) n8) _ _ (Fam.tup _) d1
        walk_at "v"
        refine w_slN (ys := [.ref tt]) (kk.seqT hf) rfl (by simp) fun s9 n9 => ?_
        have O := O.new (o := .tup [.ref tt]) n9
        have kk := kk.trans (TK.new (o := .tup [.ref tt]) n9)
        have d1 := dp_tk (TK.new (o := .tup [.ref tt]) n9) _ _ (Fam.tup _) d1
        refine w_catN (zs := [z1, z2, z3, .ref mm, .ref tt]) (O.tup 6 rfl) (O.tup 7 rfl) rfl (by simp) (by simp) (by simp) fun o2 m2 => ?_
        have O := O.new (o := .tup [z1, z2, z3, .ref mm, .ref tt]) m2
        have kk := kk.trans (TK.new (o := .tup [z1, z2, z3, .ref mm, .ref tt]) m2)
        have d1 := dp_tk (TK.new (o := .tup [z1, z2, z3, .ref mm, .ref tt]) m2) _ _ (Fam.tup _) d1
        walk_at "v"
        have d2 : Dp K _ (.ref o2) ({ F with mr := List.range rs.length } : Fam).D := fam_mk (F := { F with mr := List.range rs.length }) (by rw [← hz1, ← hz2, ← hz3]; exact O.tup 8 rfl) (O.tup 4 rfl) (kk.seqT htt) (dps_tk kk _ _ (rows_tup _) hrs)
        refine ⟨szl (by simp), fun G hG => ?_⟩
        have O := O.new (o := .lst [.ref f, .ref o1, .ref o2]) hG
        have kk := kk.trans (TK.new (o := .lst [.ref f, .ref o1, .ref o2]) hG)
        have d1 := dp_tk (TK.new (o := .lst [.ref f, .ref o1, .ref o2]) hG) _ _ (Fam.tup _) d1
        have d2 := dp_tk (TK.new (o := .lst [.ref f, .ref o1, .ref o2]) hG) _ _ (Fam.tup _) d2
        have O := O.sub (L' := [(Pt, .tbl #[]), (G, .lst [.ref f, .ref o1, .ref o2])]) (by repeat (first | exact List.Sublist.slnil | apply List.Sublist.cons₂ | apply List.Sublist.cons)) (by simp)
        walk_at "v"
        generalize hHb : upd _ G _ = Hb at O kk d1 d2 ⊢
        refine w_tyL (O.lst 1 rfl) ?_
        walk_at "v"
        refine w_slN (ys := [z1, z2]) (kk.seqT hf) rfl (by simp) fun q1 w1 => ?_
        have O := O.new (o := .tup [z1, z2]) w1
        have kk := kk.trans (TK.new (o := .tup [z1, z2]) w1)
        have d1 := dp_tk (TK.new (o := .tup [z1, z2]) w1) _ _ (Fam.tup _) d1
        have d2 := dp_tk (TK.new (o := .tup [z1, z2]) w1) _ _ (Fam.tup _) d2
        walk_at "v"
        refine ⟨szl (by simp), fun q2 w2 => ?_⟩
        have O := O.new (o := .tup [.int ((rs.length : Int) - 1)]) w2
        have kk := kk.trans (TK.new (o := .tup [.int ((rs.length : Int) - 1)]) w2)
        have d1 := dp_tk (TK.new (o := .tup [.int ((rs.length : Int) - 1)]) w2) _ _ (Fam.tup _) d1
        have d2 := dp_tk (TK.new (o := .tup [.int ((rs.length : Int) - 1)]) w2) _ _ (Fam.tup _) d2
        refine w_catN (zs := [z1, z2, .int ((rs.length : Int) - 1)]) (O.tup 2 rfl) (O.tup 3 rfl) rfl (by simp) (by simp) (by simp) fun q3 w3 => ?_
        have O := O.new (o := .tup [z1, z2, .int ((rs.length : Int) - 1)]) w3
        have kk := kk.trans (TK.new (o := .tup [z1, z2, .int ((rs.length : Int) - 1)]) w3)
        have d1 := dp_tk (TK.new (o := .tup [z1, z2, .int ((rs.length : Int) - 1)]) w3) _ _ (Fam.tup _) d1
        have d2 := dp_tk (TK.new (o := .tup [z1, z2, .int ((rs.length : Int) - 1)]) w3) _ _ (Fam.tup _) d2
        walk_at "v"
        refine w_slN (ys := [.ref m, .ref tt]) (kk.seqT hf) rfl (by simp) fun q4 w4 => ?_
        have O := O.new (o := .tup [.ref m, .ref tt]) w4
        have kk := kk.trans (TK.new (o := .tup [.ref m, .ref tt]) w4)
        have d1 := dp_tk (TK.new (o := .tup [.ref m, .ref tt]) w4) _ _ (Fam.tup _) d1
        have d2 := dp_tk (TK.new (o := .tup [.ref m, .ref tt]) w4) _ _ (Fam.tup _) d2
        refine w_catN (zs := [z1, z2, .int ((rs.length : Int) - 1), .ref m, .ref tt]) (O.tup 4 rfl) (O.tup 5 rfl) rfl (by simp) (by simp) (by simp) fun o3 w5 => ?_
        have O := O.new (o := .tup [z1, z2, .int ((rs.length : Int) - 1), .ref m, .ref tt]) w5
        have kk := kk.trans (TK.new (o := .tup [z1, z2, .int ((rs.length : Int) - 1), .ref m, .ref tt]) w5)
        have d1 := dp_tk (TK.new (o := .tup [z1, z2, .int ((rs.length : Int) - 1), .ref m, .ref tt]) w5) _ _ (Fam.tup _) d1
        have d2 := dp_tk (TK.new (o := .tup [z1, z2, .int ((rs.length : Int) - 1), .ref m, .ref tt]) w5) _ _ (Fam.tup _) d2
        walk_at "v"
        have es : (rs.length : Int) - 1 = ((rs.length - 1 : Nat) : Int) := by omega
        have d3 : Dp K _ (.ref o3) ({ F with st := rs.length - 1 } : Fam).D := fam_mk (F := { F with st := rs.length - 1 }) (by rw [← hz1, ← hz2, ← es]; exact O.tup 6 rfl) (kk.seqT hm) (kk.seqT htt) (dps_tk kk _ _ (rows_tup _) hrs)
        have d0 : Dp K _ (.ref f) F.D := dp_tk kk _ _ F.tup hv
        refine w_append (O.get 1 rfl) (szlt (by simp)) ?_
        have k2 := TK.chg (o := .lst ([.ref f, .ref o1, .ref o2] ++ [.ref o3])) (O.get 1 rfl)
        have d0 := dp_tk k2 _ _ (Fam.tup _) d0
        have d1 := dp_tk k2 _ _ (Fam.tup _) d1
        have d2 := dp_tk k2 _ _ (Fam.tup _) d2
        have d3 := dp_tk k2 _ _ (Fam.tup _) d3
        have O := (O.set (o' := .lst ([.ref f, .ref o1, .ref o2] ++ [.ref o3])) 1 rfl).take 2 (by simp)
        generalize hHc : upd _ G _ = Hc at O d0 d1 d2 d3 ⊢
        have hall : ∀ x ∈ [V.ref f, .ref o1, .ref o2] ++ [.ref o3], ∃ F : Fam, F.Ok ∧ Dp K Hc x F.D := by
          intro x hx
          simp only [List.cons_append, List.nil_append, List.mem_cons, List.not_mem_nil, or_false] at hx
          rcases hx with rfl | rfl | rfl | rfl
          · exact ⟨_, hF, d0⟩
          · exact ⟨{ F with mr := [] }, ⟨hF.an, hF.at_, hF.st, hF.le, by simp, by simp, hF.row⟩, d1⟩
          · refine ⟨{ F with mr := List.range rs.length }, ⟨hF.an, hF.at_, hF.st, hF.le, by simp; omega, ⟨fun y hy => ?_, ?_⟩, hF.row⟩, d2⟩
            · have := List.mem_range.mp hy
              show y < F.sp.length
              omega
            · exact List.pairwise_lt_range
          · exact ⟨{ F with st := rs.length - 1 }, ⟨hF.an, hF.at_, by show rs.length - 1 < F.sp.length; omega, hF.le, hF.ml, hF.ms, hF.row⟩, d3⟩
        generalize ([V.ref f, .ref o1, .ref o2] ++ [.ref o3]) = fs at O hall ⊢
        walk_at "v"
        refine ⟨⟨_, O.lst 1 rfl⟩, ?_⟩
        generalize hn : (some (V.int (rs.length : Int)) : Option V) = sn
        refine for_L (xs := fs) (fun i σ' H' => ∃ (y5 y6 : Option V) (ps : Array Value), σ' = [some (.ref a), some (.ref p), some (.ref f), sn, some (.ref G), y5, y6] ∧ TriplesOk ps.toList ∧ Ow (noT Pt H) [] H' [(Pt, .tbl ps), (G, .lst fs)] ∧ ∀ x ∈ fs, ∃ F : Fam, F.Ok ∧ Dp K H' x F.D) (by exact ⟨_, _, #[], rfl, by simp [TriplesOk], O, hall⟩) (fun i σ' H' _ h => by obtain ⟨_, _, _, _, _, O, _⟩ := h; exact O.lst 1 rfl) ?_ ?_
        · rintro i x σ' H' hx ⟨y5, y6, ps, rfl, hps, O, hall⟩
          walk_at "v"
          refine ⟨by decide, by decide, ?_⟩
          refine for_R (fun j σ' H' => ∃ (y6 : Option V) (ps : Array Value), σ' = [some (.ref a), some (.ref p), some (.ref f), sn, some (.ref G), some x, y6] ∧ TriplesOk ps.toList ∧ Ow (noT Pt H) [] H' [(Pt, .tbl ps), (G, .lst fs)] ∧ ∀ x ∈ fs, ∃ F : Fam, F.Ok ∧ Dp K H' x F.D) (by exact ⟨_, ps, rfl, hps, O, hall⟩) ?_ ?_
          · rintro j σ' H' hj ⟨y6, ps, rfl, hps, O, hall⟩
            obtain ⟨F2, hF2, hd2⟩ := hall x (List.mem_of_getElem? hx)
            have hT2 : ∃ ps : Array Value, H' Pt = some (.tbl ps) ∧ TriplesOk ps.toList := ⟨ps, O.get 0 rfl, hps⟩
            walk_at "v"
            refine ⟨x, F2, rfl, hF2, hd2, hT2, fun H2 t => ?_⟩
            have hall := fun y hy => (hall y hy).imp fun F3 z => (⟨z.1, dp_q (fun _ _ => t.seqT hT2) _ _ F3.tup z.2⟩ : F3.Ok ∧ Dp K H2 y F3.D)
            obtain ⟨⟨ps2, e1, e2⟩, k⟩ := t
            have O := O.put (o' := .tbl ps2) 0 rfl (fun b v e n => k b v n e) e1
            walk_at "v"
            refine ⟨rfl, ?_⟩
            walk_at "v"
            exact ⟨_, ps2, rfl, e2, O, hall⟩
          · rintro σ' H' ⟨y6, ps, rfl, hps, O, hall⟩
            exact ⟨_, _, ps, rfl, hps, O, hall⟩
        · rintro σ' H' ⟨y5, y6, ps, rfl, hps, O, hall⟩
          walk_at "v"
          exact q _

end
theorem all_mk {l : PySem.W.OpenLaw} {w : World} {K : PySem.W.Frag} {h : Heap} {mg : Str → Option Value} {fa f0 f1 f2 f3 f4 f5 f6 f7 f8 f9 f10 f11 f12 f13 f14 : Addr} (X : K.In h) (G : h.Ns mainGlobals mg) (hfa : mg "law" = some (.ref fa))
    {od0 od1 od2 od3 od4 od5 od6 od7 od8 od9 od10 od11 od12 od13 od14 an0 an1 an2 an3 an4 an5 an6 an7 an8 an9 an10 an11 an12 an13 an14 : Option Addr} {sl0 sl1 sl2 sl3 sl4 sl5 sl6 sl7 sl8 sl9 sl10 sl11 sl12 sl13 sl14 : Array (Option Value)} {oc0 oc1 oc2 oc3 oc4 oc5 oc6 oc7 oc8 oc9 oc10 oc11 oc12 oc13 oc14 kV0 kV1 kV2 kV3 kV4 kV5 kV6 kV7 kV8 kV9 kV10 kV11 kV12 kV13 kV14 dc0 dc1 dc2 dc3 dc4 dc5 dc6 dc7 dc8 dc9 dc10 dc11 dc12 dc13 dc14 pm0 pm1 pm2 pm3 pm4 pm5 pm6 pm7 pm8 pm9 pm10 pm11 pm12 pm13 pm14 cd0 cd1 cd2 cd3 cd4 cd5 cd6 cd7 cd8 cd9 cd10 cd11 cd12 cd13 cd14 ct0 ct1 ct2 ct3 ct4 ct5 ct6 ct7 ct8 ct9 ct10 ct11 ct12 ct13 ct14 : Value} {t0 t1 : Tok}
    (a0 : PySem.W.nsIn K mainGlobals "is_alphabet" = some (some (.ref f0))) (l0 : K.lookup f0 = some ⟨oc0, od0, .func (PySem.W.fnOf "is_alphabet" "is_alphabet" (defArgs s_is_alphabet) (defBody s_is_alphabet) (defScope s_is_alphabet) .none kV0 dc0 pm0 an0 cd0 ct0), sl0⟩) (c0 : PySem.W.codeIn K cd0 "is_alphabet" = true) (k0 : PySem.W.keepIn K (.ref f0) = true)
    (a1 : PySem.W.nsIn K mainGlobals "is_word" = some (some (.ref f1))) (l1 : K.lookup f1 = some ⟨oc1, od1, .func (PySem.W.fnOf "is_word" "is_word" (defArgs s_is_word) (defBody s_is_word) (defScope s_is_word) .none kV1 dc1 pm1 an1 cd1 ct1), sl1⟩) (c1 : PySem.W.codeIn K cd1 "is_word" = true) (k1 : PySem.W.keepIn K (.ref f1) = true)
    (a2 : PySem.W.nsIn K mainGlobals "check_family" = some (some (.ref f2))) (l2 : K.lookup f2 = some ⟨oc2, od2, .func (PySem.W.fnOf "check_family" "check_family" (defArgs s_check_family) (defBody s_check_family) (defScope s_check_family) .none kV2 dc2 pm2 an2 cd2 ct2), sl2⟩) (c2 : PySem.W.codeIn K cd2 "check_family" = true) (k2 : PySem.W.keepIn K (.ref f2) = true)
    (a3 : PySem.W.nsIn K mainGlobals "columns_of" = some (some (.ref f3))) (l3 : K.lookup f3 = some ⟨oc3, od3, .func (PySem.W.fnOf "columns_of" "columns_of" (defArgs s_columns_of) (defBody s_columns_of) (defScope s_columns_of) .none kV3 dc3 pm3 an3 cd3 ct3), sl3⟩) (c3 : PySem.W.codeIn K cd3 "columns_of" = true) (k3 : PySem.W.keepIn K (.ref f3) = true)
    (a4 : PySem.W.nsIn K mainGlobals "_are_states" = some (some (.ref f4))) (l4 : K.lookup f4 = some ⟨oc4, od4, .func (PySem.W.fnOf "_are_states" "_are_states" (defArgs s_are_states) (defBody s_are_states) (defScope s_are_states) .none kV4 dc4 pm4 an4 cd4 ct4), sl4⟩) (c4 : PySem.W.codeIn K cd4 "_are_states" = true) (k4 : PySem.W.keepIn K (.ref f4) = true)
    (a5 : PySem.W.nsIn K mainGlobals "_ascend" = some (some (.ref f5))) (l5 : K.lookup f5 = some ⟨oc5, od5, .func (PySem.W.fnOf "_ascend" "_ascend" (defArgs s_ascend) (defBody s_ascend) (defScope s_ascend) .none kV5 dc5 pm5 an5 cd5 ct5), sl5⟩) (c5 : PySem.W.codeIn K cd5 "_ascend" = true) (k5 : PySem.W.keepIn K (.ref f5) = true)
    (a6 : PySem.W.nsIn K mainGlobals "_law_draws" = some (some (.ref f6))) (l6 : K.lookup f6 = some ⟨oc6, od6, .func (PySem.W.fnOf "_law_draws" "_law_draws" (defArgs s_law_draws) (defBody s_law_draws) (defScope s_law_draws) .none kV6 dc6 pm6 an6 cd6 ct6), sl6⟩) (c6 : PySem.W.codeIn K cd6 "_law_draws" = true) (k6 : PySem.W.keepIn K (.ref f6) = true)
    (a7 : PySem.W.nsIn K mainGlobals "_law_take" = some (some (.ref f7))) (l7 : K.lookup f7 = some ⟨oc7, od7, .func (PySem.W.fnOf "_law_take" "_law_take" (defArgs s_law_take) (defBody s_law_take) (defScope s_law_take) .none kV7 dc7 pm7 an7 cd7 ct7), sl7⟩) (c7 : PySem.W.codeIn K cd7 "_law_take" = true) (k7 : PySem.W.keepIn K (.ref f7) = true)
    (a8 : PySem.W.nsIn K mainGlobals "_law_alphabet" = some (some (.ref f8))) (l8 : K.lookup f8 = some ⟨oc8, od8, .func (PySem.W.fnOf "_law_alphabet" "_law_alphabet" (defArgs s_law_alphabet) (defBody s_law_alphabet) (defScope s_law_alphabet) .none kV8 dc8 pm8 an8 cd8 ct8), sl8⟩) (c8 : PySem.W.codeIn K cd8 "_law_alphabet" = true) (k8 : PySem.W.keepIn K (.ref f8) = true)
    (a9 : PySem.W.nsIn K mainGlobals "_law_columns" = some (some (.ref f9))) (l9 : K.lookup f9 = some ⟨oc9, od9, .func (PySem.W.fnOf "_law_columns" "_law_columns" (defArgs s_law_columns) (defBody s_law_columns) (defScope s_law_columns) .none kV9 dc9 pm9 an9 cd9 ct9), sl9⟩) (c9 : PySem.W.codeIn K cd9 "_law_columns" = true) (k9 : PySem.W.keepIn K (.ref f9) = true)
    (a10 : PySem.W.nsIn K mainGlobals "_law_family" = some (some (.ref f10))) (l10 : K.lookup f10 = some ⟨oc10, od10, .func (PySem.W.fnOf "_law_family" "_law_family" (defArgs s_law_family) (defBody s_law_family) (defScope s_law_family) .none kV10 dc10 pm10 an10 cd10 ct10), sl10⟩) (c10 : PySem.W.codeIn K cd10 "_law_family" = true) (k10 : PySem.W.keepIn K (.ref f10) = true)
    (a11 : PySem.W.nsIn K mainGlobals "_law_known_family" = some (some (.ref f11))) (l11 : K.lookup f11 = some ⟨oc11, od11, .func (PySem.W.fnOf "_law_known_family" "_law_known_family" (defArgs s_law_known_family) (defBody s_law_known_family) (defScope s_law_known_family) .none kV11 dc11 pm11 an11 cd11 ct11), sl11⟩) (c11 : PySem.W.codeIn K cd11 "_law_known_family" = true) (k11 : PySem.W.keepIn K (.ref f11) = true)
    (a12 : PySem.W.nsIn K mainGlobals "_law_lively" = some (some (.ref f12))) (l12 : K.lookup f12 = some ⟨oc12, od12, .func (PySem.W.fnOf "_law_lively" "_law_lively" (defArgs s_law_lively) (defBody s_law_lively) (defScope s_law_lively) .none kV12 dc12 pm12 an12 cd12 ct12), sl12⟩) (c12 : PySem.W.codeIn K cd12 "_law_lively" = true) (k12 : PySem.W.keepIn K (.ref f12) = true)
    (a13 : PySem.W.nsIn K mainGlobals "_law_with_three" = some (some (.ref f13))) (l13 : K.lookup f13 = some ⟨oc13, od13, .func (PySem.W.fnOf "_law_with_three" "_law_with_three" (defArgs s_law_with_three) (defBody s_law_with_three) (defScope s_law_with_three) .none kV13 dc13 pm13 an13 cd13 ct13), sl13⟩) (c13 : PySem.W.codeIn K cd13 "_law_with_three" = true) (k13 : PySem.W.keepIn K (.ref f13) = true)
    (a14 : PySem.W.nsIn K mainGlobals "law" = some (some (.ref f14))) (l14 : K.lookup f14 = some ⟨oc14, od14, .func (PySem.W.fnOf "law" "law" (defArgs s_law) (defBody s_law) (defScope s_law) .none kV14 dc14 pm14 an14 cd14 ct14), sl14⟩) (c14 : PySem.W.codeIn K cd14 "law" = true) (k14 : PySem.W.keepIn K (.ref f14) = true)
    (q0 : PySem.W.nsIn K mainGlobals "_LETTERS" = some (some (.str "abcdefghijklmnopqrstuvwxyz" t0)))
    (q1 : PySem.W.nsIn K mainGlobals "_MOST_LETTERS" = some (some (.int 3 t1)))
    (z0 : PySem.W.nsIn K mainGlobals "len" = some none)
    (z1 : PySem.W.nsIn K mainGlobals "list" = some none)
    (z2 : PySem.W.nsIn K mainGlobals "sorted" = some none)
    (z3 : PySem.W.nsIn K mainGlobals "set" = some none)
    (z4 : PySem.W.nsIn K mainGlobals "all" = some none)
    (z5 : PySem.W.nsIn K mainGlobals "tuple" = some none)
    (z6 : PySem.W.nsIn K mainGlobals "zip" = some none)
    (z7 : PySem.W.nsIn K mainGlobals "int" = some none)
    (z8 : PySem.W.nsIn K mainGlobals "range" = some none)
    {cT pT : Addr} (tT : PySem.W.tabIn K "is_word" = some (cT, pT)) :
    ∃ fd : FuncData, (∀ (s : Shared) (v : Value), BindsTo s fd ⟨[v], []⟩ [("script", v)]) ∧ ∀ base : Heap, K.In base → base.Ns mainGlobals mg → GxR.TabB base mg cT pT → FnOk l.prog w K mg base CX0 5 fa fd ["script"] (sp_law K pT) := by
  have e := hfa.symm.trans (PySem.W.mg_of X G a14)
  have e1 : f14 = fa := by cases e; rfl
  clear e
  subst e1
  have F0 := fun_mk (st := s_is_alphabet) l0 c0 k0
  have b0 := F0.binds (ps := ["text"]) fun _ _ _ _ _ _ us hl => match us, hl with | [_], _ => rfl
  have F1 := fun_mk (st := s_is_word) l1 c1 k1
  have b1 := F1.binds (ps := ["alphabet", "text"]) fun _ _ _ _ _ _ us hl => match us, hl with | [_, _], _ => rfl
  have F2 := fun_mk (st := s_check_family) l2 c2 k2
  have b2 := F2.binds (ps := ["family"]) fun _ _ _ _ _ _ us hl => match us, hl with | [_], _ => rfl
  have F3 := fun_mk (st := s_columns_of) l3 c3 k3
  have b3 := F3.binds (ps := ["family"]) fun _ _ _ _ _ _ us hl => match us, hl with | [_], _ => rfl
  have F4 := fun_mk (st := s_are_states) l4 c4 k4
  have b4 := F4.binds (ps := ["numbers", "count"]) fun _ _ _ _ _ _ us hl => match us, hl with | [_, _], _ => rfl
  have F5 := fun_mk (st := s_ascend) l5 c5 k5
  have b5 := F5.binds (ps := ["numbers"]) fun _ _ _ _ _ _ us hl => match us, hl with | [_], _ => rfl
  have F6 := fun_mk (st := s_law_draws) l6 c6 k6
  have b6 := F6.binds (ps := ["script", "many"]) fun _ _ _ _ _ _ us hl => match us, hl with | [_, _], _ => rfl
  have F7 := fun_mk (st := s_law_take) l7 c7 k7
  have b7 := F7.binds (ps := ["draws", "many"]) fun _ _ _ _ _ _ us hl => match us, hl with | [_, _], _ => rfl
  have F8 := fun_mk (st := s_law_alphabet) l8 c8 k8
  have b8 := F8.binds (ps := ["draws", "many"]) fun _ _ _ _ _ _ us hl => match us, hl with | [_, _], _ => rfl
  have F9 := fun_mk (st := s_law_columns) l9 c9 k9
  have b9 := F9.binds (ps := ["family"]) fun _ _ _ _ _ _ us hl => match us, hl with | [_], _ => rfl
  have F10 := fun_mk (st := s_law_family) l10 c10 k10
  have b10 := F10.binds (ps := ["draws", "most"]) fun _ _ _ _ _ _ us hl => match us, hl with | [_, _], _ => rfl
  have F11 := fun_mk (st := s_law_known_family) l11 c11 k11
  have b11 := F11.binds (ps := ["draws"]) fun _ _ _ _ _ _ us hl => match us, hl with | [_], _ => rfl
  have F12 := fun_mk (st := s_law_lively) l12 c12 k12
  have b12 := F12.binds (ps := ["draws", "most"]) fun _ _ _ _ _ _ us hl => match us, hl with | [_, _], _ => rfl
  have F13 := fun_mk (st := s_law_with_three) l13 c13 k13
  have b13 := F13.binds (ps := ["draws", "family"]) fun _ _ _ _ _ _ us hl => match us, hl with | [_, _], _ => rfl
  have F14 := fun_mk (st := s_law) l14 c14 k14
  have b14 := F14.binds (ps := ["script"]) fun _ _ _ _ _ _ us hl => match us, hl with | [_], _ => rfl
  have ec : cd1 = .ref cT := PySem.W.law_code X G tT (PySem.W.mg_of X G a1) (X _ _ l1) rfl
  subst ec
  have FC : FunC K "is_word" s_is_word f1 _ cT := ⟨_, _, _, _, _, _, _, _, rfl, l1, c1⟩
  let E : En K mg := {
    a_is_alphabet := f0, d_is_alphabet := _, D_is_alphabet := ⟨F0, PySem.W.mg_of X G a0, b0⟩,
    a_is_word := f1, d_is_word := _, D_is_word := ⟨F1, PySem.W.mg_of X G a1, b1⟩,
    a_check_family := f2, d_check_family := _, D_check_family := ⟨F2, PySem.W.mg_of X G a2, b2⟩,
    a_columns_of := f3, d_columns_of := _, D_columns_of := ⟨F3, PySem.W.mg_of X G a3, b3⟩,
    a_are_states := f4, d_are_states := _, D_are_states := ⟨F4, PySem.W.mg_of X G a4, b4⟩,
    a_ascend := f5, d_ascend := _, D_ascend := ⟨F5, PySem.W.mg_of X G a5, b5⟩,
    a_law_draws := f6, d_law_draws := _, D_law_draws := ⟨F6, PySem.W.mg_of X G a6, b6⟩,
    a_law_take := f7, d_law_take := _, D_law_take := ⟨F7, PySem.W.mg_of X G a7, b7⟩,
    a_law_alphabet := f8, d_law_alphabet := _, D_law_alphabet := ⟨F8, PySem.W.mg_of X G a8, b8⟩,
    a_law_columns := f9, d_law_columns := _, D_law_columns := ⟨F9, PySem.W.mg_of X G a9, b9⟩,
    a_law_family := f10, d_law_family := _, D_law_family := ⟨F10, PySem.W.mg_of X G a10, b10⟩,
    a_law_known_family := f11, d_law_known_family := _, D_law_known_family := ⟨F11, PySem.W.mg_of X G a11, b11⟩,
    a_law_lively := f12, d_law_lively := _, D_law_lively := ⟨F12, PySem.W.mg_of X G a12, b12⟩,
    a_law_with_three := f13, d_law_with_three := _, D_law_with_three := ⟨F13, PySem.W.mg_of X G a13, b13⟩,
    a_law := f14, d_law := _, D_law := ⟨F14, PySem.W.mg_of X G a14, b14⟩,
    c_is_word := cT, p_is_word := pT, FC_is_word := FC,
    T_LETTERS := t0, C_LETTERS := PySem.W.mg_of X G q0,
    T_MOST_LETTERS := t1, C_MOST_LETTERS := PySem.W.mg_of X G q1,
    B := ⟨PySem.W.mg_none_of X G z0, PySem.W.mg_none_of X G z1, PySem.W.mg_none_of X G z2, PySem.W.mg_none_of X G z3, PySem.W.mg_none_of X G z4, PySem.W.mg_none_of X G z5, PySem.W.mg_none_of X G z6, PySem.W.mg_none_of X G z7, PySem.W.mg_none_of X G z8⟩ }
  exact ⟨_, fun s v => .of_eq rfl, fun base _ _ T => ok_law E T⟩
end Law
open PySem PySem.W PyProof.Rows
set_option maxHeartbeats 0 in
theorem PySem.Challenge.cw_guessrests_k07_families_holds : PySem.Challenge.rw_guessrests_k07_families.Holds := by
  w_on; o_law; k_head; (case hw => w_witness2)
  k_fill
  refine G.walk_tab (l := PySem.Challenge.rw_guessrests_k07_families) (n := 63) (k := 5) (x := "script") (y := "is_word") (CX := fun _ => L2.CX0) rfl (by decide) rfl ⟨rfl, by decide, by decide⟩ (fun w h Y => PySem.W.kIn_of Y) ⟨_, rfl⟩ (fun w => ⟨_, _, rfl, rfl⟩) ?F (fun _ _ _ _ _ h => h)
  case F =>
    intro w mg fa h c Pt et KX G hmg
    refine' Exists.imp (fun fd z => ⟨Law.sp_law _ Pt, z.1, fun H a ns hl hH hS => Law.sp_law_start hH hS hl, z.2⟩) (Law.all_mk KX G hmg ?a0 ?l0 ?c0 ?k0 ?a1 ?l1 ?c1 ?k1 ?a2 ?l2 ?c2 ?k2 ?a3 ?l3 ?c3 ?k3 ?a4 ?l4 ?c4 ?k4 ?a5 ?l5 ?c5 ?k5 ?a6 ?l6 ?c6 ?k6 ?a7 ?l7 ?c7 ?k7 ?a8 ?l8 ?c8 ?k8 ?a9 ?l9 ?c9 ?k9 ?a10 ?l10 ?c10 ?k10 ?a11 ?l11 ?c11 ?k11 ?a12 ?l12 ?c12 ?k12 ?a13 ?l13 ?c13 ?k13 ?a14 ?l14 ?c14 ?k14 ?q0 ?q1 ?z0 ?z1 ?z2 ?z3 ?z4 ?z5 ?z6 ?z7 ?z8 ?tT)
    (case a0 => k_is); (case l0 => k_is); (case c0 => k_is); (case k0 => k_is); (case a1 => k_is); (case l1 => k_is); (case c1 => k_is); (case k1 => k_is); (case a2 => k_is); (case l2 => k_is); (case c2 => k_is); (case k2 => k_is); (case a3 => k_is); (case l3 => k_is); (case c3 => k_is); (case k3 => k_is); (case a4 => k_is); (case l4 => k_is); (case c4 => k_is); (case k4 => k_is); (case a5 => k_is); (case l5 => k_is); (case c5 => k_is); (case k5 => k_is); (case a6 => k_is); (case l6 => k_is); (case c6 => k_is); (case k6 => k_is); (case a7 => k_is); (case l7 => k_is); (case c7 => k_is); (case k7 => k_is); (case a8 => k_is); (case l8 => k_is); (case c8 => k_is); (case k8 => k_is); (case a9 => k_is); (case l9 => k_is); (case c9 => k_is); (case k9 => k_is); (case a10 => k_is); (case l10 => k_is); (case c10 => k_is); (case k10 => k_is); (case a11 => k_is); (case l11 => k_is); (case c11 => k_is); (case k11 => k_is); (case a12 => k_is); (case l12 => k_is); (case c12 => k_is); (case k12 => k_is); (case a13 => k_is); (case l13 => k_is); (case c13 => k_is); (case k13 => k_is); (case a14 => k_is); (case l14 => k_is); (case c14 => k_is); (case k14 => k_is); (case q0 => k_is); (case q1 => k_is); (case z0 => k_is); (case z1 => k_is); (case z2 => k_is); (case z3 => k_is); (case z4 => k_is); (case z5 => k_is); (case z6 => k_is); (case z7 => k_is); (case z8 => k_is)
    case tT => exact et
