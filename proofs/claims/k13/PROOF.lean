import PyProof.Rows.All
import Wide.All
import OpenK.AllK
import Wide.FinOn
import KE.KExcIs
import HandS.ForMost
import HandS.ForExc
import HandS.Codes
import HandS.Wide
import HandS.IsInst
import HandS.ExcInit
import HandS.ExcField
import HandS.ExcIs
import HandS.TryMany
import HandS.CallSlots
import HandS.Defaults
import HandS.Gcd
import HandS.DeepEq
import HandS.Flow
import HandS.TupLe
import PyProof.SumWalk
import PyProof.Rows.CountFlat

import HandS.Walk
import KE.GoesEnum
import HandS.SortInts
import HandS.Style
import HandS.Conv
import HandS.StrMore
import HandS.DictComp
import HandS.Head0
import HandS.Head1
import HandS.Head2
import HandS.Head3
import HandS.HeadEnd
import HandS.HeadHook1
import HandS.HeadHook2
import KE.KStateDown
import HandS.Star
import PyProof.Rows.SortShell
import HandS.Sort
import HandS.SortOrd
import HandS.Walk
import HandS.Zip
import HandS.SetFor
import HandS.TupAny
import PySem.Challenge.RW_watchedways_k13_rules_of_zigzags
set_option Elab.async false

set_option Elab.async false
set_option linter.all false
set_option maxRecDepth 100000
set_option maxHeartbeats 4000000
set_option exponentiation.threshold 3000

/-! ### readings, step by step -/
namespace RD
open PySem L2
section
variable {σ : St} {H : Hp} {Q : VK} {B : Bool → Hp → Prop} {A : List V → Hp → Prop} {K : PySem.W.Frag} {v x y : V} {i j : Int} {n : Nat} {ta tb tc te : TE} {tA tB' : TT} {r r' : R2} {t : TA}
theorem d_var {n : Nat} {v : V} (e : σ[n]? = some (some v)) (h : Q v H) : tVar n σ H Q := ⟨v, e, h⟩
theorem d_c (h : Q v H) : tC v σ H Q := h
theorem d_op (h : ta σ H fun x H1 => tb σ H1 fun y H2 => r x y H2 Q) : tOp r ta tb σ H Q := h
theorem d_un {r : V → Hp → VK → Prop} (h : ta σ H fun x H1 => r x H1 Q) : tUn r ta σ H Q := h
theorem d_cb {r : List V → Hp → VK → Prop} (h : t σ H fun vs H1 => r vs H1 Q) : tCB r t σ H Q := h
theorem d_call {sp : Sp} {dvs : List V} {E : XK} (h : t σ H fun vs H1 => sp (vs ++ dvs) H1 Q E) : tCall sp dvs E t σ H Q := h
theorem d_nil (h : A [] H) : tNil σ H A := h
theorem d_cons {ta : TE} {tr : TA} (h : ta σ H fun x H1 => tr σ H1 fun xs H2 => A (x :: xs) H2) : tCons ta tr σ H A := h
theorem d_lst (h : t σ H fun xs H1 => xs.length ≤ sizeLine ∧ ∀ p, H1 p = none → Q (.ref p) (upd H1 p (.lst xs))) : tLst t σ H Q := h
theorem d_tup (h : t σ H fun xs H1 => xs.length ≤ sizeLine ∧ ∀ p, H1 p = none → Q (.ref p) (upd H1 p (.tup xs))) : tTup t σ H Q := h
theorem d_test (h : ta σ H fun x H' => ∃ k, x = .bl k ∧ B k H') : tTest ta σ H B := h
theorem d_tB (h : ta σ H fun x H' => ∃ k, x = .bl k ∧ B k H') : L2.tB ta σ H B := h
theorem d_bl {b : Bool} {R : Bool → Prop} (h : R b) : ∃ k, V.bl b = .bl k ∧ R k := ⟨b, rfl, h⟩
theorem d_and (h : tA σ H fun c H1 => if c = true then tB' σ H1 B else B false H1) : tAnd tA tB' σ H B := h
theorem d_or (h : tA σ H fun c H1 => if c = true then B true H1 else tB' σ H1 B) : tOr tA tB' σ H B := h
theorem d_not (h : tA σ H fun c H1 => B (!c) H1) : tNot tA σ H B := h
theorem d_andV (h : ta σ H fun x H1 => ∃ c, x = .bl c ∧ if c = true then tb σ H1 Q else Q (.bl false) H1) : tAndV ta tb σ H Q := h
theorem d_orV (h : ta σ H fun x H1 => ∃ c, x = .bl c ∧ if c = true then Q (.bl true) H1 else tb σ H1 Q) : tOrV ta tb σ H Q := h
theorem d_notV (h : ta σ H fun x H1 => ∃ c, x = .bl c ∧ Q (.bl (!c)) H1) : tNotV ta σ H Q := h
theorem d_if (h : tA σ H fun c H1 => if c = true then ta σ H1 Q else tb σ H1 Q) : tIf tA ta tb σ H Q := h
theorem d_rI0 {g : Int → Int → V} (h : Q (g i j) H) : rI0 g (.int i) (.int j) H Q := ⟨i, j, rfl, rfl, h⟩
theorem d_rI {C : Int → Int → Prop} {g : Int → Int → V} (c : C i j) (h : Q (g i j) H) : rI C g (.int i) (.int j) H Q := ⟨i, j, rfl, rfl, c, h⟩
theorem d_rU {g : Int → V} (h : Q (g i) H) : rU g (.int i) H Q := ⟨i, rfl, h⟩
theorem d_eqI (h : Q (.bl (decide (i = j))) H) : rEq (.int i) (.int j) H Q := ⟨rfl, by
  have e : decide (V.int i = V.int j) = decide (i = j) := by rw [dec_int, Bool.eq_iff_iff]; simp
  rw [e]; exact h⟩
theorem d_neI (h : Q (.bl (!decide (i = j))) H) : rNe (.int i) (.int j) H Q := ⟨rfl, by
  have e : decide (V.int i = V.int j) = decide (i = j) := by rw [dec_int, Bool.eq_iff_iff]; simp
  rw [e]; exact h⟩
theorem d_eqB {i j : Bool} (h : Q (.bl (decide (i = j))) H) : rEq (.bl i) (.bl j) H Q := ⟨rfl, by
  have e : decide (V.bl i = V.bl j) = decide (i = j) := by rw [dec_bl, Bool.eq_iff_iff]; simp
  rw [e]; exact h⟩
theorem d_eqS {i j : Str} (h : Q (.bl (decide (i = j))) H) : rEq (.str i) (.str j) H Q := ⟨rfl, by
  have e : decide (V.str i = V.str j) = decide (i = j) := by rw [dec_str, Bool.eq_iff_iff]; simp
  rw [e]; exact h⟩
theorem d_neS {i j : Str} (h : Q (.bl (!decide (i = j))) H) : rNe (.str i) (.str j) H Q := ⟨rfl, by
  have e : decide (V.str i = V.str j) = decide (i = j) := by rw [dec_str, Bool.eq_iff_iff]; simp
  rw [e]; exact h⟩
theorem d_ixL {p : Addr} {xs : List V} {v : V} (hs : SqL K H p xs) (e : atI xs i = some v) (h : Q v H) : rIxL K (.ref p) (.int i) H Q := ⟨p, xs, i, v, rfl, rfl, hs, e, h⟩
theorem d_ixT {p : Addr} {xs : List V} {v : V} (hs : SqT K H p xs) (e : atI xs i = some v) (h : Q v H) : rIxT K (.ref p) (.int i) H Q := ⟨p, xs, i, v, rfl, rfl, hs, e, h⟩
theorem d_setL {p : Addr} {xs : List V} {k : Nat} {R : Hp → Prop} (hp : H p = some (.lst xs)) (e : ixN xs.length i = some k) (h : R (upd H p (.lst (xs.set k v)))) : rSetL (.ref p) (.int i) v H R := ⟨p, xs, i, k, rfl, rfl, hp, e, h⟩
theorem d_gname {R : St → Hp → Prop} (h : R (σ.set n (some v)) H) : gName n v σ H R := h
theorem d_gsub {to ti : TE} {ts : TSet} {R : St → Hp → Prop} (h : to σ H fun o H1 => ti σ H1 fun i H2 => ts o i v H2 fun H3 => R σ H3) : gSub to ti ts v σ H R := h
section
variable {nx bk ct : St → Hp → Prop} {rt : VK} {u w : TS} {g : TG}
theorem d_seq (h : u ⟨w ⟨nx, rt, bk, ct⟩, rt, bk, ct⟩ σ H) : tSeq u w ⟨nx, rt, bk, ct⟩ σ H := h
theorem d_asg (h : te σ H fun x H1 => g x σ H1 nx) : tAsg te g ⟨nx, rt, bk, ct⟩ σ H := h
theorem d_ret (h : te σ H rt) : tRet te ⟨nx, rt, bk, ct⟩ σ H := h
theorem d_next (h : nx σ H) : tNext ⟨nx, rt, bk, ct⟩ σ H := h
theorem d_drop (h : te σ H fun _ H1 => nx σ H1) : tDrop te ⟨nx, rt, bk, ct⟩ σ H := h
theorem d_ifS (h : tA σ H fun b H1 => if b = true then u ⟨nx, rt, bk, ct⟩ σ H1 else w ⟨nx, rt, bk, ct⟩ σ H1) : tIfS tA u w ⟨nx, rt, bk, ct⟩ σ H := h
theorem d_cut (Mid : St → Hp → Prop) (h : u ⟨Mid, rt, bk, ct⟩ σ H) (k : ∀ σ' H', Mid σ' H' → w ⟨nx, rt, bk, ct⟩ σ' H') : C8.tCut u w ⟨nx, rt, bk, ct⟩ σ H := ⟨Mid, h, k⟩
theorem d_par {t : TA} {i j : Nat} (h : t σ H fun vs H1 => ∃ v w, vs = [v, w] ∧ nx ((σ.set i (some v)).set j (some w)) H1) : tPar i j t ⟨nx, rt, bk, ct⟩ σ H := h
end
def rInt1 : List V → Hp → VK → Prop := fun xs H Q => (∃ i, xs = [.int i] ∧ Q (.int i) H) ∨ ∃ k, xs = [.bl k] ∧ Q (.int (if k then 1 else 0)) H
theorem c_int {X : Cx} : CallR X (.type "int") rInt1 := call_int1
theorem d_int (h : Q (.int i) H) : rInt1 [.int i] H Q := .inl ⟨i, rfl, h⟩
theorem d_intB {b : Bool} (h : Q (.int (if b then 1 else 0)) H) : rInt1 [.bl b] H Q := .inr ⟨b, rfl, h⟩
def rAbs : List V → Hp → VK → Prop := fun xs H Q => ∃ i, xs = [.int i] ∧ Q (.int (if i < 0 then -i else i)) H
theorem c_abs {X : Cx} : CallR X (.builtin "abs") rAbs := call_abs
theorem d_abs (h : Q (.int (if i < 0 then -i else i)) H) : rAbs [.int i] H Q := ⟨i, rfl, h⟩
def rLen (K : PySem.W.Frag) : List V → Hp → VK → Prop := fun xs H Q => ∃ x n, xs = [x] ∧ LenV K x H n ∧ Q (.int n) H
theorem c_len {X : Cx} : CallR X (.builtin "len") (rLen X.K) := call_len
theorem d_lenL {p : Addr} {xs : List V} (hs : SqL K H p xs) (h : Q (.int xs.length) H) : rLen K [.ref p] H Q := ⟨_, _, rfl, .inl ⟨xs, hs, rfl⟩, h⟩
theorem d_lenT {p : Addr} {xs : List V} (hs : SqT K H p xs) (h : Q (.int xs.length) H) : rLen K [.ref p] H Q := ⟨_, _, rfl, .inr ⟨xs, hs, rfl⟩, h⟩
theorem d_lenS {z : Str} (hs : z.length ≤ sizeLine) (h : Q (.int z.length) H) : rLen K [.str z] H Q := ⟨_, _, rfl, ⟨hs, rfl⟩, h⟩
def rIsN : R2 := fun x y H Q => y = .non ∧ Q (.bl (decide (x = .non))) H
theorem o_isN {X : Cx} : OpR X (compareOp .Is) rIsN := op_isN
theorem d_isN (h : Q (.bl (decide (x = .non))) H) : rIsN x .non H Q := ⟨rfl, h⟩
def rNotN : R2 := fun x y H Q => y = .non ∧ Q (.bl (!decide (x = .non))) H
theorem o_notN {X : Cx} : OpR X (compareOp .IsNot) rNotN := op_notN
theorem d_notN (h : Q (.bl (!decide (x = .non))) H) : rNotN x .non H Q := ⟨rfl, h⟩
theorem d_iList {tl : TE} {R : It → Hp → Prop} (h : tl σ H fun x H1 => ∃ a, x = .ref a ∧ (∃ xs, SqL K H1 a xs) ∧ R (Itl K a) H1) : iList K tl σ H R := h
theorem d_refL {p : Addr} {xs : List V} {R : Addr → Prop} (hs : SqL K H p xs) (h : R p) : ∃ a, V.ref p = .ref a ∧ (∃ xs, SqL K H a xs) ∧ R a := ⟨p, rfl, ⟨xs, hs⟩, h⟩
theorem d_rng1 {t : TA} {R : It → Hp → Prop} (h : t σ H fun vs H1 => ∃ j : Int, vs = [.int j] ∧ -(2 ^ 62) ≤ j ∧ j < 2 ^ 62 ∧ R (Itr 0 j.toNat) H1) : iRng1 t σ H R := h
theorem d_lc {wi : TI} {g : TG} {tt : TT} {vs : List Nat} (h : wi σ H fun J H1 => ∀ D, H1 D = none → ∃ W : Nat → Nat → Hp → Prop, (∃ m, W 0 m (upd H1 D (.lst []))) ∧ ∀ i m H, W i m H →
  (J.stop i H ∧ Q (.ref D) H) ∨ (J.go i H ∧ ∃ Nx : Hp → Prop, (∀ H', Nx H' → ∃ m', m' < m ∧ W (i + 1) m' H') ∧ ∀ x H', J.yld i H x H' → g x (wipe σ vs) H' fun σ2 H2 => wipe σ2 vs = wipe σ vs ∧ tt σ2 H2 fun b H3 =>
    if b = true then te σ2 H3 fun y H4 => ∃ acc, H4 D = some (.lst acc) ∧ acc.length < sizeLine ∧ Nx (upd H4 D (.lst (acc ++ [y]))) else Nx H3)) : tLc wi g tt te vs σ H Q := h
theorem d_yes (h : B true H) : tYes σ H B := h
theorem d_iteT {X Y : Prop} (h : X) : if true = true then X else Y := by rw [if_pos rfl]; exact h
theorem d_iteF {X Y : Prop} (h : Y) : if false = true then X else Y := by rw [if_neg Bool.false_ne_true]; exact h
theorem d_wipe {R : Prop} {vs : List Nat} {σ' : St} (e : wipe σ' vs = wipe σ vs) (h : R) : wipe σ' vs = wipe σ vs ∧ R := ⟨e, h⟩
theorem d_sl {r : V → Option Int → Option Int → Hp → VK → Prop} {tl th : TO} (h : te σ H fun x H1 => tl σ H1 fun l H2 => th σ H2 fun u H3 => r x l u H3 Q) : tSl r te tl th σ H Q := h
theorem d_noPart {Q : Option Int → Hp → Prop} (h : Q none H) : tNoPart σ H Q := h
theorem d_part {Q : Option Int → Hp → Prop} (h : te σ H fun x H1 => ∃ i, x = .int i ∧ Q (some i) H1) : tPart te σ H Q := h
theorem d_exI {R : Int → Prop} (h : R i) : ∃ k, V.int i = .int k ∧ R k := ⟨i, rfl, h⟩
theorem d_isi {c : V} {t u : Value} {b : Bool} (hc : ClsV c u) (ty : TyX K H x t) (e : PySem.W.kitOne K t u = some b) (h : Q (.bl b) H) : rIsi K [x, c] H Q := ⟨x, c, t, u, b, rfl, hc, ty, e, h⟩
theorem d_fld {f : Str} (h : ta σ H fun x H1 => ∃ a C dx fs v, x = .ref a ∧ H1 a = some (.ins C dx fs) ∧ Cls K C ∧ NoAttr K C f ∧ fs.lookup f = some v ∧ Q v H1) : tFld K ta f σ H Q := h
theorem d_iteNF {X Y : Prop} (h : X) : if (!false) = true then X else Y := by rw [if_pos (show (!false) = true from rfl)]; exact h
theorem d_iteNT {X Y : Prop} (h : Y) : if (!true) = true then X else Y := by rw [if_neg (by decide)]; exact h
theorem d_iteDT {P X Y : Prop} {inst : Decidable P} (c : P) (h : X) : if decide P = true then X else Y := by rw [if_pos (decide_eq_true c)]; exact h
theorem d_iteDF {P X Y : Prop} {inst : Decidable P} (c : ¬ P) (h : Y) : if decide P = true then X else Y := by rw [if_neg (by simpa using c)]; exact h
theorem d_gcd (h : Q (.int ((Nat.gcd i.natAbs j.natAbs : Nat) : Int)) H) : rGcd [.int i, .int j] H Q := ⟨i, j, rfl, h⟩
theorem d_sfld {f : Str} {tv : TE} {nx bk ct : St → Hp → Prop} {rt : VK} (h : tv σ H fun y H1 => ta σ H1 fun x H2 => ∃ a C dx fs, x = .ref a ∧ H2 a = some (.ins C dx fs) ∧ Cls K C ∧ NoAttr K C f ∧ fs.length < 1000 ∧
  nx σ (upd H2 a (.ins C dx (putF f y fs)))) : sFld K ta tv f ⟨nx, rt, bk, ct⟩ σ H := h
theorem d_for {wi : TI} {g : TG} {tb : TS} {nx bk ct : St → Hp → Prop} {rt : VK} (h : wi σ H fun J H1 => ∃ W : Nat → Nat → St → Hp → Prop, (∃ m, W 0 m σ H1) ∧ ∀ i m σ H, W i m σ H →
  (J.stop i H ∧ nx σ H) ∨ (J.go i H ∧ ∃ N : St → Hp → Prop, (∀ σ' H', N σ' H' → ∃ m', m' < m ∧ W (i + 1) m' σ' H') ∧ ∀ x H', J.yld i H x H' → g x σ H' fun σ2 H2 => tb ⟨N, rt, nx, N⟩ σ2 H2)) :
  tFor wi g tb ⟨nx, rt, bk, ct⟩ σ H := h
theorem f_range {lo : Int} {n : Nat} {g : TG} {tb : TS} {nx : St → Hp → Prop} {rt : VK} (Pv : Nat → St → Hp → Prop) (h0 : Pv 0 σ H)
    (hs : ∀ i σ H, i < n → Pv i σ H → g (.int (lo + i)) σ H fun σ2 H2 => tb ⟨Pv (i + 1), rt, nx, Pv (i + 1)⟩ σ2 H2) (hd : ∀ σ H, Pv n σ H → nx σ H) :
    ∃ W : Nat → Nat → St → Hp → Prop, (∃ m, W 0 m σ H) ∧ ∀ i m σ H, W i m σ H → ((Itr lo n).stop i H ∧ nx σ H) ∨ ((Itr lo n).go i H ∧ ∃ N : St → Hp → Prop, (∀ σ' H', N σ' H' → ∃ m', m' < m ∧ W (i + 1) m' σ' H') ∧
      ∀ x H', (Itr lo n).yld i H x H' → g x σ H' fun σ2 H2 => tb ⟨N, rt, nx, N⟩ σ2 H2) := for_range (D := ⟨nx, rt, fun _ _ => False, fun _ _ => False⟩) Pv h0 hs hd
theorem f_list {K : PySem.W.Frag} {a : Addr} {xs : List V} {g : TG} {tb : TS} {nx : St → Hp → Prop} {rt : VK} (Pv : Nat → St → Hp → Prop) (h0 : Pv 0 σ H) (hl : ∀ i σ H, i ≤ xs.length → Pv i σ H → SqL K H a xs)
    (hs : ∀ i x σ H, xs[i]? = some x → Pv i σ H → g x σ H fun σ2 H2 => tb ⟨Pv (i + 1), rt, nx, Pv (i + 1)⟩ σ2 H2) (hd : ∀ σ H, Pv xs.length σ H → nx σ H) :
    ∃ W : Nat → Nat → St → Hp → Prop, (∃ m, W 0 m σ H) ∧ ∀ i m σ H, W i m σ H → ((Itl K a).stop i H ∧ nx σ H) ∨ ((Itl K a).go i H ∧ ∃ N : St → Hp → Prop, (∀ σ' H', N σ' H' → ∃ m', m' < m ∧ W (i + 1) m' σ' H') ∧
      ∀ x H', (Itl K a).yld i H x H' → g x σ H' fun σ2 H2 => tb ⟨N, rt, nx, N⟩ σ2 H2) := for_list (D := ⟨nx, rt, fun _ _ => False, fun _ _ => False⟩) Pv h0 hl hs hd
theorem iteD {P X Y : Prop} {inst : Decidable P} (h1 : P → X) (h2 : ¬ P → Y) : if decide P = true then X else Y := by
  by_cases h : P
  · rw [if_pos (decide_eq_true h)]; exact h1 h
  · rw [if_neg (by simpa using h)]; exact h2 h
theorem iteN {P X Y : Prop} {inst : Decidable P} (h1 : ¬ P → X) (h2 : P → Y) : if (!decide P) = true then X else Y := by
  by_cases h : P
  · rw [if_neg (by simpa using h)]; exact h2 h
  · rw [if_pos (by simpa using h)]; exact h1 h
end
end RD

/-! ### own == and != of a class of the text -/
namespace OQ
open PySem L2 PySem.Spec PyProof.Rows
section
variable {X : Cx} {CX : CXT} {C f : Addr} {fd : FuncData} {ps : List Str} {sp : Sp} {E : XK} {k : Nat}
/-- a def of the text called somewhere below the body that runs -/
theorem run_at {A : Around} (hA : A.frames = X.A.frames) (hr : Room k A) {pins : List (Addr × Obj)} {σ : L2.St} {H : Hp} {s : Shared} {Q : VK} {us : List Value} {vs : List V}
    (F : FnOk X.prog X.w X.K X.mg X.base CX k f fd ps sp) (hb : Binds X.K fd ps []) (hx : Passes CX X E) (I : Inv X pins σ H s) (r : Vals vs us) (h : sp vs H Q E) :
    wpAny (model X.prog X.w) A (call (.ref f) us) (EP X pins σ Q) X.xe s := by
  have z := I.env0
  have e0 : Env0 X.prog X.w X.K X.mg X.base A X.stack s H := ⟨hA ▸ z.frames, z.mod, z.bs, z.bsz, z.funs, z.frf, z.hok, z.bare⟩
  have hl : us.length = ps.length := by rw [← r.length]; exact F.len _ _ _ _ h
  have b := hb s us I.kIn (by rw [List.append_nil]; exact hl)
  rw [List.append_nil] at b
  refine wpAny_call (codeAny_mono (F.run A X.stack s H ⟨us, []⟩ us vs Q E hr e0 b r h) ?_)
  rintro (e | fl) s' hq
  · exact hx pins σ H s e s' I hq
  · cases fl with
    | ret u => exact I.after hq
    | next => exact hq.elim
    | brk => exact hq.elim
    | cont => exact hq.elim
theorem cmpBack_of {pins : List (Addr × Obj)} {σ : L2.St} {Q : VK} {u : Value} {s' : Shared} (h : EP X pins σ Q u s') : PySem.W.CmpBack (EP X pins σ Q) u s' := by
  obtain ⟨v, H', I', r, q⟩ := h
  have e : EP X pins σ Q u s' := ⟨v, H', I', r, q⟩
  cases u <;> first
    | exact e
    | (exfalso; cases v <;> first | exact Value.noConfusion r | (obtain ⟨t, rt⟩ := r; exact Value.noConfusion rt))
/-- x == y by the __eq__ of x's class -/
def rOwnEq (K : PySem.W.Frag) (C : Addr) (sp : Sp) (E : XK) : R2 := fun x y H Q => ∃ a dx fs t, x = .ref a ∧ H a = some (.ins C dx fs) ∧ TyX K H y t ∧ PySem.W.notFirst K C t = true ∧ sp [x, y] H Q E
theorem op_ownEq (F : FnOk X.prog X.w X.K X.mg X.base CX k f fd ps sp) (hr : Room k X.A) (hs : PySem.W.findIn X.K (.ref C) "__eq__" = some (some (.ref f))) (hf : PySem.W.isFn X.K (.ref f) = true)
    (hb : Binds X.K fd ps []) (hx : Passes CX X E) : OpR X (compareOp .Eq) (rOwnEq X.K C sp E) := by
  intro pins s σ H x y v u Q I rx ry hq
  obtain ⟨a, dx, fs, t, rfl, ha, ty, nf, q⟩ := hq
  cases rx
  obtain ⟨_, J0, _⟩ := ins_get I.hok ha
  obtain ⟨_, J, _⟩ := J0.look
  obtain ⟨_, hF⟩ := I.fr
  obtain ⟨_, kx, hp, _⟩ := kit_of I ry ty
  exact PySem.W.cmp_K (op := .Eq) hr.units0 hF I.ok.mod.kin J (kx.ty _ _ I.kIn hp) nf hs hf
    (wpAny_mono (run_at rfl hr F hb hx I (vs := [V.ref a, y]) (us := [Value.ref a, u]) (Paired.cons (show RelV (V.ref a) (Value.ref a) from rfl) (Paired.cons ry .nil)) q) (fun _ _ z => cmpBack_of z) fun _ _ z => z)
/-- looking a builtin slot up at an instance and calling it -/
theorem ifBound_B {M : Model} {A : Around} {E : Value → Shared → Prop} {s : Shared} {K : PySem.W.Frag} {x C : Addr} {ox : Obj} {od : Option Obj} {name : Str} {id : String} {args : List Value} {Q : Option Value → Shared → Prop} (Z : K.In s.heap)
    (I : PySem.W.InstAt s.heap x ox C od) (hs : PySem.W.findIn K (.ref C) name = some (some (.builtin id))) (S : bindSpecial (.builtin id) (.ref x) = pure (Value.builtin id, [Value.ref x]))
    (h : wpAny M A (call (.builtin id) (.ref x :: args)) (fun v => Q (some v)) E s) : wpAny M A (callSpecialIfBound? (.ref x) name args) Q E s := by
  have fin : wpAny M A (call (.builtin id) ([Value.ref x] ++ args) >>= fun v => pure (some v)) Q E s :=
    wpAny_bind (wpAny_mono h (fun _ _ z => wpAny_pure z) fun _ _ z => z)
  have tail : wpAny M A (some <$> (pure (Value.builtin id, [Value.ref x]) : Sem (Value × List Value))) (fun a s' => wpAny M A (match a with
    | some (g, first) => call g (first ++ args) >>= fun v => pure (some v)
    | none => pure none) Q E s') E s := wpAny_bind (wpAny_pure (wpAny_pure fin))
  simp only [callSpecialIfBound?, bindSpecialIfBound?]
  refine wpAny_holding ?_
  refine wpAny_bind ?_
  refine wpAny_bind ?_
  refine wpAny_bind (I.type.here ?_)
  refine (PySem.W.looks_findIn Z hs).here ?_
  simp only [S]
  refine wpAny_bind ?_
  refine wpAny_askSetting ?_
  refine wpAny_ite ?_
  split
  · refine wpAny_bind ?_
    exact wpAny_pure (wpAny_pure fin)
  · refine wpAny_tryCatch ?_
    refine wpAny_bind ?_
    exact wpAny_pure (wpAny_pure fin)
/-- object.__ne__(x, y) by the own __eq__ -/
theorem ne_body {M : Program} {w : World} {A : Around} {E : Value → Shared → Prop} {s : Shared} {K : PySem.W.Frag} {x C f : Addr} {ox : Obj} {od : Option Obj} {b : Value} {Q : Fin → Shared → Prop} (Z : K.In s.heap) (hu : A.units < cLine)
    (I : PySem.W.InstAt s.heap x ox C od) (hs : PySem.W.findIn K (.ref C) "__eq__" = some (some (.ref f))) (hf : PySem.W.isFn K (.ref f) = true)
    (h : wpAny (model M w) A (call (.ref f) [.ref x, b]) (fun v s' => ∃ r, v = .bool r ∧ Q (.done (.ret (.bool (!r)))) s') E s) :
    wpAny (model M w) A (Builtin.«object.__ne__» ⟨[.ref x, b], []⟩) Q E s := by
  unfold Builtin.«object.__ne__»
  have step : wpAny (model M w) A (callSpecialIfBound? (.ref x) "__eq__" [b]) (fun o s' => ∃ r, o = some (.bool r) ∧ Q (.done (.ret (.bool (!r)))) s') E s :=
    PySem.W.ifBound_K Z I hs hf (wpAny_mono h (fun v s' ⟨r, e, q⟩ => ⟨r, by rw [e], q⟩) fun _ _ z => z)
  refine wpAny_bind (wpAny_of_eq (a := ((Value.ref x : Value), [b])) (by first | rfl | (simp only [slotArgs]; rfl)) ?_)
  dsimp only
  refine wpAny_bind (wpAny_cRoomFor hu ?_)
  refine wpAny_bind (wpAny_mono step (fun o s' hv => ?_) fun _ _ z => z)
  obtain ⟨r, rfl, q⟩ := hv
  dsimp only
  refine wpAny_bind ?_
  refine wpAny_truthy_bool ?_
  exact wpAny_pure q
end
/-- x != y by the __eq__ of x's class -/
def rOwnNe (K : PySem.W.Frag) (C : Addr) (sp : Sp) (E : XK) : R2 := fun x y H Q => ∃ a dx fs t, x = .ref a ∧ H a = some (.ins C dx fs) ∧ TyX K H y t ∧ PySem.W.notFirst K C t = true ∧ sp [x, y] H (fun v H' => ∃ r, v = .bl r ∧ Q (.bl (!r)) H') E
section
variable {X : Cx} {CX : CXT} {C f : Addr} {fd : FuncData} {ps : List Str} {sp : Sp} {E : XK} {k : Nat}
theorem op_ownNe (F : FnOk X.prog X.w X.K X.mg X.base CX k f fd ps sp) (hr : Room (k + 1) X.A) (hs : PySem.W.findIn X.K (.ref C) "__eq__" = some (some (.ref f))) (hf : PySem.W.isFn X.K (.ref f) = true)
    (hn : PySem.W.findIn X.K (.ref C) "__ne__" = some (some (.builtin "object.__ne__"))) (hm : PySem.W.mroIn X.K C (.type "object") = some true)
    (hb : Binds X.K fd ps []) (hx : Passes CX X E) : OpR X (compareOp .NotEq) (rOwnNe X.K C sp E) := by
  intro pins s σ H x y v u Q I rx ry hq
  obtain ⟨a, dx, fs, t, rfl, ha, ty, nf, q⟩ := hq
  cases rx
  obtain ⟨_, J0, _⟩ := ins_get I.hok ha
  obtain ⟨_, J, _⟩ := J0.look
  obtain ⟨_, hF⟩ := I.fr
  obtain ⟨_, kx, hp, _⟩ := kit_of I ry ty
  have hlook := kx.ty (model X.prog X.w) _ I.kIn hp
  have hu := hr.units0
  have body := ne_body (M := X.prog) (w := X.w) (A := X.A.in1) (E := X.xe) (b := u) (Q := fun fin s' => ∃ r : Bool, fin = .done (.ret (.bool r)) ∧ EP X pins σ Q (.bool r) s') I.kIn hr.in1.units0 J hs hf
    (wpAny_mono (run_at (A := X.A.in1) rfl hr.in1 F hb hx I (vs := [V.ref a, y]) (us := [Value.ref a, u]) (Paired.cons (show RelV (V.ref a) (Value.ref a) from rfl) (Paired.cons ry .nil)) q) (fun w' s' z => by
      obtain ⟨v', H', I', rr, r, e, q'⟩ := z
      subst e
      exact ⟨r, rr, !r, rfl, .bl (!r), H', I', rfl, q'⟩) fun _ _ z => z)
  have one : wpAny (model X.prog X.w) X.A (tryCompare (.ref a) "__ne__" u) (fun o s' => ∃ r : Bool, o = some (.bool r) ∧ EP X pins σ Q (.bool r) s') X.xe s := by
    unfold tryCompare
    refine wpAny_bind (ifBound_B I.kIn J hn (PySem.F.cmp_object.ne.bind _) (wpAny_call (codeAny_call_builtin PySem.F.cmp_object.ne.plain PySem.F.cmpEntry_ne ?_)))
    refine PySem.W.check_slot PySem.F.cmpKind_ne PySem.F.cmpSplit_ne (J.type.andThen (PySem.W.looks_mroIn I.kIn hm)) (PySem.F.cmpArgs_ne _ _) ?_
    refine wpAny_mono body (fun fin s' z => ?_) fun _ _ z => z
    obtain ⟨r, rfl, ep⟩ := z
    exact wpAny_pure ⟨r, rfl, ep⟩
  show wpAny (model X.prog X.w) X.A (richCompare .NotEq (.ref a) u) (EP X pins σ Q) X.xe s
  unfold richCompare
  simp only [oneThing_ref]
  refine wpAny_holding ?_
  refine wpAny_bind (wpAny_cRoomFor hu ?_)
  refine wpAny_bind (J.type.here ?_)
  refine wpAny_bind (hlook.here ?_)
  have fin : ∀ {β : Type} {z : Value → Sem Value} {y : Sem Value}, True := fun {_ _ _} => trivial
  split
  · rename_i qq
    have e : PySem.W.subIn X.K t (.ref C) = some false := by
      rcases Bool.or_eq_true_iff.mp nf with e | e
      · rw [beq_iff_eq.mp e] at qq
        simp at qq
      · exact beq_iff_eq.mp e
    refine wpAny_bind ((PySem.W.looks_subIn I.kIn e).here ?_)
    simp only [Bool.false_eq_true, if_false]
    refine wpAny_bind (wpAny_mono one (fun o s' z => ?_) fun _ _ z => z)
    obtain ⟨r, rfl, ep⟩ := z
    exact wpAny_pure ep
  · refine wpAny_bind (wpAny_pure ?_)
    simp only [Bool.false_eq_true, if_false]
    refine wpAny_bind (wpAny_mono one (fun o s' z => ?_) fun _ _ z => z)
    obtain ⟨r, rfl, ep⟩ := z
    exact wpAny_pure ep
end
end OQ

/-! ### errors: isinstance of a caught one that has fields; making an instance within a try -/
namespace OQ
open PySem L2 PySem.Spec PyProof.Rows
/-- isinstance(e, c), e the error that the suite holds at a: its class cls, its dict d -/
def rIsX (K : PySem.W.Frag) (D a : Addr) (cls : Value) (d : Option Addr) : List V → Hp → VK → Prop := fun xs H Q => ∃ (c : V) (cv : Value) (b : Bool) (dd : Addr) (fs : List (Str × V)),
  xs = [.ref a, c] ∧ cls = .ref D ∧ d = some dd ∧ H dd = some (.xd fs) ∧ ClsV c cv ∧ PySem.W.kitOne K (.ref D) cv = some b ∧ Q (.bl b) H
theorem call_isX {X : Cx} {a D : Addr} {cls : Value} {d : Option Addr} {oe : Obj} {pn : List (Addr × Obj)} (C : ExcC X.K D) (hz : Zc cls d oe) (hf : ∃ vs, oe.data = .fields vs) :
    CallR (X.suite a ((a, oe) :: pn)) (.builtin "isinstance") (rIsX X.K D a cls d) := by
  rintro pins s σ H xs us Q I r ⟨c, cv, b, dd, fs, rfl, rfl, rfl, hx, hc, e, q⟩
  cases r with
  | cons rx rr => cases rr with
    | cons rt rr =>
      cases rr
      cases rx
      have ec := hc.eq rt
      subst ec
      obtain ⟨hget, _⟩ := I.pin (a, oe) (List.mem_append_left _ (List.mem_cons_self ..))
      obtain ⟨vs, hv⟩ := hf
      obtain ⟨_, hns, _⟩ := (show ObjOk X.prog X.w H s.heap dd (.xd fs) from I.hok dd _ hx)
      obtain ⟨od, ho, _⟩ := lookIn_ns hns
      have J : PySem.W.InstAt s.heap a oe D (some od) := ⟨hget, hz.1, (by unfold PySem.W.notCls; rw [hv] <;> rfl), (by rw [hz.2]; exact ho)⟩
      have hcl : (PySem.W.clsIn X.K D).isSome = true := by
        obtain ⟨cd, h1, _⟩ := PySem.W.any_some C.hd
        rw [h1]; rfl
      exact PySem.W.kia_one (PySem.W.kitx_exc hcl C.hg C.hk C.hs C.ha C.hn C.ht C.hm) I.kIn J e (fun z => Value.noConfusion z) fun tk => ⟨.bl b, H, I.kept (t' := tk) fun _ _ z => z, rfl, q⟩
section
variable {X : Cx} {CX : CXT} {C f : Addr} {fd : FuncData} {ps : List Str} {sp : Sp} {k : Nat} {ds : List Value} {dvs : List V} {E : L2.St → XK} {x : Str} {p pos : Pos} {e : Expr} {es : List Expr} {t : TA}
/-- C(e, ..), what is raised wished for at the slots -/
def tMakeS (C : Addr) (sp : Sp) (dvs : List V) (E : L2.St → XK) (t : TA) : TE := fun σ H Q => t σ H fun vs H1 => ∀ x dx, H1 x = none → H1 dx = none → dx ≠ x →
  sp (.ref x :: (vs ++ dvs)) (upd (upd H1 dx (.own x)) x (.ins C dx [])) (fun v H2 => v = .non ∧ Q (.ref x) H2) (E σ)
theorem pe_makeS (M : Mk X.K C f) (F : FnOk X.prog X.w X.K X.mg X.base CX k f fd ps sp) (hr : Room (k + 1) X.A) (hg : Gl X x) (hm : X.mg x = some (.ref C)) (hb : Binds X.K fd ps ds) (hd : Vals dvs ds)
    (hx : ∀ σ, PassesAt CX X σ (E σ)) (ha : PA X (e :: es) t) (hdb : (x == ("__debug__" : Str)) = false := by decide)
    (he : starEach (e :: es) X.env = (false, eval e X.env) :: starEach es X.env := by rfl) (hpl : (backTo pos (starEach es X.env)).any (·.1) = false := by rfl) :
    PE X (.Call (.Name x p) (e :: es) [] pos) (tMakeS C sp dvs E t) := by
  refine ⟨fun pins s σ H Q I h => ?_⟩
  refine wpAny_Call_Name_kw (ld_glob I hg hm ?_ hdb)
  refine PySem.W.callWith_K (h₀ := X.base) I.ok.mod.kin M.kp (thn (ha.run pos pins s σ H _ I h) ?_) he hpl
  rintro us s1 ⟨vs, H1, I1, r, q⟩
  refine ⟨I1.kIn, ?_⟩
  have nx : H1 (s1.heap.objs.size + 1) = none := I1.hok.fresh (Nat.le_succ _)
  have ndx : H1 s1.heap.objs.size = none := I1.hok.fresh (Nat.le_refl _)
  have hq := q _ _ nx ndx (Nat.ne_of_lt (Nat.lt_succ_self _))
  have I2 := Inv.made (C := C) I1
  have r2 : Vals (V.ref (s1.heap.objs.size + 1) :: (vs ++ dvs)) (Value.ref (s1.heap.objs.size + 1) :: (us ++ ds)) := .cons rfl (r.append hd)
  have hl : (Value.ref (s1.heap.objs.size + 1) :: us ++ ds).length = ps.length := (r2.length.symm).trans (F.len _ _ _ _ hq)
  refine wpAny_call (make_map (f := f) I1.kIn M.makes M.init (beq_iff_eq.mp M.fn) (codeAny_mono (F.run _ X.stack _ _ _ _ _ _ (E σ) (hr.make C us []) (I2.env0.make C us []) (hb _ (_ :: us) I2.kIn hl) r2 hq) ?_))
  rintro (er | fl) s' hq'
  · exact hx σ pins _ _ er s' I2 hq'
  · cases fl with
    | ret u =>
      obtain ⟨v, H', I3, rv, ev, q3⟩ := I2.after hq'
      subst ev
      exact ⟨rv, V.ref (s1.heap.objs.size + 1), H', I3, rfl, q3⟩
    | next => exact hq'.elim
    | brk => exact hq'.elim
    | cont => exact hq'.elim
end
/-- // by a divisor of either sign, below 2 ^ 9000 -/
def CDivX (_ j : Int) : Prop := j ≠ 0 ∧ j.natAbs.log2 < 9000
theorem op_fdivX {X : Cx} : OpR X (binaryOp .FloorDiv) (rI CDivX fun i j => .int (i.fdiv j)) := opI fun i j _ _ _ _ _ hc q => floordiv_int hc.1 q (.inl (PyProof.noPylong_of_log2 hc.2))
end OQ

namespace RM
/-- what both parts are divided by -/
def shr (i j : Int) : Int := if j < 0 then -((Nat.gcd i.natAbs j.natAbs : Nat) : Int) else ((Nat.gcd i.natAbs j.natAbs : Nat) : Int)
theorem gcd_pos {i j : Int} (h : j ≠ 0) : 0 < Nat.gcd i.natAbs j.natAbs := Nat.gcd_pos_of_pos_right _ (Int.natAbs_pos.mpr h)
theorem shr_ne {i j : Int} (h : j ≠ 0) : shr i j ≠ 0 := by
  have := gcd_pos (i := i) h
  unfold shr; split <;> omega
theorem shr_le {i j : Int} (h : j ≠ 0) : (shr i j).natAbs ≤ j.natAbs := by
  have := Nat.gcd_le_right i.natAbs (Int.natAbs_pos.mpr h)
  unfold shr; split <;> omega
theorem num_eq {i j : Int} (h : j ≠ 0) : i.fdiv (shr i j) = (Rat.divInt i j).num := by
  have g0 := gcd_pos (i := i) h
  have hd : ((Nat.gcd i.natAbs j.natAbs : Nat) : Int) ∣ i := Int.ofNat_dvd_left.mpr (Nat.gcd_dvd_left _ _)
  obtain ⟨k, hk⟩ := hd
  have e : j.gcd i = Nat.gcd i.natAbs j.natAbs := Nat.gcd_comm _ _
  rw [Rat.num_divInt, e]
  unfold shr
  generalize Nat.gcd i.natAbs j.natAbs = g at *
  split
  · rename_i hj
    rw [Int.sign_eq_neg_one_of_neg hj]
    have e1 : i = (-(g : Int)) * (-k) := by rw [hk, Int.neg_mul_neg]
    have e2 : -1 * i = (g : Int) * (-k) := by rw [hk, Int.mul_neg]; omega
    rw [e2, Int.mul_ediv_cancel_left _ (by omega)]
    conv => lhs; rw [e1]
    exact Int.mul_fdiv_cancel_left _ (by omega)
  · rename_i hj
    rw [Int.sign_eq_one_of_pos (by omega), Int.one_mul]
    conv => lhs; rw [hk]
    conv => rhs; rw [hk]
    rw [Int.mul_fdiv_cancel_left _ (by omega), Int.mul_ediv_cancel_left _ (by omega)]
theorem den_eq {i j : Int} (h : j ≠ 0) : j.fdiv (shr i j) = ((Rat.divInt i j).den : Int) := by
  have g0 := gcd_pos (i := i) h
  have hd : ((Nat.gcd i.natAbs j.natAbs : Nat) : Int) ∣ j := Int.ofNat_dvd_left.mpr (Nat.gcd_dvd_right _ _)
  obtain ⟨k, hk⟩ := hd
  have e : j.gcd i = Nat.gcd i.natAbs j.natAbs := Nat.gcd_comm _ _
  rw [Rat.den_divInt, if_neg h, e]
  unfold shr
  generalize Nat.gcd i.natAbs j.natAbs = g at *
  have ea : j.natAbs / g = k.natAbs := by rw [hk, Int.natAbs_mul, Int.natAbs_natCast, Nat.mul_div_cancel_left _ g0]
  rw [ea]
  split
  · rename_i hj
    have kn : k < 0 := by
      rcases Int.lt_or_le k 0 with q | q
      · exact q
      · have := Int.mul_nonneg (Int.natCast_nonneg g) q
        omega
    have e1 : j = (-(g : Int)) * (-k) := by rw [hk, Int.neg_mul_neg]
    conv => lhs; rw [e1]
    rw [Int.mul_fdiv_cancel_left _ (by omega)]
    omega
  · rename_i hj
    have kn : 0 ≤ k := by
      rcases Int.lt_or_le k 0 with q | q
      · have := Int.mul_neg_of_pos_of_neg (show (0 : Int) < g by omega) q
        omega
      · exact q
    conv => lhs; rw [hk]
    rw [Int.mul_fdiv_cancel_left _ (by omega)]
    omega
end RM

namespace OQ
open PySem L2
/-- one of two rules -/
theorem op_or {X : Cx} {f : Value → Value → Sem Value} {r1 r2 : R2} (h1 : OpR X f r1) (h2 : OpR X f r2) : OpR X f (fun x y H Q => r1 x y H Q ∨ r2 x y H Q) :=
  fun pins s σ H x y v u Q I rx ry h => h.elim (h1 pins s σ H x y v u Q I rx ry) (h2 pins s σ H x y v u Q I rx ry)
/-- what lets nothing out where the wish is empty -/
theorem passN {X : Cx} : Passes (L2.CX X.prog X.w) X E0 := fun pins σ H s e s' I h => by
  obtain ⟨_, _, _, _, _, _, _, _, _, _, _, _, f⟩ := h
  exact f.elim
section
variable {σ : L2.St} {H : Hp} {Q : VK} {K : PySem.W.Frag}
theorem d_makeS {C : Addr} {sp : Sp} {dvs : List V} {E : L2.St → XK} {t : TA} (h : t σ H fun vs H1 => ∀ x dx, H1 x = none → H1 dx = none → dx ≠ x →
  sp (.ref x :: (vs ++ dvs)) (upd (upd H1 dx (.own x)) x (.ins C dx [])) (fun v H2 => v = .non ∧ Q (.ref x) H2) (E σ)) : tMakeS C sp dvs E t σ H Q := h
theorem d_make {C : Addr} {sp : Sp} {dvs : List V} {E : XK} {t : TA} (h : t σ H fun vs H1 => ∀ x dx, H1 x = none → H1 dx = none → dx ≠ x →
  sp (.ref x :: (vs ++ dvs)) (upd (upd H1 dx (.own x)) x (.ins C dx [])) (fun v H2 => v = .non ∧ Q (.ref x) H2) E) : tMake C sp dvs E t σ H Q := h
end
end OQ
namespace OQ
open PySem L2
theorem d_isX {K : PySem.W.Frag} {D a : Addr} {cls : Value} {d : Option Addr} {H : Hp} {Q : VK} {c : V} {cv : Value} {b : Bool} {dd : Addr} {fs : List (Str × V)} (e1 : cls = .ref D) (e2 : d = some dd) (hx : H dd = some (.xd fs)) (hc : ClsV c cv)
    (e : PySem.W.kitOne K (.ref D) cv = some b) (h : Q (.bl b) H) : rIsX K D a cls d [.ref a, c] H Q := ⟨c, cv, b, dd, fs, rfl, e1, e2, hx, hc, e, h⟩
end OQ

/-! ### readings: chained comparisons -/
namespace RD
open PySem L2
theorem d_chain {r r' : R2} {ta tb tc : TE} {σ : L2.St} {H : Hp} {Q : VK} (h : ta σ H fun x H1 => tb σ H1 fun y H2 => r x y H2 fun z H3 => ∃ k, z = .bl k ∧ (if k = true then tc σ H3 fun u H4 => r' y u H4 Q else Q (.bl false) H3)) : tChain r r' ta tb tc σ H Q := h
variable {σ : L2.St} {H : Hp}
theorem f_tup {K : PySem.W.Frag} {a : Addr} {xs : List V} {g : TG} {tb : TS} {nx : L2.St → Hp → Prop} {rt : VK} (Pv : Nat → L2.St → Hp → Prop) (h0 : Pv 0 σ H) (hl : ∀ i σ H, i ≤ xs.length → Pv i σ H → SqT K H a xs)
    (hs : ∀ i x σ H, xs[i]? = some x → Pv i σ H → g x σ H fun σ2 H2 => tb ⟨Pv (i + 1), rt, nx, Pv (i + 1)⟩ σ2 H2) (hd : ∀ σ H, Pv xs.length σ H → nx σ H) :
    ∃ W : Nat → Nat → L2.St → Hp → Prop, (∃ m, W 0 m σ H) ∧ ∀ i m σ H, W i m σ H → ((Itt K a).stop i H ∧ nx σ H) ∨ ((Itt K a).go i H ∧ ∃ N : L2.St → Hp → Prop, (∀ σ' H', N σ' H' → ∃ m', m' < m ∧ W (i + 1) m' σ' H') ∧
      ∀ x H', (Itt K a).yld i H x H' → g x σ H' fun σ2 H2 => tb ⟨N, rt, nx, N⟩ σ2 H2) := for_tup (D := ⟨nx, rt, fun _ _ => False, fun _ _ => False⟩) Pv h0 hl hs hd
end RD

/-! ### a range as a value, and for over it -/
namespace OQ
open PySem L2 PySem.Spec PyProof.Rows
section
variable {X : Cx} {tg : Expr} {e : Expr} {te : TE}
theorem cr_range1 : CallR X (.type "range") (fun vs H Q => ∃ j : Int, vs = [V.int j] ∧ ∀ p, H p = none → Q (.ref p) (upd H p (.rng 0 j))) := by
  rintro pins s σ H vs us Q I r ⟨j, rfl, wish⟩
  cases r with
  | cons one rest =>
    cases rest
    obtain ⟨tok, rfl⟩ := one
    have free := I.hok.fresh (Nat.le_refl s.heap.objs.size)
    exact call_range_1 ⟨.ref s.heap.objs.size, _, I.laid (t' := s.toks + 1 + 1) (o := .rng 0 j) (fun _ _ z => Heap.get?_push_of_some _ z) (Nat.le_refl _) ⟨s.toks, tok, s.toks + 1, Heap.get?_push_size _ rfl⟩, rfl, wish _ free⟩
/-- for .. in e, e a range from lo to hi -/
def iRngV (te : TE) : TI := fun σ H R => te σ H fun x H1 => ∃ (a : Addr) (lo hi : Int), x = .ref a ∧ H1 a = some (.rng lo hi) ∧ (-(2 ^ 62) ≤ lo ∧ lo < 2 ^ 62 ∧ -(2 ^ 62) ≤ hi ∧ hi < 2 ^ 62) ∧ R (Itr lo (hi - lo).toNat) H1
theorem pi_rngV (he : PE X e te) : PI X tg e (iRngV te) := by
  refine ⟨fun pins s σ H R I asked => thn (he.run pins s σ H _ I asked) fun v s1 ⟨x, H1, I1, rx, a, lo, hi, ex, ea, ⟨b1, b2, b3, b4⟩, go⟩ => ?_⟩
  subst ex
  obtain rfl : v = Value.ref a := rx
  obtain ⟨t, u, w, there⟩ := I1.hok a _ ea
  have isr : IsRange s1.heap a lo hi 1 t u w := there
  have len : (((hi - lo).toNat : Nat) : Int) = Builtin.Range.rangeSize lo hi 1 := by rw [rangeSize_one]; split <;> omega
  refine wpAny_pyIter_range isr (small_one b1 b2 b3 b4) ⟨s1.heap.objs.size, [s1.heap.objs.size], _, _, H1, rfl, I1.kept (t' := s1.toks) fun _ _ z => Heap.get?_push_of_some _ z, turn_range _ lo (hi - lo).toNat, ?_, fun b hb => ?_, go⟩
  · show IsRangeIter _ _ (lo + ((0 : Nat) : Int) * 1) ((((hi - lo).toNat : Nat) : Int) - ((0 : Nat) : Int)) 1
    rw [len]
    simp only [Int.natCast_zero, Int.zero_mul, Int.add_zero, Int.sub_zero]
    exact Heap.get?_push_size _ rfl
  · obtain rfl : b = s1.heap.objs.size := by simpa using hb
    exact I1.fpOk (Nat.le_refl _) (I1.hok.fresh (Nat.le_refl _))
end
end OQ

/-! ### rules whose reading names K itself (for the blocks of comprehensions) -/
namespace OQ
open PySem L2 PySem.Spec PyProof.Rows
section
variable {X : Cx} {e : Expr} {ta : TE} {f : Str} {pos : Pos}
theorem ixL (K : PySem.W.Frag) (h : X.K = K := by rfl) : IxR X (rIxL K) := h ▸ ix_list
theorem ixT (K : PySem.W.Frag) (h : X.K = K := by rfl) : IxR X (rIxT K) := h ▸ ix_tup
theorem fldK (K : PySem.W.Frag) (he : PE X e ta) (h : X.K = K := by rfl) (hb : attributeBase e f X.env (eval e X.env) = eval e X.env := by rfl) : PE X (.Attribute e f pos) (tFld K ta f) := h ▸ pe_fld he hb
def rTupK (K : PySem.W.Frag) : List V → Hp → VK → Prop := fun xs H Q => ∃ p ys, xs = [.ref p] ∧ ((SqL K H p ys ∧ ∀ l, H l = none → Q (.ref l) (upd H l (.tup ys))) ∨ (SqT K H p ys ∧ Q (.ref p) H))
theorem tupK (K : PySem.W.Frag) (h : X.K = K := by rfl) : CallR X (.type "tuple") (rTupK K) := h ▸ call_tuple_of
theorem pi_listK (K : PySem.W.Frag) {tg : Expr} {l : Expr} {tl : TE} (hl : PE X l tl) (h : X.K = K := by rfl) : PI X tg l (iList K tl) := h ▸ pi_list hl
theorem pi_tupK (K : PySem.W.Frag) {tg : Expr} {l : Expr} {tl : TE} (hl : PE X l tl) (h : X.K = K := by rfl) : PI X tg l (iTup K tl) := h ▸ pi_tup hl
end
end OQ

/-! ### own errors as values: made, their fields read, isinstance of them -/
namespace OQ
open PySem L2 PySem.Spec PyProof.Rows
section
variable {X : Cx} {CX : CXT} {x n : Str} {C fI : Addr} {k : Nat} {fd : FuncData} {ps : List Str} {sp : Sp} {ds : List Value} {dvs : List V} {p pos : Pos} {e : Expr} {es : List Expr} {ta : TA} {te : TE} {E : XK}
/-- C(e, ..), C an own error: it stands as it was made -/
def tMkV (C : Addr) (sp : Sp) (dvs : List V) (E : XK) (ta : TA) : TE := fun σ H Q => ta σ H fun vs H1 => ∀ a, H1 a = none → sp (.ref a :: (vs ++ dvs)) (upd H1 a (exo a C none)) (fun v H2 => v = .non ∧ Q (.ref a) H2) E
/-- a new error: its place, and the state with it -/
theorem newErr {pins : List (Addr × Obj)} {st : Shared} {σ : L2.St} {H : Hp} (us : List Value) (D : Addr) (J : Inv X pins σ H st) :
    H (st.heap.objs.size + 1) = none ∧ Inv X pins σ (upd H (st.heap.objs.size + 1) (exo (st.heap.objs.size + 1) D none)) { st with heap := (st.heap.push (PySem.W.kdv_tup us)).push (PySem.HandSPX.excO D st.heap.objs.size) } := by
  have le := Nat.le_succ st.heap.objs.size
  refine ⟨J.hok.fresh le, J.laid (t' := st.toks) (fun _ _ z => Heap.get?_push_of_some _ (Heap.get?_push_of_some _ z)) le (exo_ok (t1 := st.heap.objs.size) ?_)⟩
  have z := Heap.get?_push_size (h := st.heap.push (PySem.W.kdv_tup us)) (o := PySem.HandSPX.excO D st.heap.objs.size) rfl
  have y : (st.heap.push (PySem.W.kdv_tup us)).objs.size = st.heap.objs.size + 1 := by simp [Heap.push]
  rw [y] at z
  exact z
theorem run_mkV {pins : List (Addr × Obj)} {st : Shared} {σ : L2.St} {H1 : Hp} {Q : VK} {vs : List V} {us : List Value} (T : OexC X.K C) (iC : PySem.W.findIn X.K (.ref C) "__init__" = some (some (.ref fI))) (tI : PySem.W.typeIn X.K (.ref fI) = some (.type "function"))
    (F1 : FnOk X.prog X.w X.K X.mg X.base CX k fI fd ps sp) (hr : Room (k + 1) X.A) (hb : Binds X.K fd ps ds) (hd : Vals dvs ds) (hx : Passes CX X E) (few : ps.length ≤ 100) (J : Inv X pins σ H1 st) (rv : Vals vs us)
    (wish : ∀ a, H1 a = none → sp (.ref a :: (vs ++ dvs)) (upd H1 a (exo a C none)) (fun v H2 => v = .non ∧ Q (.ref a) H2) E) : wpAny (model X.prog X.w) X.A (call (.ref C) us) (EP X pins σ Q) X.xe st := by
  obtain ⟨free, J2⟩ := newErr us C J
  have asked := wish _ free
  have all : Vals (V.ref (st.heap.objs.size + 1) :: (vs ++ dvs)) (Value.ref (st.heap.objs.size + 1) :: (us ++ ds)) := .cons rfl (rv.append hd)
  have many : (Value.ref (st.heap.objs.size + 1) :: us ++ ds).length = ps.length := (all.length.symm).trans (F1.len _ _ _ _ asked)
  have short : us.length ≤ sizeLine := by
    have q : (Value.ref (st.heap.objs.size + 1) :: us ++ ds).length ≤ 100 := many ▸ few
    simp only [List.cons_append, List.length_cons, List.length_append] at q
    exact Nat.le_trans (show us.length ≤ 100 by omega) (by decide)
  have body := F1.run _ X.stack _ _ ⟨Value.ref (st.heap.objs.size + 1) :: us, []⟩ _ _ _ E (hr.make C us []) (J2.env0.make C us []) (hb _ (_ :: us) J2.kIn many) all asked
  obtain ⟨_, _, _, _, bm, _, _, _, _, _, _, _, _, _, _, look, good⟩ := T.cls
  refine wpAny_call (PySem.HandSPX.call_own F.excBase_ValueError (fun _ => PySem.HandSPX.refsVE_contains _ bm good) (J.kIn _ _ look) (PySem.W.looks_findIn J.kIn iC) (fun v => PySem.W.bind_fn J.kIn v tI) short (codeAny_mono body ?_))
  rintro (er | fl) s2 post
  · exact hx pins σ _ _ er s2 J2 post
  · match fl, post with
    | .ret u, post =>
      obtain ⟨v, H2, J3, ru, e, q⟩ := J2.after post
      subst e
      exact ⟨ru, V.ref (st.heap.objs.size + 1), H2, J3, rfl, q⟩
theorem pe_mkV (T : OexC X.K C) (iC : PySem.W.findIn X.K (.ref C) "__init__" = some (some (.ref fI))) (tI : PySem.W.typeIn X.K (.ref fI) = some (.type "function"))
    (F1 : FnOk X.prog X.w X.K X.mg X.base CX k fI fd ps sp) (hr : Room (k + 1) X.A) (hb : Binds X.K fd ps ds) (hd : Vals dvs ds) (hx : Passes CX X E) (hsz : ps.length ≤ 100) (hg : Gl X x) (hm : X.mg x = some (.ref C)) (ha : PA X (e :: es) ta)
    (hdb : (x == ("__debug__" : Str)) = false := by decide) (he : starEach (e :: es) X.env = (false, eval e X.env) :: starEach es X.env := by rfl) (hpl : (backTo pos (starEach es X.env)).any (·.1) = false := by rfl) :
    PE X (.Call (.Name x p) (e :: es) [] pos) (tMkV C sp dvs E ta) := by
  refine ⟨fun pins s σ H Q I h => ?_⟩
  refine wpAny_Call_Name_kw (ld_glob I hg hm ?_ hdb)
  refine PySem.W.callWith_K (h₀ := X.base) I.ok.mod.kin T.kC (thn (ha.run pos pins s σ H _ I h) fun us s1 ⟨vs, H1, I1, r1, q1⟩ => ⟨I1.kIn, ?_⟩) he hpl
  exact run_mkV T iC tI F1 hr hb hd hx hsz I1 r1 q1
theorem pe_mkV0 (T : OexC X.K C) (iC : PySem.W.findIn X.K (.ref C) "__init__" = some (some (.ref fI))) (tI : PySem.W.typeIn X.K (.ref fI) = some (.type "function"))
    (F1 : FnOk X.prog X.w X.K X.mg X.base CX k fI fd ps sp) (hr : Room (k + 1) X.A) (hb : Binds X.K fd ps ds) (hd : Vals dvs ds) (hx : Passes CX X E) (hsz : ps.length ≤ 100) (hg : Gl X x) (hm : X.mg x = some (.ref C))
    (hdb : (x == ("__debug__" : Str)) = false := by decide) : PE X (.Call (.Name x p) [] [] pos) (tMkV C sp dvs E tNil) := by
  refine ⟨fun pins s σ H Q I h => ?_⟩
  refine wpAny_Call_Name_kw (ld_glob I hg hm ?_ hdb)
  exact PySem.W.callWith_K0 I.kIn T.kC (run_mkV (us := []) (vs := []) T iC tI F1 hr hb hd hx hsz I .nil h)
/-- an own error at a, with its fields -/
def ErrAt (H : Hp) (a C : Addr) (fs : List (Str × V)) : Prop := ∃ d, H a = some (exo a C (some d)) ∧ H d = some (exd d fs)
theorem errInst {pins : List (Addr × Obj)} {s : Shared} {σ : L2.St} {H : Hp} {a : Addr} {fs : List (Str × V)} (I : Inv X pins σ H s) (h : ErrAt H a C fs) :
    ∃ (oe : Obj) (od : Obj) (mA : Str → Option Value), PySem.W.InstAt s.heap a oe C (some od) ∧ (∀ f, RelO (fs.lookup f) (mA f)) ∧ ∀ n, PySem.W.lookIn n od = some (mA n) := by
  obtain ⟨d, e1, e2⟩ := h
  obtain ⟨t1, ho⟩ := exo_at I.hok e1
  obtain ⟨mA, hns, rel⟩ := exd_at I.hok e2
  obtain ⟨od, hd, hl⟩ := lookIn_ns hns
  exact ⟨_, od, mA, ⟨ho, rfl, rfl, hd⟩, rel, hl⟩
/-- e.f -/
def tVf (K : PySem.W.Frag) (n : Str) (te : TE) : TE := fun σ H Q => te σ H fun x H1 => ∃ (a C : Addr) (fs : List (Str × V)) (v : V), x = .ref a ∧ ErrAt H1 a C fs ∧ XfC K C ∧ PySem.W.findIn K (.ref C) n = some none ∧ fs.lookup n = some v ∧ Q v H1
theorem pe_vf (he : PE X e te) (hb : attributeBase e n X.env (eval e X.env) = eval e X.env := by rfl) : PE X (.Attribute e n pos) (tVf X.K n te) := by
  refine ⟨fun pins s σ H Q I h => ?_⟩
  refine attr_of hb (thn (he.run pins s σ H _ I h) fun u s1 hh => ?_)
  obtain ⟨x, H1, I1, rx, a, D, fs, v, ex, er, T, hno, l, q⟩ := hh
  subst ex
  obtain rfl : u = Value.ref a := rx
  obtain ⟨oe, od, mA, J, hr, hl⟩ := errInst I1 er
  obtain ⟨u, hu, ru⟩ := RelO.some_of (v := v) (o := mA n) (by rw [← l]; exact hr n)
  exact HandSPX.exc_get I1.kIn J T.ga T.gg T.exC (PySem.W.findObj_own T.hdC hno rfl (by rw [hl, hu])) (handed_of ru) ⟨v, H1, I1.tok _, ru, q⟩
/-- isinstance(x, c), x such an error -/
def rIsV (K : PySem.W.Frag) : List V → Hp → VK → Prop := fun xs H Q => ∃ (a D : Addr) (fs : List (Str × V)) (c : V) (cv : Value) (b : Bool), xs = [.ref a, c] ∧ ErrAt H a D fs ∧ ExcC K D ∧ ClsV c cv ∧ PySem.W.kitOne K (.ref D) cv = some b ∧ Q (.bl b) H
theorem call_isV : CallR X (.builtin "isinstance") (rIsV X.K) := by
  rintro pins s σ H xs us Q I r ⟨a, D, fs, c, cv, b, rfl, er, C, hc, e, q⟩
  cases r with
  | cons rx rr => cases rr with
    | cons rt rr =>
      cases rr
      cases rx
      have ec := hc.eq rt
      subst ec
      obtain ⟨oe, od, mA, J, _, _⟩ := errInst I er
      have hcl : (PySem.W.clsIn X.K D).isSome = true := by
        obtain ⟨cd, h1, _⟩ := PySem.W.any_some C.hd
        rw [h1]; rfl
      exact PySem.W.kia_one (PySem.W.kitx_exc hcl C.hg C.hk C.hs C.ha C.hn C.ht C.hm) I.kIn J e (fun z => Value.noConfusion z) fun tk => ⟨.bl b, H, I.kept (t' := tk) fun _ _ z => z, rfl, q⟩
end
end OQ

/-! ### own errors: what is known of their classes -/
namespace OQ
open PySem L2 PySem.Spec PyProof.Rows
structure ErC (K : PySem.W.Frag) (W fI C : Addr) : Prop where
  oex : OexC K C
  ini : PySem.W.findIn K (.ref C) "__init__" = some (some (.ref fI))
  va : PySem.W.findIn K (.ref C) "value" = some none
  xf : XfC K C
  exi : ExcC K C
  mro : ∃ cd, PySem.W.clsIn K C = some cd ∧ cd.mro = [.ref C, .ref W, .type "ValueError", .type "Exception", .type "BaseException", .type "object"]
theorem kit_er {K : PySem.W.Frag} {W f g C D : Addr} (a : ErC K W f C) (b : ErC K W g D) (n : D ≠ W) : PySem.W.kitOne K (.ref C) (.ref D) = some (decide (C = D)) := by
  by_cases h : C = D
  · subst h
    unfold PySem.W.kitOne
    rw [if_pos (by simp), decide_eq_true rfl]
  · have hb : ((Value.ref C : Value) == Value.ref D) = false := Bool.eq_false_iff.mpr fun q => h (by cases beq_iff_eq.mp q; rfl)
    unfold PySem.W.kitOne
    rw [if_neg (by rw [hb]; decide), decide_eq_false h]
    obtain ⟨cd, e1, _⟩ := b.mro
    obtain ⟨cc, e2, e3⟩ := a.mro
    have t : ((PySem.W.clsIn K D).isSome && PySem.W.typeIn K (.ref D) == some (.type "type")) = true := by rw [e1, b.oex.tyC] <;> rfl
    show (if ((PySem.W.clsIn K D).isSome && PySem.W.typeIn K (.ref D) == some (.type "type")) = true then PySem.W.mroIn K C (.ref D) else none) = some false
    rw [if_pos t]
    unfold PySem.W.mroIn
    rw [e2]
    show (if cc.mro.isEmpty = true then none else some (cc.mro.contains (.ref D))) = some false
    rw [e3, if_neg (by simp)]
    congr 1
    refine Bool.eq_false_iff.mpr fun q => ?_
    have m := List.contains_iff_mem.mp q
    simp only [List.mem_cons, List.not_mem_nil, or_false] at m
    rcases m with m | m | m | m | m | m
    · cases m; exact h rfl
    · cases m; exact n rfl
    all_goals cases m
end OQ

/-! ### C.f(..), C an own class of the text: the def itself -/
namespace OQ
open PySem L2 PySem.Spec PyProof.Rows
/-- C.f read off the class: the def at g -/
structure CDef (K : PySem.W.Frag) (C g : Addr) (n : Str) : Prop where
  rd : PySem.W.readsIn K C (.type "type") = true
  ga : PySem.W.specialIn K (.ref C) "__getattribute__" = some (some (.builtin "type.__getattribute__"))
  val : PySem.W.findCls K (.ref C) (.type "type") n = some (.val (.ref g))
  kp : PySem.W.keepIn K (.ref g) = true
section
variable {X : Cx} {CX : CXT} {n : Str} {C g : Addr} {k : Nat} {fd : FuncData} {ps : List Str} {sp : Sp} {o e : Expr} {es : List Expr} {to : TE} {t : TA} {E : XK} {pos apos : Pos} {pl : Sem Bool}
def tCDef (C : Addr) (sp : Sp) (E : XK) (to : TE) (t : TA) : TE := fun σ H Q => to σ H fun x H1 => x = .ref C ∧ t σ H1 fun vs H2 => sp vs H2 Q E
theorem pe_cdef (ho : PE X o to) (c : CDef X.K C g n) (F : FnOk X.prog X.w X.K X.mg X.base CX k g fd ps sp) (hr : Room k X.A) (hb : Binds X.K fd ps []) (hx : Passes CX X E) (ha : PA X (e :: es) t)
    (ht : eval (.Call (.Attribute o n apos) (e :: es) [] pos) X.env = (do
      let ov ← eval o X.env
      standAt apos.atName
      let (f, first) ← holding [ov] (getMethod ov n pl)
      callWith pos f first (backTo pos (starEach (e :: es) X.env)) (backToKw pos (keywordEach [] X.env))) := by rfl)
    (he : starEach (e :: es) X.env = (false, eval e X.env) :: starEach es X.env := by rfl) (hpl : (backTo pos (starEach es X.env)).any (·.1) = false := by rfl) :
    PE X (.Call (.Attribute o n apos) (e :: es) [] pos) (tCDef C sp E to t) := by
  refine ⟨fun pins s σ H Q I h => ?_⟩
  refine PySem.W.methodCall_KW (pl := pl) (thn (ho.run pins s σ H _ I h) fun u s1 ⟨x, H1, I1, rx, ex, q⟩ => ?_) ht
  subst ex
  obtain rfl : u = Value.ref C := rx
  refine PySem.W.method_cls I1.kIn c.ga (PySem.W.cls_value I1.kIn c.rd c.val rfl ?_)
  show wpAny _ _ (callWith pos (Value.ref g) [] (backTo pos (starEach (e :: es) X.env)) []) _ _ _
  refine PySem.W.callWith_K (h₀ := X.base) I1.ok.mod.kin c.kp (thn (ha.run pos pins _ σ H1 _ (I1.tok _) q) fun us s2 ⟨vs, H2, I2, rv, q2⟩ => ⟨I2.kIn, ?_⟩) he hpl
  exact run_at (A := X.A) rfl hr F hb hx I2 rv q2
end
end OQ

/-! ### own errors: of which classes above -/
namespace OQ
open PySem L2 PySem.Spec PyProof.Rows
theorem mro_has {K : PySem.W.Frag} {W f C : Addr} (a : ErC K W f C) {B : Value} (h : B ∈ [Value.ref C, .ref W, .type "ValueError", .type "Exception", .type "BaseException", .type "object"]) : PySem.W.mroIn K C B = some true := by
  obtain ⟨cc, e1, e2⟩ := a.mro
  unfold PySem.W.mroIn
  rw [e1]
  show (if cc.mro.isEmpty = true then none else some (cc.mro.contains B)) = some true
  rw [e2, if_neg (by simp), List.contains_iff_mem.mpr h]
theorem kit_eV {K : PySem.W.Frag} {W f C : Addr} (a : ErC K W f C) : PySem.W.kitOne K (.ref C) (.type "ValueError") = some true := by
  unfold PySem.W.kitOne
  rw [if_neg (by simp)]
  show (if PySem.W.kitMeta "ValueError" = true then PySem.W.mroIn K C (.type "ValueError") else none) = some true
  rw [if_pos (by decide +kernel), mro_has a (by simp)]
theorem kit_eW {K : PySem.W.Frag} {W f C : Addr} (a : ErC K W f C) (hc : PySem.W.isClsIn K W = true) (ht : PySem.W.typeIn K (.ref W) = some (.type "type")) : PySem.W.kitOne K (.ref C) (.ref W) = some true := by
  by_cases n : (Value.ref C == Value.ref W) = true
  · unfold PySem.W.kitOne
    rw [if_pos n]
  · unfold PySem.W.kitOne
    rw [if_neg n]
    have h : ((PySem.W.clsIn K W).isSome && PySem.W.typeIn K (.ref W) == some (.type "type")) = true := by
      rw [show (PySem.W.clsIn K W).isSome = true from hc, ht]; rfl
    show (if ((PySem.W.clsIn K W).isSome && PySem.W.typeIn K (.ref W) == some (.type "type")) = true then PySem.W.mroIn K C (.ref W) else none) = some true
    rw [if_pos h, mro_has a (by simp)]
end OQ

/-! ### all that is asked of an own error's class, in one look -/
namespace OQ
open PySem L2 PySem.Spec PyProof.Rows
/-- the classes above such a one -/
def upVE (C W : Addr) : List Value := [.ref C, .ref W, .type "ValueError", .type "Exception", .type "BaseException", .type "object"]
def shpB (W C : Addr) : Option Obj → Bool
  | some ⟨.type "type", _, .cls k, z⟩ => k.hasDict && (!k.hasDel && (decide (k.mro = upVE C W) && decide (z.size = 6 ∧ z[4]? = some (some (.builtin "ValueError.__new__")))))
  | _ => false
theorem six {z : Array (Option Value)} {u : Option Value} (n : z.size = 6) (e : z[4]? = some u) : ∃ a b c d f, z = #[a, b, c, d, u, f] := by
  obtain ⟨l⟩ := z
  match l, n, e with
  | [a, b, c, d, v, f], _, e => exact ⟨a, b, c, d, f, by cases e; rfl⟩
def fndB (K : PySem.W.Frag) (C : Addr) (n : Str) (v : Option Value) : Bool := decide (PySem.W.findIn K (.ref C) n = some v)
def erB (K : PySem.W.Frag) (W f C : Addr) : Bool :=
  shpB W C (K.lookup C) && (fndB K C "__setattr__" (some (.builtin "object.__setattr__")) && (decide (PySem.W.subIn K (.ref C) (.type "BaseException") = some true) && (decide (PySem.W.typeIn K (.ref C) = some (.type "type")) &&
    (PySem.W.keepIn K (.ref C) && (fndB K C "__init__" (some (.ref f)) && (fndB K C "value" none && (fndB K C "__getattribute__" (some (.builtin "BaseException.__getattribute__")) && (fndB K C "__getattr__" none &&
      (PySem.W.hasDictIn K C && fndB K C "__class__" (some (.builtin "object.__class__")))))))))))
/-- f of all of them -/
def allB {α : Type} (f : α → Bool) : List α → Bool
  | [] => true
  | x :: r => f x && allB f r
theorem allB_at {α : Type} {f : α → Bool} : ∀ {l : List α}, allB f l = true → ∀ x ∈ l, f x = true
  | [], _, _, m => nomatch m
  | y :: r, h, x, m => by
    have q : (f y && allB f r) = true := h
    rw [Bool.and_eq_true] at q
    rcases List.mem_cons.mp m with e | m
    · rw [e]; exact q.1
    · exact allB_at q.2 x m
theorem two {a b : Bool} (h : (a && b) = true) : a = true ∧ b = true := by simpa using h
theorem erB_ok {K : PySem.W.Frag} {W f C : Addr} (hn : PySem.W.specialIn K (.builtin "object.__class__") "__get__" = some (some (.builtin "getset_descriptor.__get__"))) (ht : PySem.W.takesIn K (.builtin "object.__class__") = some true)
    (h : erB K W f C = true) : ErC K W f C := by
  obtain ⟨c1, h⟩ := two h
  obtain ⟨c2, h⟩ := two h
  obtain ⟨c3, h⟩ := two h
  obtain ⟨c4, h⟩ := two h
  obtain ⟨c5, h⟩ := two h
  obtain ⟨c6, h⟩ := two h
  obtain ⟨c7, h⟩ := two h
  obtain ⟨c8, h⟩ := two h
  obtain ⟨c9, h⟩ := two h
  obtain ⟨c10, c11⟩ := two h
  have F : ∀ {n : Str} {v : Option Value}, fndB K C n v = true → PySem.W.findIn K (.ref C) n = some v := fun q => of_decide_eq_true q
  have sub := of_decide_eq_true c3
  cases e : K.lookup C with
  | none => rw [e] at c1; cases c1
  | some o =>
    rw [e] at c1
    unfold shpB at c1
    split at c1
    · rename_i dd k z eo
      have eo' := Option.some.inj eo
      subst eo'
      obtain ⟨d1, c1⟩ := two c1
      obtain ⟨d2, c1⟩ := two c1
      obtain ⟨d3, d4⟩ := two c1
      obtain ⟨s1, s2⟩ := of_decide_eq_true d4
      obtain ⟨k0, k1, k2, k3, k5, rfl⟩ := six s1 s2
      have mr := of_decide_eq_true d3
      obtain ⟨nm, bs, mro, ns, qn, hdct, sn, sub2, ab, col, hdel⟩ := k
      simp only [Bool.not_eq_true'] at d1 d2 mr
      subst d1 d2 mr
      have cl : PySem.W.clsIn K C = some { name := nm, bases := bs, mro := upVE C W, ns := ns, qualname := qn, hasDict := true, slotNames := sn, subclasses := sub2, abstract := ab, collection := col, hasDel := false } := by
        unfold PySem.W.clsIn
        rw [e]
      have up : PySem.W.mroIn K C (.type "object") = some true := by
        unfold PySem.W.mroIn
        rw [cl]
        show (if (upVE C W).isEmpty = true then none else some ((upVE C W).contains (.type "object"))) = some true
        rw [if_neg (by simp [upVE]), List.contains_iff_mem.mpr (by simp [upVE])]
      exact ⟨⟨⟨nm, qn, ns, bs, [.ref W, .type "ValueError", .type "Exception", .type "BaseException", .type "object"], sn, sub2, ab, col, dd, k0, k1, k2, k3, k5, e, by rfl⟩, F c2, sub, of_decide_eq_true c4, c5⟩, F c6, F c7,
        ⟨F c8, F c9, sub, c10⟩, ⟨F c8, F c9, sub, c10, F c11, hn, ht, up⟩, ⟨_, cl, rfl⟩⟩
    · cases c1
end OQ
namespace OQ
open PySem L2 PySem.Spec PyProof.Rows
theorem ErC.cls {K : PySem.W.Frag} {W f C : Addr} (a : ErC K W f C) : PySem.W.isClsIn K C = true := by
  obtain ⟨cc, e, _⟩ := a.mro
  show (PySem.W.clsIn K C).isSome = true
  rw [e]; rfl
/-- what «except D» says of an error of C -/
theorem exm_is {K : PySem.W.Frag} {C D : Addr} {b : Bool} (h1 : PySem.W.subIn K (.ref D) (.type "BaseException") = some true) (h2 : PySem.W.isClsIn K D = true) (h3 : PySem.W.typeIn K (.ref D) = some (.type "type")) (h : PySem.W.mroIn K C (.ref D) = some b) :
    PySem.W.exmOne K (.ref C) (.ref D) = some b := by
  unfold PySem.W.exmOne
  rw [h1, if_pos (by rfl)]
  have q : ((PySem.W.clsIn K D).isSome && PySem.W.typeIn K (.ref D) == some (.type "type")) = true := by
    rw [show (PySem.W.clsIn K D).isSome = true from h2, h3]; rfl
  unfold PySem.W.kitCls
  exact (if_pos q).trans h
theorem mro_er {K : PySem.W.Frag} {W f C : Addr} (a : ErC K W f C) {D : Addr} (n : D ≠ W) : PySem.W.mroIn K C (.ref D) = some (decide (C = D)) := by
  by_cases h : C = D
  · subst h; rw [mro_has a (by simp), decide_eq_true rfl]
  · obtain ⟨cc, e1, e2⟩ := a.mro
    unfold PySem.W.mroIn
    rw [e1, decide_eq_false h]
    show (if cc.mro.isEmpty = true then none else some (cc.mro.contains (.ref D))) = some false
    rw [e2, if_neg (by simp)]
    refine congrArg some (Bool.eq_false_iff.mpr fun q => ?_)
    have m := List.contains_iff_mem.mp q
    simp only [List.mem_cons, Value.ref.injEq, reduceCtorEq, List.not_mem_nil, or_false] at m
    exact m.elim (fun z => h z.symm) n
theorem exm_er {K : PySem.W.Frag} {W f g C D : Addr} (a : ErC K W f C) (b : ErC K W g D) (n : D ≠ W) : PySem.W.exmOne K (.ref C) (.ref D) = some (decide (C = D)) := exm_is b.oex.exC b.cls b.oex.tyC (mro_er a n)
theorem exm_eW {K : PySem.W.Frag} {W f C : Addr} (a : ErC K W f C) (h1 : PySem.W.subIn K (.ref W) (.type "BaseException") = some true) (h2 : PySem.W.isClsIn K W = true) (h3 : PySem.W.typeIn K (.ref W) = some (.type "type")) :
    PySem.W.exmOne K (.ref C) (.ref W) = some true := exm_is h1 h2 h3 (mro_has a (by simp))
end OQ

/-! ### the head by one run: facts by names, and one more look -/
namespace OQ
open PySem L2 PySem.Spec PyProof.Rows
/-- what of the heap is looked at: what the module's names reach, and the host's own names -/
def frB (n : Nat) (g : Addr → Option Obj) : PySem.W.Frag := He.frG g (cStatics :: He.asD g n)
def hookB (n : Nat) (fa : List He.Fa) (fn : List He.DefD) (ex : PySem.W.Frag → Bool) : PySem.W.Hook where
  α := He.AlD × Bool
  obs := fun s => (He.obsD fa fn (frB n s.heap.get?), ex (frB n s.heap.get?))
  val := fun _ => (He.valD fn, true)
  says := fun _ h => ∃ K : PySem.W.Frag, K.In h ∧ He.SaysD fa fn K ∧ ex K = true
  of := fun _ _ e => ⟨_, He.frG_in, congrArg Prod.fst e, congrArg Prod.snd e⟩
  keeps := fun _ _ _ ⟨K, hK, c, x⟩ k => ⟨K, PySem.W.Frag.In.keeps hK k, c, x⟩
def obB (n : Nat) (fa : List He.Fa) (fn : List He.DefD) (ex : PySem.W.Frag → Bool) (s : PySem.W.SharedT) : He.AlD × Bool :=
  (He.obsD fa fn (frB n (HandSHeadRun.getT s)), ex (frB n (HandSHeadRun.getT s)))
theorem obB_eq (n : Nat) (fa : List He.Fa) (fn : List He.DefD) (ex : PySem.W.Frag → Bool) (s : PySem.W.SharedT) : obB n fa fn ex s = (hookB n fa fn ex).obs s.abs := by
  have e : HandSHeadRun.getT s = s.abs.heap.get? := funext (HandSHeadRun.getT_eq s)
  unfold obB
  rw [e]
  rfl
theorem fun_of {K : PySem.W.Frag} {x q : Str} {st : Stmt} {f : Addr} {fd : FuncData} (F : FunD K x q (defArgs st) (defBody st) (defScope st) [] [] f fd) : Fun K x q st f fd := by
  obtain ⟨oc, od, dV, kV, doc, pm, an, cd, ct, sl, e, look, code, df, _⟩ := F.ex
  rcases df with ⟨_, rfl⟩ | ⟨no, _⟩
  · exact ⟨⟨oc, od, kV, doc, pm, an, cd, ct, sl, e, look, code⟩, F.kp⟩
  · exact absurd rfl no
/-- v as an option's option -/
def isB (a : Option (Option Value)) (v : Option Value) : Bool := decide (a = some v)
theorem isB_ok {a : Option (Option Value)} {v : Option Value} (h : isB a v = true) : a = some v := of_decide_eq_true h
end OQ

/-! ### the head in chunks: the run of the top from one written state to the next -/
namespace HG
open PySem PySem.W PySem.Calls PyProof.Rows HandSHeadRun
noncomputable def okQ : Nat → Option Value → Thread → Bool := PySem.W.Fast.tw6613529449190102663
theorem okQ_eq : @stepOk = okQ := PySem.W.Fast.te6613529449190102663
noncomputable def execsQ : List Stmt → Env → Sem Flow := PySem.W.Fast.tw12563942051412417395
theorem execsQ_eq : @execs = execsQ := PySem.W.Fast.te12563942051412417395
noncomputable def blockQ : List Stmt → Env → Sem Unit := PySem.W.Fast.tw1066825118222455980
theorem blockQ_eq : @blockStart = blockQ := PySem.W.Fast.te1066825118222455980
section
variable (st : SharedT → Thread → Option (SharedT × Thread)) (ok : Thread → Bool)
/-- to the end of a row, at the top's own depth -/
def goE : Nat → SharedT → Thread → Option (Flow × SharedT × Code × Pos)
  | 0, _, _ => none
  | m + 1, s, t => match endAt 1 t with
    | some f => some (f, s, t.code, t.pos)
    | none => match ok t with
      | false => none
      | true => match st s t with
        | some (s', t') => frS s' fun s' => goE m s' t'
        | none => none
/-- just so many steps -/
def goT : Nat → SharedT → Thread → Option (SharedT × Thread)
  | 0, s, t => some (s, t)
  | m + 1, s, t => match through t with
    | true => none
    | false => match ok t with
      | false => none
      | true => match st s t with
        | some (s', t') => frS s' fun s' => goT m s' t'
        | none => none
end
section
variable {tb : String → Option Builtin} {p : Program} {w : World} {n0 : Nat} {ann : Option Value}
theorem goE_ok : ∀ {m : Nat} {s s' : SharedT} {t : Thread} {f : Flow} {c : Code} {q : Pos}, goE (stepT (denote tb) p w) (stepOk n0 ann) m s t = some (f, s', c, q) → segRun tb p w n0 ann 1 m s.abs t = some (f, s'.abs, c, q)
  | 0, _, _, _, _, _, _, h => by cases h
  | m + 1, s, s', t, f, c, q, h => by
    have h1 : (match endAt 1 t with
      | some f => some (f, s, t.code, t.pos)
      | none => match stepOk n0 ann t with
        | false => none
        | true => match stepT (denote tb) p w s t with
          | some (s', t') => frS s' fun s' => goE (stepT (denote tb) p w) (stepOk n0 ann) m s' t'
          | none => none) = some (f, s', c, q) := h
    unfold segRun
    cases he : endAt 1 t with
    | some g =>
      rw [he] at h1
      cases h1
      rfl
    | none =>
      rw [he] at h1
      cases hk : stepOk n0 ann t with
      | false =>
        rw [hk] at h1
        cases h1
      | true =>
        rw [hk] at h1
        cases hs : stepT (denote tb) p w s t with
        | none =>
          rw [hs] at h1
          cases h1
        | some r =>
          obtain ⟨s2, t2⟩ := r
          rw [hs] at h1
          have h3 : (frS s2 fun s' => goE (stepT (denote tb) p w) (stepOk n0 ann) m s' t2) = some (f, s', c, q) := h1
          rw [frS_eq] at h3
          have z := goE_ok h3
          show (match step (denote tb) p w s.abs t with
            | .go s' t' => segRun tb p w n0 ann 1 m s' t'
            | .halt _ _ => none) = some (f, s'.abs, c, q)
          rw [stepT_spec hs]
          exact z
theorem goT_ok : ∀ {m : Nat} {s s' : SharedT} {t t' : Thread}, goT (stepT (denote tb) p w) (stepOk n0 ann) m s t = some (s', t') → topGo tb p w n0 ann m s.abs t = some (s'.abs, t')
  | 0, _, _, _, _, h => by
    cases h
    rfl
  | m + 1, s, s', t, t', h => by
    have h1 : (match through t with
      | true => none
      | false => match stepOk n0 ann t with
        | false => none
        | true => match stepT (denote tb) p w s t with
          | some (s', t') => frS s' fun s' => goT (stepT (denote tb) p w) (stepOk n0 ann) m s' t'
          | none => none) = some (s', t') := h
    unfold topGo
    cases he : through t with
    | true =>
      rw [he] at h1
      cases h1
    | false =>
      rw [he] at h1
      cases hk : stepOk n0 ann t with
      | false =>
        rw [hk] at h1
        cases h1
      | true =>
        rw [hk] at h1
        cases hs : stepT (denote tb) p w s t with
        | none =>
          rw [hs] at h1
          cases h1
        | some r =>
          obtain ⟨s2, t2⟩ := r
          rw [hs] at h1
          have h3 : (frS s2 fun s' => goT (stepT (denote tb) p w) (stepOk n0 ann) m s' t2) = some (s', t') := h1
          rw [frS_eq] at h3
          have z := goT_ok h3
          show (match step (denote tb) p w s.abs t with
            | .go s' t' => topGo tb p w n0 ann m s' t'
            | .halt _ _ => none) = some (s'.abs, t')
          rw [stepT_spec hs]
          exact z
end
/-- the twins in their places -/
noncomputable abbrev stQ (p : Program) (w : World) := stepQ (denQ tabQ) p w
theorem goE_q {p : Program} {w : World} {n0 : Nat} {ann : Option Value} {m : Nat} {s s' : SharedT} {l : List Stmt} {env : Env} {c c' : Code} {q q' : Pos} {B : List Frame} {f : Flow} (h : goE (stQ p w) (okQ n0 ann) m s ⟨(execsQ l env).wrap doneF deadEnd id id, c, q, B⟩ = some (f, s', c', q')) :
    segRun treeTable p w n0 ann 1 m s.abs (piecesOf l env c q B) = some (f, s'.abs, c', q') := by
  have e : stQ p w = stepT (denote treeTable) p w := by unfold stQ; rw [← stepQ_eq, ← denQ_eq, ← tabQ_eq]
  rw [e, ← okQ_eq, ← execsQ_eq] at h
  exact goE_ok h
theorem goB_q {p : Program} {w : World} {n0 : Nat} {ann : Option Value} {m : Nat} {s s' : SharedT} {l : List Stmt} {env : Env} {c c' : Code} {q q' : Pos} {B : List Frame} {f : Flow} (h : goE (stQ p w) (okQ n0 ann) m s ⟨(blockQ l env).wrap (fun _ => doneF .next) deadEnd id id, c, q, B⟩ = some (f, s', c', q')) :
    segRun treeTable p w n0 ann 1 m s.abs (blockOf l env c q B) = some (f, s'.abs, c', q') := by
  have e : stQ p w = stepT (denote treeTable) p w := by unfold stQ; rw [← stepQ_eq, ← denQ_eq, ← tabQ_eq]
  rw [e, ← okQ_eq, ← blockQ_eq] at h
  exact goE_ok h
theorem goT_q {p : Program} {w : World} {n0 : Nat} {ann : Option Value} {m : Nat} {s s' : SharedT} {t : Thread} {b : Code} {c : Code} {q : Pos} {B : List Frame} (h : goT (stQ p w) (okQ n0 ann) m s t = some (s', ⟨denQ tabQ b, c, q, B⟩)) :
    topGo treeTable p w n0 ann m s.abs t = some (s'.abs, ⟨denote treeTable b, c, q, B⟩) := by
  have e : stQ p w = stepT (denote treeTable) p w := by unfold stQ; rw [← stepQ_eq, ← denQ_eq, ← tabQ_eq]
  rw [e, ← okQ_eq, ← denQ_eq, ← tabQ_eq] at h
  exact goT_ok h
theorem goF_q {p : Program} {w : World} {n0 : Nat} {ann : Option Value} {m : Nat} {s s' : SharedT} {t : Thread} (h : goF (stQ p w) n0 ann m s t = some s') : topRun treeTable p w n0 ann m s.abs t = some s'.abs := by
  have e : stQ p w = stepT (denote treeTable) p w := by unfold stQ; rw [← stepQ_eq, ← denQ_eq, ← tabQ_eq]
  rw [e] at h
  exact goF_ok h
/-- the boot and the imports -/
def openF (st : Program → SharedT → Thread → Option (SharedT × Thread)) (fence : Program → Shared → Option Shared) (M : Nat) (p : Program) : Option Shared := match impF (st (opening p)) M (startT (opening p)) (start (opening p)).2 with
  | some s => fence p s.abs
  | none => none
theorem openF_q {M : Nat} {p : Program} {w : World} {s0 : Shared} (h : openF (fun q => stQ q w) fenceQ M p = some s0) : fencedOpening treeTable p w M = some s0 := by
  have e : (fun q => stQ q w) = (fun q => stepT (denote treeTable) q w) := by unfold stQ; rw [← stepQ_eq, ← denQ_eq, ← tabQ_eq]
  rw [e, ← fenceQ_eq] at h
  unfold openF at h
  cases e1 : impF (stepT (denote treeTable) (opening p) w) M (startT (opening p)) (start (opening p)).2 with
  | none =>
    rw [e1] at h
    cases h
  | some s =>
    rw [e1] at h
    have h1 : fenceModules? p s.abs = some s0 := h
    have a1 := impF_ok e1
    rw [startT_eq] at a1
    unfold fencedOpening
    rw [a1]
    exact h1
theorem openB_q {M : Nat} {p : Program} {w : World} {x0 : SharedT} (h : (openF (fun q => stQ q w) fenceQ M p).bind treeOf = some x0) : fencedOpening treeTable p w M = some x0.abs := by
  obtain ⟨s, e, e2⟩ := Option.bind_eq_some_iff.mp h
  rw [(treeOf_eq e2).1]
  exact openF_q e
theorem left_run {p q : Program} {loose : List Str} {Xt : Shared → Bool} {α : Type} {Yf : Shared → α} {Ya : World → α} {N M n0 : Nat} {ann : Option Value} {s0 s1 : World → Shared}
    (hb : ∀ w, fencedOpening treeTable p w N = some (s0 w))
    (hz : ∀ w, ((s0 w).heap.isNs mainGlobals && (s0 w).gens.size == 0, (s0 w).heap.objs.size, (s0 w).heap.nsMap mainGlobals "__annotations__") = (true, n0, ann))
    (hr : ∀ w, topRun treeTable p w n0 ann M (s0 w) (topStub p) = some (s1 w)) (le : Nat.ble M N = true)
    (hl : ∀ w, looksF p (s0 w).heap (s1 w) = true) (hs : ∀ w, openSeen q loose (importedModules p.main.body) Xt true (s1 w) = openGood q loose) (hy : ∀ w, Yf (s1 w) = Ya w) :
    LeftO p q loose Xt Yf Ya N true := fun w => by
  obtain ⟨z1, z2, z3⟩ : _ ∧ _ ∧ _ := by simpa only [Prod.mk.injEq] using hz w
  have r := topRun_mono (N - M) _ _ _ _ (hr w)
  rw [show M + (N - M) = N by have := Nat.le_of_ble_eq_true le; omega] at r
  have l1 : (staticsOk (importedModules p.main.body) (s0 w).heap (s1 w).heap && namesBound p (s1 w).heap && gensDone (s1 w) && laidKept (s0 w).heap (s1 w).heap) = true := hl w
  have t : topFrom treeTable p w N (s0 w) = some (s1 w) := by
    unfold topFrom
    rw [z1]
    show (topRun treeTable p w (s0 w).heap.objs.size ((s0 w).heap.nsMap mainGlobals "__annotations__") N (s0 w) (topStub p)).bind _ = _
    rw [z2, z3, r]
    show (match staticsOk (importedModules p.main.body) (s0 w).heap (s1 w).heap && namesBound p (s1 w).heap && gensDone (s1 w) && laidKept (s0 w).heap (s1 w).heap with | true => some (s1 w) | false => none) = _
    rw [l1]
  unfold openEnds
  rw [hb w]
  show (topFrom treeTable p w N _).map _ = _
  rw [t]
  exact congrArg some (Prod.ext (hs w) (hy w))
theorem head_run {r : OpenRow} {q : Program} {H : Hook} {ob : SharedT → H.α} {N M n0 : Nat} {ann : Option Value} {x0 x1 : World → SharedT} {loose : List PySem.Str} {d : DefRec} {kwd : List (PySem.Str × PySem.Expr)} (ho : ∀ s : SharedT, ob s = H.obs s.abs)
    (hb : ∀ w, (openF (fun q => stQ q w) fenceQ N r.prog).bind treeOf = some (x0 w))
    (hz : ∀ w, ((x0 w).abs.heap.isNs mainGlobals && (x0 w).abs.gens.size == 0, (x0 w).abs.heap.objs.size, (x0 w).abs.heap.nsMap mainGlobals "__annotations__") = (true, n0, ann))
    (hr : ∀ w, topRun treeTable r.prog w n0 ann M (x0 w).abs (topStub r.prog) = some (x1 w).abs) (le : Nat.ble M N = true)
    (hl : ∀ w, looksF r.prog (x0 w).abs.heap (x1 w).abs = true) (hs : ∀ w, seenQ q loose (importedModules r.prog.main.body) (fun s => xlAt q [] s && recOk r.toRowW.records s) (x1 w).abs = openGood q loose) (hy : ∀ w, ob (x1 w) = H.val w)
    (hdef : defOf q r.name = some (d, kwd)) (hp : r.prog.theDef r.name = some (d.params, d.body, d.scope)) (hk : kwWritten? d.params.kwonlyargs d.params.kw_defaults = some kwd)
    (hwr : (!r.writes || r.records.isEmpty) = true) (k1 : r.wellSaid = true) (ok : (chainsOk q && opensWell r.prog && (frees r.toRowW && r.within.isEmpty)) = true) (hbr : r.prog.bare) (hw : r.toRowW.promised)
    (call : WalkO q loose (XL q []) H.says r.toRowW d kwd fun f vs => PySem.call f vs) : r.Holds := by
  have left : LeftO r.prog q loose (fun s => xlAt q [] s && recOk r.toRowW.records s) H.obs H.val N true :=
    left_run (fun w => openB_q (hb w)) hz hr le hl (fun w => by rw [seenQ_eq]; exact hs w) (fun w => by rw [← ho]; exact hy w)
  exact holds_open (r := r) (q := q) (loose := loose) (XP := XL q []) (YP := H.says) (d := d) (kwd := kwd) left H.of H.keeps (fun s z => xl_of s (Bool.and_eq_true_iff.mp z).1) XL.keeps hdef hp hk (fun s z => recFacts_of (Bool.and_eq_true_iff.mp z).2) hwr k1 ok hbr hw call
/-- the heap looked at, at written places -/
def hookL (as : List Addr) (fa : List He.Fa) (fn : List He.DefD) (ex : PySem.W.Frag → Bool) : PySem.W.Hook where
  α := He.AlD × Bool
  obs := fun s => (He.obsD fa fn (He.frG s.heap.get? as), ex (He.frG s.heap.get? as))
  val := fun _ => (He.valD fn, true)
  says := fun _ h => ∃ K : PySem.W.Frag, K.In h ∧ He.SaysD fa fn K ∧ ex K = true
  of := fun _ _ e => ⟨_, He.frG_in, congrArg Prod.fst e, congrArg Prod.snd e⟩
  keeps := fun _ _ _ ⟨K, hK, c, x⟩ k => ⟨K, PySem.W.Frag.In.keeps hK k, c, x⟩
def obL (as : List Addr) (fa : List He.Fa) (fn : List He.DefD) (ex : PySem.W.Frag → Bool) (s : PySem.W.SharedT) : He.AlD × Bool :=
  (He.obsD fa fn (He.frG (getT s) as), ex (He.frG (getT s) as))
theorem obL_eq (as : List Addr) (fa : List He.Fa) (fn : List He.DefD) (ex : PySem.W.Frag → Bool) (s : PySem.W.SharedT) : obL as fa fn ex s = (hookL as fa fn ex).obs s.abs := by
  have e : getT s = s.abs.heap.get? := funext (getT_eq s)
  unfold obL
  rw [e]
  rfl
end HG

open RD in
local macro_rules | `(tactic| walk_at "rd1") => `(tactic| with_reducible first
  | refine d_seq ?_ | refine d_asg ?_ | refine d_op ?_ | refine d_c ?_ | refine d_gname ?_ | refine d_ifS ?_ | refine d_test ?_ | refine d_bl ?_ | refine d_ret ?_ | refine d_next ?_ | refine d_drop ?_
  | refine d_and ?_ | refine d_or ?_ | refine d_not ?_ | refine d_andV ?_ | refine d_orV ?_ | refine d_notV ?_ | refine d_if ?_ | refine d_tB ?_
  | refine d_rI0 ?_ | refine d_rU ?_ | refine d_eqI ?_ | refine d_neI ?_ | refine d_eqS ?_ | refine d_neS ?_ | refine d_eqB ?_ | refine d_isN ?_ | refine d_notN ?_ | refine d_intB ?_ | refine d_un ?_ | refine d_cb ?_ | refine d_cons ?_ | refine d_nil ?_ | refine d_lst ?_ | refine d_tup ?_ | refine d_call ?_
  | refine d_iList ?_ | refine d_rng1 ?_ | refine d_lc ?_ | refine d_yes ?_ | refine d_iteT ?_ | refine d_iteF ?_ | refine d_sl ?_ | refine d_noPart ?_ | refine d_part ?_ | refine d_exI ?_ | refine d_fld ?_ | refine d_iteNF ?_ | refine d_iteNT ?_ | refine d_gcd ?_ | refine d_sfld ?_ | refine d_for ?_ | refine OQ.d_makeS ?_ | refine OQ.d_make ?_ | refine OQ.d_methS ?_ | refine OQ.d_meth ?_ | refine d_gsub ?_ | refine d_par ?_ | refine d_int ?_ | refine d_abs ?_)
local macro_rules | `(tactic| walk_at "rdH") => `(tactic| first | assumption | exact L2.upd_same | (simp only [L2.upd_same, L2.upd_ne, ne_eq, not_false_eq_true, *]; done))
local macro_rules | `(tactic| walk_at "rdC") => `(tactic| first | assumption | (refine Or.inr ⟨?_, ?_⟩ <;> first | decide | omega) | (refine Or.inl ⟨?_, ?_⟩ <;> first | decide | omega) | (show (0 : Int) < _; first | assumption | decide | omega) | exact ⟨by decide, by decide +kernel⟩ | exact ⟨by decide, by decide, by decide +kernel⟩ | exact ⟨by assumption, by assumption⟩)
local macro_rules | `(tactic| walk_at "rd2") => `(tactic| first
  | refine RD.d_var rfl ?_
  | ((with_reducible (refine' RD.d_ixL ?hs ?e ?k)); (case hs => exact L2.SqL.of (by walk_at "rdH")); (case e => rfl))
  | ((with_reducible (refine' RD.d_ixT ?hs ?e ?k)); (case hs => exact L2.SqT.of (by walk_at "rdH")); (case e => rfl))
  | ((with_reducible (refine' RD.d_lenL ?hs ?k)); (case hs => exact L2.SqL.of (by walk_at "rdH")))
  | ((with_reducible (refine' RD.d_wipe ?e ?k)); (case e => rfl))
  | ((with_reducible (refine' RD.d_refL ?hs ?k)); (case hs => exact L2.SqL.of (by walk_at "rdH")))
  | ((with_reducible (refine' RD.d_lenT ?hs ?k)); (case hs => exact L2.SqT.of (by walk_at "rdH")))
  | ((with_reducible (refine' RD.d_lenS ?hs ?k)); (case hs => first | assumption | omega))
  | ((with_reducible (refine' RD.d_rI ?c ?k)); (case c => walk_at "rdC"))
  | ((with_reducible (refine' RD.d_setL ?hs ?e ?k)); (case hs => walk_at "rdH"); (case e => rfl)))
local macro_rules | `(tactic| walk_at "rd") => `(tactic| repeat (first | walk_at "rd1" | walk_at "rd2"))

/-! ### words, watches, links, floods -/
namespace WW
abbrev Wd := List Nat
def piece (W : Wd) (i j : Nat) : Wd := (W.drop i).take (j - i)
/-- the watch w stands at spot l of W -/
def Hit (W : Wd) (l : Nat) (w : Wd) : Prop := piece W l (l + w.length) = w
def Link (ws : List Wd) (W : Wd) (i j : Nat) : Prop := ∃ w ∈ ws, (Hit W i w ∧ j = i + w.length) ∨ (Hit W j w ∧ i = j + w.length)
instance {W : Wd} {l : Nat} {w : Wd} : Decidable (Hit W l w) := inferInstanceAs (Decidable (_ = _))
theorem Link.symm {ws : List Wd} {W : Wd} {i j : Nat} (h : Link ws W i j) : Link ws W j i := by
  obtain ⟨w, m, h⟩ := h
  exact ⟨w, m, h.symm⟩
theorem piece_length (W : Wd) (i j : Nat) : (piece W i j).length = min (j - i) (W.length - i) := by simp [piece]
theorem Hit.bound {W : Wd} {l : Nat} {w : Wd} (h : Hit W l w) (n : w ≠ []) : l + w.length ≤ W.length := by
  have e := congrArg List.length h
  rw [piece_length] at e
  have : 0 < w.length := List.length_pos_iff.mpr n
  omega
theorem Link.le {ws : List Wd} {W : Wd} {i j : Nat} (hw : ∀ w ∈ ws, w ≠ []) (h : Link ws W i j) : i ≤ W.length ∧ j ≤ W.length ∧ i ≠ j := by
  obtain ⟨w, m, ⟨h, e⟩ | ⟨h, e⟩⟩ := h
  · have := h.bound (hw w m)
    have : 0 < w.length := List.length_pos_iff.mpr (hw w m)
    omega
  · have := h.bound (hw w m)
    have : 0 < w.length := List.length_pos_iff.mpr (hw w m)
    omega
theorem Link.mono {ws vs : List Wd} {W : Wd} {i j : Nat} (s : ∀ w ∈ ws, w ∈ vs) (h : Link ws W i j) : Link vs W i j := by
  obtain ⟨w, m, h⟩ := h
  exact ⟨w, s w m, h⟩
/-- r steps lead from g to v -/
def Wk (E : Nat → Nat → Prop) (g : Nat) : Nat → Nat → Prop
  | 0, v => v = g
  | r + 1, v => ∃ u, Wk E g r u ∧ E u v
/-- r steps and no fewer -/
def Ds (E : Nat → Nat → Prop) (g r v : Nat) : Prop := Wk E g r v ∧ ∀ s, s < r → ¬ Wk E g s v
def Rc (E : Nat → Nat → Prop) (g v : Nat) : Prop := ∃ r, Wk E g r v
theorem Rc.ds {E : Nat → Nat → Prop} {g v : Nat} (h : Rc E g v) : ∃ r, Ds E g r v := by
  obtain ⟨r, h⟩ := h
  induction r using Nat.strongRecOn with
  | ind r ih =>
    by_cases c : ∃ s, s < r ∧ Wk E g s v
    · obtain ⟨s, hs, k⟩ := c
      exact ih s hs k
    · exact ⟨r, h, fun s hs k => c ⟨s, hs, k⟩⟩
theorem Ds.uniq {E : Nat → Nat → Prop} {g r s v : Nat} (h : Ds E g r v) (k : Ds E g s v) : r = s := by
  rcases Nat.lt_trichotomy r s with c | c | c
  · exact (k.2 r c h.1).elim
  · exact c
  · exact (h.2 s c k.1).elim
/-- a step further than r leads to r + 1, or to what is nearer -/
theorem Ds.step {E : Nat → Nat → Prop} {g r u v : Nat} (h : Ds E g r u) (e : E u v) : Ds E g (r + 1) v ∨ ∃ s, s ≤ r ∧ Ds E g s v := by
  obtain ⟨s, k⟩ := Rc.ds ⟨r + 1, u, h.1, e⟩
  by_cases c : s ≤ r
  · exact .inr ⟨s, c, k⟩
  · by_cases c2 : s = r + 1
    · subst c2; exact .inl k
    · exact (k.2 (r + 1) (by omega) ⟨u, h.1, e⟩).elim
theorem Ds.back {E : Nat → Nat → Prop} {g r v : Nat} (h : Ds E g (r + 1) v) : ∃ u, Ds E g r u ∧ E u v := by
  obtain ⟨⟨u, k, e⟩, n⟩ := h
  exact ⟨u, ⟨k, fun s hs z => n (s + 1) (by omega) ⟨u, z, e⟩⟩, e⟩
theorem Ds.down {E : Nat → Nat → Prop} {g : Nat} : ∀ {r v : Nat}, Ds E g r v → ∀ s, s ≤ r → ∃ u, Ds E g s u
  | r, v, h, s, hs => by
    by_cases c : s = r
    · subst c; exact ⟨v, h⟩
    · cases r with
      | zero => omega
      | succ r =>
        obtain ⟨u, k, _⟩ := h.back
        exact k.down s (by omega)
theorem Wk.trans {E : Nat → Nat → Prop} {g u : Nat} {r : Nat} (h : Wk E g r u) : ∀ {s v : Nat}, Wk E u s v → Wk E g (r + s) v
  | 0, v, k => by cases k; exact h
  | s + 1, v, ⟨x, k, e⟩ => ⟨x, h.trans k, e⟩
theorem Rc.trans {E : Nat → Nat → Prop} {g u v : Nat} (h : Rc E g u) (k : Rc E u v) : Rc E g v := by
  obtain ⟨r, h⟩ := h
  obtain ⟨s, k⟩ := k
  exact ⟨r + s, h.trans k⟩
theorem Rc.one {E : Nat → Nat → Prop} {u v : Nat} (e : E u v) : Rc E u v := ⟨1, u, rfl, e⟩
theorem Rc.refl {E : Nat → Nat → Prop} {u : Nat} : Rc E u u := ⟨0, rfl⟩
theorem Rc.symm {E : Nat → Nat → Prop} (sy : ∀ u v, E u v → E v u) {u v : Nat} (h : Rc E u v) : Rc E v u := by
  obtain ⟨r, h⟩ := h
  induction r generalizing v with
  | zero => cases h; exact .refl
  | succ r ih =>
    obtain ⟨x, k, e⟩ := h
    exact (Rc.one (sy _ _ e)).trans (ih k)
theorem Rc.mono {E F : Nat → Nat → Prop} (m : ∀ u v, E u v → F u v) {u v : Nat} (h : Rc E u v) : Rc F u v := by
  obtain ⟨r, h⟩ := h
  induction r generalizing v with
  | zero => cases h; exact .refl
  | succ r ih =>
    obtain ⟨x, k, e⟩ := h
    exact (ih k).trans (.one (m _ _ e))
/-- the book of ws tells W -/
def Told (ws : List Wd) (W : Wd) : Prop := Rc (Link ws W) 0 W.length
end WW
namespace WW
/-! the marks: spots with one mark are led to one another -/
structure Cls (m : Nat → Int) (n : Nat) (F : Nat → Nat → Prop) : Prop where
  snd : ∀ i j, i ≤ n → j ≤ n → m i = m j → Rc F i j
  cmp : ∀ i j, F i j → m i = m j
def addE (F : Nat → Nat → Prop) (a b : Nat) : Nat → Nat → Prop := fun u v => F u v ∨ (u = a ∧ v = b) ∨ (v = a ∧ u = b)
theorem Cls.same {m : Nat → Int} {n a b : Nat} {F : Nat → Nat → Prop} (h : Cls m n F) (e : m a = m b) : Cls m n (addE F a b) :=
  ⟨fun i j hi hj z => (h.snd i j hi hj z).mono fun _ _ => .inl, fun i j z => by
    rcases z with z | ⟨rfl, rfl⟩ | ⟨rfl, rfl⟩
    · exact h.cmp _ _ z
    · exact e
    · exact e.symm⟩
def relab (m : Nat → Int) (a b : Nat) : Nat → Int := fun i => if m i = m b then m a else m i
theorem Cls.join {m : Nat → Int} {n a b : Nat} {F : Nat → Nat → Prop} (h : Cls m n F) (ha : a ≤ n) (hb : b ≤ n) (e : m a ≠ m b) : Cls (relab m a b) n (addE F a b) := by
  have up : ∀ u v, Rc F u v → Rc (addE F a b) u v := fun u v k => k.mono fun _ _ => .inl
  have ab : Rc (addE F a b) a b := .one (.inr (.inl ⟨rfl, rfl⟩))
  have ba : Rc (addE F a b) b a := .one (.inr (.inr ⟨rfl, rfl⟩))
  refine ⟨fun i j hi hj z => ?_, fun i j z => ?_⟩
  · unfold relab at z
    split at z <;> split at z
    · rename_i c d
      exact up _ _ (h.snd i j hi hj (c.trans d.symm))
    · rename_i c d
      exact ((up _ _ (h.snd i b hi hb c)).trans ba).trans (up _ _ (h.snd a j ha hj z))
    · rename_i c d
      exact ((up _ _ (h.snd i a hi ha z)).trans ab).trans (up _ _ (h.snd b j hb hj d.symm))
    · exact up _ _ (h.snd i j hi hj z)
  · unfold relab
    rcases z with z | ⟨rfl, rfl⟩ | ⟨rfl, rfl⟩
    · rw [h.cmp _ _ z]
    · rw [if_neg e, if_pos rfl]
    · rw [if_neg e, if_pos rfl]
theorem Cls.told {m : Nat → Int} {n : Nat} {F : Nat → Nat → Prop} (h : Cls m n F) {i j : Nat} (hi : i ≤ n) (hj : j ≤ n) : m i = m j ↔ Rc F i j := by
  refine ⟨h.snd i j hi hj, fun k => ?_⟩
  obtain ⟨r, k⟩ := k
  clear hi hj
  induction r generalizing j with
  | zero => cases k; rfl
  | succ r ih =>
    obtain ⟨x, k, e⟩ := k
    exact (ih k).trans (h.cmp _ _ e)
/-! the links, as they are found -/
/-- those found ahead of the watch kk at spot low -/
def LkF (ws : List Wd) (W : Wd) (low kk : Nat) (i j : Nat) : Prop := ∃ l k w, ws[k]? = some w ∧ Hit W l w ∧ (l < low ∨ (l = low ∧ k < kk)) ∧ ((i = l ∧ j = l + w.length) ∨ (j = l ∧ i = l + w.length))
theorem LkF.zero {ws : List Wd} {W : Wd} {i j : Nat} : ¬ LkF ws W 0 0 i j := by
  rintro ⟨l, k, w, _, _, c, _⟩
  omega
theorem LkF.next {ws : List Wd} {W : Wd} {low i j : Nat} : LkF ws W low ws.length i j ↔ LkF ws W (low + 1) 0 i j := by
  refine ⟨fun ⟨l, k, w, h1, h2, c, h3⟩ => ⟨l, k, w, h1, h2, by omega, h3⟩, fun ⟨l, k, w, h1, h2, c, h3⟩ => ⟨l, k, w, h1, h2, ?_, h3⟩⟩
  have := (List.getElem?_eq_some_iff.mp h1).1
  omega
theorem LkF.all {ws : List Wd} {W : Wd} {i j : Nat} (n : ∀ w ∈ ws, w ≠ []) : LkF ws W W.length 0 i j ↔ Link ws W i j := by
  constructor
  · rintro ⟨l, k, w, h1, h2, c, h3⟩
    refine ⟨w, List.mem_of_getElem? h1, ?_⟩
    rcases h3 with ⟨rfl, e⟩ | ⟨rfl, e⟩
    · exact .inl ⟨h2, e⟩
    · exact .inr ⟨h2, e⟩
  · rintro ⟨w, m, h⟩
    obtain ⟨k, hk⟩ := List.getElem?_of_mem m
    have l0 : 0 < w.length := List.length_pos_iff.mpr (n w m)
    rcases h with ⟨h, e⟩ | ⟨h, e⟩
    · exact ⟨i, k, w, hk, h, by have := h.bound (n w m); omega, .inl ⟨rfl, e⟩⟩
    · exact ⟨j, k, w, hk, h, by have := h.bound (n w m); omega, .inr ⟨rfl, e⟩⟩
theorem LkF.miss {ws : List Wd} {W : Wd} {low kk : Nat} {w : Wd} (hk : ws[kk]? = some w) (h : ¬ Hit W low w) (i j : Nat) : LkF ws W low (kk + 1) i j ↔ LkF ws W low kk i j := by
  refine ⟨fun ⟨l, k, v, h1, h2, c, h3⟩ => ⟨l, k, v, h1, h2, ?_, h3⟩, fun ⟨l, k, v, h1, h2, c, h3⟩ => ⟨l, k, v, h1, h2, by omega, h3⟩⟩
  rcases c with c | ⟨rfl, c⟩
  · exact .inl c
  · by_cases e : k = kk
    · subst e
      rw [hk] at h1
      cases h1
      exact (h h2).elim
    · exact .inr ⟨rfl, by omega⟩
theorem LkF.hit {ws : List Wd} {W : Wd} {low kk : Nat} {w : Wd} (hk : ws[kk]? = some w) (h : Hit W low w) (i j : Nat) : LkF ws W low (kk + 1) i j ↔ addE (LkF ws W low kk) low (low + w.length) i j := by
  constructor
  · rintro ⟨l, k, v, h1, h2, c, h3⟩
    by_cases e : l = low ∧ k = kk
    · obtain ⟨rfl, rfl⟩ := e
      rw [hk] at h1
      cases h1
      rcases h3 with ⟨rfl, rfl⟩ | ⟨rfl, rfl⟩
      · exact .inr (.inl ⟨rfl, rfl⟩)
      · exact .inr (.inr ⟨rfl, rfl⟩)
    · exact .inl ⟨l, k, v, h1, h2, by omega, h3⟩
  · rintro (⟨l, k, v, h1, h2, c, h3⟩ | h3)
    · exact ⟨l, k, v, h1, h2, by omega, h3⟩
    · refine ⟨low, kk, w, hk, h, by omega, ?_⟩
      rcases h3 with ⟨rfl, rfl⟩ | ⟨rfl, rfl⟩
      · exact .inl ⟨rfl, rfl⟩
      · exact .inr ⟨rfl, rfl⟩
theorem LkF.new {ws : List Wd} {W : Wd} {low kk : Nat} {w : Wd} (nd : ws.Nodup) (n : ∀ w ∈ ws, w ≠ []) (hk : ws[kk]? = some w) (h : Hit W low w) : ¬ LkF ws W low kk low (low + w.length) ∧ ¬ LkF ws W low kk (low + w.length) low := by
  have l0 : 0 < w.length := List.length_pos_iff.mpr (n w (List.mem_of_getElem? hk))
  have key : ∀ l k v, ws[k]? = some v → Hit W l v → (l < low ∨ (l = low ∧ k < kk)) → l = low → v.length = w.length → False := by
    rintro l k v h1 h2 c rfl e
    have e2 : v = w := by
      unfold Hit at h2 h
      rw [← h2, ← h, e]
    subst e2
    have lt : k < kk := by omega
    have := (List.getElem?_inj (List.getElem?_eq_some_iff.mp h1).1 nd).mp (h1.trans hk.symm)
    omega
  refine ⟨fun ⟨l, k, v, h1, h2, c, h3⟩ => ?_, fun ⟨l, k, v, h1, h2, c, h3⟩ => ?_⟩ <;>
  · have l1 : 0 < v.length := List.length_pos_iff.mpr (n v (List.mem_of_getElem? h1))
    exact key l k v h1 h2 c (by omega) (by omega)
/-- rows of links -/
structure LkI (rows : Nat → List Nat) (F : Nat → Nat → Prop) : Prop where
  mem : ∀ i j, j ∈ rows i ↔ F i j
  nd : ∀ i, (rows i).Nodup
def push (rows : Nat → List Nat) (a b : Nat) : Nat → List Nat := fun i => if i = a then rows i ++ [b] else rows i
theorem LkI.add {rows : Nat → List Nat} {F : Nat → Nat → Prop} {a b : Nat} (h : LkI rows F) (ne : a ≠ b) (n1 : ¬ F a b) (n2 : ¬ F b a) : LkI (push (push rows a b) b a) (addE F a b) := by
  have e : ∀ i, push (push rows a b) b a i = if i = a then rows i ++ [b] else if i = b then rows i ++ [a] else rows i := by
    intro i
    unfold push
    by_cases c : i = a
    · subst c; rw [if_neg ne, if_pos rfl, if_pos rfl]
    · simp only [if_neg c]
  refine ⟨fun i j => ?_, fun i => ?_⟩
  · rw [e]
    split
    · rename_i c
      subst c
      rw [List.mem_append, h.mem, List.mem_singleton]
      unfold addE
      constructor
      · rintro (z | z)
        · exact .inl z
        · exact .inr (.inl ⟨rfl, z⟩)
      · rintro (z | ⟨_, z⟩ | ⟨_, z⟩)
        · exact .inl z
        · exact .inr z
        · exact (ne z).elim
    · rename_i c
      split
      · rename_i d
        subst d
        rw [List.mem_append, h.mem, List.mem_singleton]
        unfold addE
        constructor
        · rintro (z | z)
          · exact .inl z
          · exact .inr (.inr ⟨z, rfl⟩)
        · rintro (z | ⟨z, _⟩ | ⟨z, _⟩)
          · exact .inl z
          · exact (c z).elim
          · exact .inr z
      · rename_i d
        rw [h.mem]
        unfold addE
        constructor
        · exact .inl
        · rintro (z | ⟨z, _⟩ | ⟨_, z⟩)
          · exact z
          · exact (c z).elim
          · exact (d z).elim
  · rw [e]
    have app : ∀ (l : List Nat) (x : Nat), l.Nodup → x ∉ l → (l ++ [x]).Nodup := by
      intro l x nl nx
      rw [List.nodup_append]
      refine ⟨nl, by simp, fun y hy z hz q => ?_⟩
      rw [List.mem_singleton] at hz
      subst hz; subst q
      exact nx hy
    split
    · rename_i c
      subst c
      exact app _ _ (h.nd _) fun z => n1 ((h.mem _ _).mp z)
    · split
      · rename_i c d
        subst d
        exact app _ _ (h.nd _) fun z => n2 ((h.mem _ _).mp z)
      · exact h.nd _
theorem LkI.iff {rows : Nat → List Nat} {F G : Nat → Nat → Prop} (h : LkI rows F) (e : ∀ i j, G i j ↔ F i j) : LkI rows G := ⟨fun i j => (h.mem i j).trans (e i j).symm, h.nd⟩
theorem LkI.zero {ws : List Wd} {W : Wd} : LkI (fun _ => []) (LkF ws W 0 0) := ⟨fun i j => ⟨fun z => (nomatch z), fun z => (LkF.zero z).elim⟩, fun _ => List.nodup_nil⟩
end WW
namespace WW
theorem nodup_len : ∀ (n : Nat) (l : List Nat), l.Nodup → (∀ x ∈ l, x < n) → l.length ≤ n
  | 0, l, _, h => by
    cases l with
    | nil => exact Nat.le_refl _
    | cons a r => exact absurd (h a (List.mem_cons_self ..)) (Nat.not_lt_zero _)
  | n + 1, l, nd, h => by
    by_cases m : n ∈ l
    · have e := List.length_erase_of_mem m
      have ih := nodup_len n (l.erase n) (nd.erase n) (fun x hx => by
        have := h x (List.mem_of_mem_erase hx)
        have : x ≠ n := fun z => by subst z; exact (nd.not_mem_erase hx)
        omega)
      omega
    · exact Nat.le_succ_of_le (nodup_len n l nd fun x hx => by
        have := h x hx
        have : x ≠ n := fun z => m (z ▸ hx)
        omega)
theorem LkF.le {ws : List Wd} {W : Wd} {low kk i j : Nat} (n : ∀ w ∈ ws, w ≠ []) (h : LkF ws W low kk i j) : i ≤ W.length ∧ j ≤ W.length := by
  obtain ⟨l, k, w, h1, h2, c, h3⟩ := h
  have := h2.bound (n w (List.mem_of_getElem? h1))
  omega
theorem LkI.len {rows : Nat → List Nat} {F : Nat → Nat → Prop} {n : Nat} (h : LkI rows F) (b : ∀ i j, F i j → j ≤ n) (i : Nat) : (rows i).length ≤ n + 1 :=
  nodup_len _ _ (h.nd i) fun x m => Nat.lt_succ_of_le (b _ _ ((h.mem i x).mp m))
theorem addE.le {F : Nat → Nat → Prop} {a b n : Nat} (h : ∀ i j, F i j → j ≤ n) (ha : a ≤ n) (hb : b ≤ n) (i j : Nat) (k : addE F a b i j) : j ≤ n := by
  rcases k with k | ⟨_, rfl⟩ | ⟨rfl, _⟩
  · exact h _ _ k
  · exact hb
  · exact ha
/-- ints sorted, as numbers -/
theorem sorted_nats {r : List Nat} {ns : List Int} (p : ns.Perm (r.map fun (j : Nat) => (j : Int))) (s : ns.Pairwise (· ≤ ·)) (nd : r.Nodup) : ∃ q : List Nat, ns = q.map (fun (j : Nat) => (j : Int)) ∧ (∀ x, x ∈ q ↔ x ∈ r) ∧ q.Pairwise (· < ·) := by
  refine ⟨ns.map Int.toNat, ?_, fun x => ?_, ?_⟩
  · rw [List.map_map]
    have : ∀ z ∈ ns, ((fun (j : Nat) => (j : Int)) ∘ Int.toNat) z = z := fun z m => by
      obtain ⟨j, _, rfl⟩ := List.mem_map.mp (p.mem_iff.mp m)
      simp
    rw [List.map_congr_left this, List.map_id']
  · rw [List.mem_map]
    constructor
    · rintro ⟨z, m, rfl⟩
      obtain ⟨j, mj, rfl⟩ := List.mem_map.mp (p.mem_iff.mp m)
      simpa using mj
    · intro m
      exact ⟨(x : Int), p.mem_iff.mpr (List.mem_map.mpr ⟨x, m, rfl⟩), by simp⟩
  · have nd' : ns.Nodup := p.nodup_iff.mpr (List.Pairwise.map _ (fun a b (h : a ≠ b) => (fun z => h (by omega) : (a : Int) ≠ (b : Int))) nd)
    rw [List.pairwise_map]
    have both := s.and nd'
    refine both.imp_of_mem ?_
    rintro a b ma mb ⟨h1, h2⟩
    obtain ⟨x, _, rfl⟩ := List.mem_map.mp (p.mem_iff.mp ma)
    obtain ⟨y, _, rfl⟩ := List.mem_map.mp (p.mem_iff.mp mb)
    simp at *
    omega
end WW

/-! ### texts as lists of letters -/
namespace WW
open PySem L2
/-- the text of these letters -/
def S (l : Wd) : Str := ⟨l.toArray⟩
theorem S_len (l : Wd) : (S l).length = l.length := by show l.toArray.size = _; simp
theorem S_cps (l : Wd) : (S l).cps.toList = l := rfl
theorem S_of (z : Str) : z = S z.cps.toList := by cases z; rfl
theorem S_inj {l m : Wd} : S l = S m ↔ l = m := by
  constructor
  · intro h
    have := congrArg (fun z : Str => z.cps.toList) h
    exact this
  · exact congrArg S
theorem S_app (l m : Wd) : S l ++ S m = S (l ++ m) := by
  show Str.mk _ = Str.mk _
  simp [S]
theorem take_all {α : Type} (l : List α) {n m : Nat} (h : l.length ≤ n) (k : l.length ≤ m) : l.take n = l.take m := by
  rw [List.take_of_length_le h, List.take_of_length_le k]
theorem cut_nat {α : Type} (l : List α) (a b : Nat) : (l.drop (min a l.length)).take (min b l.length - min a l.length) = (l.drop a).take (b - a) := by
  rcases Nat.le_total a l.length with ha | ha
  · have e : min a l.length = a := by omega
    rw [e]
    rcases Nat.le_total b l.length with hb | hb
    · have e : min b l.length = b := by omega
      rw [e]
    · exact take_all _ (by rw [List.length_drop]; omega) (by rw [List.length_drop]; omega)
  · have e : min a l.length = l.length := by omega
    rw [e, List.drop_of_length_le (Nat.le_refl l.length), List.drop_of_length_le ha]
    simp
theorem S_cut (l : Wd) (a b : Nat) : cutS (S l) (some (a : Int)) (some (b : Int)) = S (piece l a b) := by
  unfold cutS piece
  rw [S_len, HT.sIx_nat, HT.sIx_nat, S_cps, cut_nat]
  rfl
theorem S_cutLo (l : Wd) (a : Nat) : cutS (S l) (some (a : Int)) none = S (l.drop a) := by
  have e : cutS (S l) (some (a : Int)) none = cutS (S l) (some (a : Int)) (some ((l.length : Nat) : Int)) := by
    unfold cutS
    rw [S_len, HT.sIx_nat, HT.sIx_nat, HT.sIx_none, Nat.min_self]
  rw [e, S_cut]
  show S _ = S _
  congr 1
  exact List.take_of_length_le (by rw [List.length_drop]; omega)
theorem S_cutHi (l : Wd) (b : Nat) : cutS (S l) none (some (b : Int)) = S (l.take b) := by
  have e : cutS (S l) none (some (b : Int)) = cutS (S l) (some ((0 : Nat) : Int)) (some (b : Int)) := by
    unfold cutS
    have z : ∀ n : Nat, HT.sIx n 0 (some ((0 : Nat) : Int)) = 0 := fun n => by rw [HT.sIx_nat, Nat.zero_min]
    rw [z, HT.sIx_none]
  rw [e, S_cut]
  rfl
/-- a row of texts -/
def Ss (ws : List Wd) : List V := ws.map fun w => V.str (S w)
theorem Ss_get {ws : List Wd} {i : Nat} {x : V} (h : (Ss ws)[i]? = some x) : ∃ w, ws[i]? = some w ∧ x = .str (S w) := by
  unfold Ss at h
  rw [List.getElem?_map] at h
  cases e : ws[i]? with
  | none => rw [e] at h; cases h
  | some w => rw [e] at h; cases h; exact ⟨w, rfl, rfl⟩
theorem Ss_len (ws : List Wd) : (Ss ws).length = ws.length := List.length_map ..
def Lt (c : Nat) : Prop := 97 ≤ c ∧ c ≤ 122
instance {c : Nat} : Decidable (Lt c) := inferInstanceAs (Decidable (_ ∧ _))
/-- all of its signs are letters -/
def Lw (l : Wd) : Prop := ∀ c ∈ l, Lt c
theorem Lw.piece {l : Wd} (h : Lw l) (a b : Nat) : Lw (piece l a b) := fun c m => h c (List.mem_of_mem_drop (List.mem_of_mem_take m))
theorem Lw.drop {l : Wd} (h : Lw l) (a : Nat) : Lw (l.drop a) := fun c m => h c (List.mem_of_mem_drop m)
theorem Lw.take {l : Wd} (h : Lw l) (a : Nat) : Lw (l.take a) := fun c m => h c (List.mem_of_mem_take m)
theorem Lw.app {l m : Wd} (h : Lw l) (k : Lw m) : Lw (l ++ m) := fun c z => (List.mem_append.mp z).elim (h c) (k c)
theorem Lw.nil : Lw [] := fun _ m => nomatch m
theorem Lw.one {c : Nat} (h : Lt c) : Lw [c] := fun x m => by rw [List.mem_singleton.mp m]; exact h
def alpha : Str := "abcdefghijklmnopqrstuvwxyz"
theorem alpha_S : alpha = S (List.range' 97 26) := by decide +kernel
theorem alpha_in (c : Nat) : decide (c ∈ alpha.cps.toList) = decide (Lt c) := by
  rw [alpha_S, S_cps]
  rw [decide_eq_decide]
  unfold Lt
  rw [List.mem_range'_1]
  omega
theorem alpha_at {i : Nat} (h : i < 26) : (List.range' 97 26)[i]? = some (97 + i) := by
  rw [List.getElem?_range' h]; simp
end WW
/-! ### readings of texts -/
namespace RD
open PySem L2
section
variable {σ : L2.St} {H : Hp} {Q : VK} {K : PySem.W.Frag} {l m : WW.Wd} {a b : Nat} {i j : Int}
def rAddS : R2 := fun x y H Q => ∃ i j, x = .str i ∧ y = .str j ∧ i.length + j.length ≤ sizeLine ∧ Q (.str (i ++ j)) H
theorem o_addS {X : Cx} : OpR X (binaryOp .Add) rAddS := op_add_str
theorem d_addS (n : l.length + m.length ≤ sizeLine) (h : Q (.str (WW.S (l ++ m))) H) : rAddS (.str (WW.S l)) (.str (WW.S m)) H Q :=
  ⟨_, _, rfl, rfl, by rw [WW.S_len, WW.S_len]; exact n, by rw [WW.S_app]; exact h⟩
def rSign : R2 := fun x y H Q => ∃ (c : Nat) (z : Str), x = .str ⟨#[c]⟩ ∧ y = .str z ∧ Q (.bl (decide (c ∈ z.cps.toList))) H
theorem o_sign {X : Cx} : OpR X (compareOp .In) rSign := op_in_sign
theorem d_alpha {c : Nat} (h : Q (.bl (decide (WW.Lt c))) H) : rSign (.str ⟨#[c]⟩) (.str "abcdefghijklmnopqrstuvwxyz") H Q :=
  ⟨c, _, rfl, rfl, by rw [show decide (c ∈ (("abcdefghijklmnopqrstuvwxyz" : Str)).cps.toList) = decide (WW.Lt c) from WW.alpha_in c]; exact h⟩
theorem d_cutS {i j : Int} (hi : i = a) (hj : j = b) (n : l.length ≤ sizeLine) (h : Q (.str (WW.S (WW.piece l a b))) H) : rSlS (.str (WW.S l)) (some i) (some j) H Q := by
  subst hi hj
  exact ⟨_, rfl, by rw [WW.S_len]; exact n, by rw [WW.S_cut]; exact h⟩
theorem d_cutSLo {i : Int} (hi : i = a) (n : l.length ≤ sizeLine) (h : Q (.str (WW.S (l.drop a))) H) : rSlS (.str (WW.S l)) (some i) none H Q := by
  subst hi
  exact ⟨_, rfl, by rw [WW.S_len]; exact n, by rw [WW.S_cutLo]; exact h⟩
theorem d_cutSHi {i : Int} (hi : i = b) (n : l.length ≤ sizeLine) (h : Q (.str (WW.S (l.take b))) H) : rSlS (.str (WW.S l)) none (some i) H Q := by
  subst hi
  exact ⟨_, rfl, by rw [WW.S_len]; exact n, by rw [WW.S_cutHi]; exact h⟩
theorem d_lenW (n : l.length ≤ sizeLine) (h : Q (.int l.length) H) : rLen K [.str (WW.S l)] H Q := ⟨_, _, rfl, ⟨by rw [WW.S_len]; exact n, rfl⟩, by rw [WW.S_len]; exact h⟩
theorem d_ixS {i : Int} {c : Nat} (hi : i = a) (n : l.length ≤ sizeLine) (e : l[a]? = some c) (h : Q (.str (WW.S [c])) H) : rIxS (.str (WW.S l)) (.int i) H Q := by
  subst hi
  exact ⟨_, _, c, rfl, rfl, by rw [WW.S_len]; exact n, by rw [WW.S_cps]; exact atI_nat e, h⟩
theorem d_eqW (h : Q (.bl (decide (l = m))) H) : rEq (.str (WW.S l)) (.str (WW.S m)) H Q := ⟨rfl, by
  have e : decide (V.str (WW.S l) = V.str (WW.S m)) = decide (l = m) := by rw [decide_eq_decide]; exact ⟨fun z => WW.S_inj.mp (V.str.inj z), fun z => by rw [z]⟩
  rw [e]; exact h⟩
theorem d_neW (h : Q (.bl (!decide (l = m))) H) : rNe (.str (WW.S l)) (.str (WW.S m)) H Q := ⟨rfl, by
  have e : decide (V.str (WW.S l) = V.str (WW.S m)) = decide (l = m) := by rw [decide_eq_decide]; exact ⟨fun z => WW.S_inj.mp (V.str.inj z), fun z => by rw [z]⟩
  rw [e]; exact h⟩
end
end RD

/-! ### enumerate over a tuple -/
namespace OQ
open PySem L2 PySem.Spec PyProof.Rows
theorem meets_enumV {v : Value} {o : Obj} {B : Heap → Prop} (b : Begins v o B) :
    Meets (Builtin.«enumerate.__new__» ⟨[.type "enumerate", v], []⟩) (fun _ R z => B z.heap ∧
      R (.ok (.ret (.ref (z.heap.push o).objs.size))) { z with heap := (z.heap.push o).push { cls := .type "enumerate", data := .fields #[.none, .bool false, .ref z.heap.objs.size, rawInt 0, .none, .none] } }) :=
  .of_wp fun P W A R z q => by
    obtain ⟨hp, g, d, tk, os⟩ := z; obtain ⟨b0, q⟩ := q
    have know := sub_enumerate
    have begin_ : ∀ {A' : Around} {E Q : Value → Shared → Prop}, Q (.ref hp.objs.size) ⟨hp.push o, g, d, tk, os⟩ → wpAny (model P W) A' (pyIter v) Q E ⟨hp, g, d, tk, os⟩ :=
      fun r => b.iter P W _ _ ⟨hp, g, d, tk, os⟩ _ b0 r
    wp_walk using begin_
    refine wpAny_stack_any fun _ => wpAny_pure ?_
    split
    · rename_i c _ _ _ _ _
      cases (c == Value.type "enumerate") <;> (wp_walk using begin_; exact ⟨_, rfl, q⟩)
    · (wp_walk using begin_; exact ⟨_, rfl, q⟩)
theorem call_enumV {P : Program} {W : World} {A : Around} {E Q : Value → Shared → Prop} {z : Shared} {v : Value} {o : Obj} {B : Heap → Prop} (b : Begins v o B) (b0 : B z.heap)
    (q : ∀ h', IsEnum h' (z.heap.objs.size + 1) z.heap.objs.size 0 .none → h'.get? z.heap.objs.size = some o → (∀ c u, z.heap.get? c = some u → h'.get? c = some u) → Q (.ref (z.heap.objs.size + 1)) { z with heap := h' }) :
    wpAny (model P W) A (call (.type "enumerate") [v]) Q E z := by
  refine callType_new F.called_enumerate (by decide) (F.typeCall_enumerate_1 _) (F.newCall_enumerate_1 _) (fun _ => F.args_object_init_2 _ _) F.entry_enumerate_new (meets_enumV b) ⟨b0, ?_⟩
  have n1 : (z.heap.push o).objs.size = z.heap.objs.size + 1 := Heap.size_push ..
  have e1 := Heap.get?_push_size (z.heap.push o) (o := { cls := .type "enumerate", data := .fields #[.none, .bool false, .ref z.heap.objs.size, rawInt 0, .none, .none] }) rfl
  rw [n1] at e1
  show _ ∧ _
  rw [n1]
  exact ⟨⟨_, e1, rfl⟩, q _ e1 (Heap.get?_push_of_some _ (Heap.get?_push_size _ b.free)) fun c u x => Heap.get?_push_of_some _ (Heap.get?_push_of_some _ x)⟩
/-- the tuple at a, each item in a new pair behind its number -/
def IteT (K : PySem.W.Frag) (a : Addr) : It where
  go i H := ∃ xs x, SqT K H a xs ∧ xs[i]? = some x
  yld i H v H' := ∃ T x, v = .ref T ∧ H T = none ∧ H' = upd H T (.tup [.int (i : Nat), x]) ∧ ∀ xs, SqT K H a xs → xs[i]? = some x
  stop i H := ∃ xs, SqT K H a xs ∧ xs.length ≤ i
theorem two_mem {b e it : Addr} (h : b ∈ [e, it]) : b = e ∨ b = it := by simpa using h
theorem turn_enumT {P : Program} {w : World} {K : PySem.W.Frag} {elts : List Expr} {kk : Nat} {tpos : Pos} (a e it : Addr) :
    Turn P w K (.Tuple elts kk tpos) (IteT K a) [e, it] e (fun i h => (∃ old, IsEnum h e it ((i : Nat) : Int) old) ∧ h.IsTupleIter it a i ∧ e ≠ it) where
  mem := List.mem_cons_self ..
  obj := fun i h st b hb => by
    obtain ⟨⟨old, x1⟩, ⟨o, x2, _, x3⟩, _⟩ := st
    rcases two_mem hb with rfl | rfl
    · exact ⟨_, x1, fun _ z => nomatch z⟩
    · exact ⟨o, x2, fun _ z => by rw [x3] at z; cases z⟩
  keep := fun i h h' st k => ⟨st.1.imp fun _ y => k e (List.mem_cons_self ..) _ y, st.2.1.at fun o y => k it (by simp) o y, st.2.2⟩
  item := by
    intro X hP hw hK hc i pins s σ H E I hf st hg
    subst hP hw hK
    obtain ⟨⟨old, x1⟩, x2, ne⟩ := st
    obtain ⟨xs, x, sq, hx⟩ := hg
    obtain ⟨its, rv, pt, _⟩ := I.tuple sq
    obtain ⟨u, hu, ru⟩ := rv.get hx
    have pt' : s.heap.IsTuple a its.toArray := pt
    have na : a ≠ it := fun z => by
      subst z
      obtain ⟨o1, y1, c1, _⟩ := x2
      obtain ⟨o2, y2, c2, _⟩ := pt'
      rw [y1] at y2
      cases y2
      rw [c1] at c2
      simp at c2
    have le : e < s.heap.objs.size := Heap.lt_size x1
    have li : it < s.heap.objs.size := let ⟨_, y, _⟩ := x2; Heap.lt_size y
    have la : a < s.heap.objs.size := let ⟨_, y, _⟩ := pt'; Heap.lt_size y
    have nea : e ≠ a := fun z => by
      subst z
      obtain ⟨o2, y2, c2, _⟩ := pt'
      have y1 : s.heap.get? e = _ := x1
      rw [y1] at y2
      cases y2
      simp at c2
    have lt : i < its.toArray.size := by
      have := rv.length
      have := (List.getElem?_eq_some_iff.mp hx).1
      rw [List.size_toArray]; omega
    refine wpAny_pyNext_enum_itemD (Draws.tuple (A := X.A.in1) (show X.A.in1.handled = none from I.ok.hd hc) it a na its.toArray) x1 ⟨x2, pt'⟩ lt ne (by intro z; rcases two_mem z with z | z; exact ne z; exact nea z) fun y h1 tk hy out st1 hT _ hk => ?_
    have ey : y = u := by
      have : its.toArray[i]? = some u := by simpa using hu
      rw [this] at hy
      exact (Option.some.inj hy).symm
    subst ey
    refine ⟨_, rfl, wpAny_letOwnedTupleGo_enum (s := { s with heap := h1, toks := tk + 1 }) out fun h2 x3 sb => ?_⟩
    have hT2 := (sb.2 _ (Nat.ne_of_gt le)).trans hT
    have new : ObjOk X.prog X.w (upd H s.heap.objs.size (.tup [.int (i : Nat), x])) h2 s.heap.objs.size (.tup [.int (i : Nat), x]) :=
      ⟨by show 2 ≤ sizeLine; decide, [.int i tk, y], .cons ⟨_, rfl⟩ (.cons ru .nil), ⟨_, hT2, rfl, _, rfl⟩⟩
    have I2 : Inv X pins σ (upd H s.heap.objs.size (.tup [.int (i : Nat), x])) { s with heap := h2, toks := tk + 1 } :=
      I.turnedNew (ch := [e, it]) (fun b o nb q => (sb.2 b (fun z => nb (by simp [z]))).trans (hk b o (fun z => nb (by simp [z])) (fun z => nb (by simp [z])) q)) hf (Nat.le_refl _) new
    refine ⟨.ref s.heap.objs.size, _, I2, rfl, ⟨_, x, rfl, I.hok.fresh (Nat.le_refl _), rfl, fun ys hy => by rw [I.tuple_inj hy sq]; exact hx⟩, ⟨⟨y, ?_⟩, st1.1.at fun o q => (sb.2 it (Ne.symm ne)).trans q, ne⟩, fun b hb => ?_⟩
    · rw [Int.natCast_succ]; exact x3
    · have lb : b < s.heap.objs.size := (two_mem hb).elim (fun z => z ▸ le) (fun z => z ▸ li)
      rw [upd_ne (Nat.ne_of_lt lb)]
      exact (hf b hb).1
  done := by
    intro X hP hw hK hc i pins s σ H E I hf st hg
    subst hP hw hK
    obtain ⟨⟨old, x1⟩, x2, ne⟩ := st
    obtain ⟨xs, sq, lx⟩ := hg
    obtain ⟨its, rv, pt, _⟩ := I.tuple sq
    obtain ⟨f0, f1, f2, f3, f4, f5⟩ := hf it (by simp)
    have pt' : s.heap.IsTuple a its.toArray := pt
    have len := rv.length
    have hT : s.TypeIs (.ref e) "enumerate" := ⟨_, x1, rfl⟩
    unfold pyNext
    refine wpAny_bind (wpAny_attempt (wpAny_callSpecial?_slot (name := Str.ofString "__next__") hT F.slot_enumerate_next
      (wpAny_call_entry F.slot_enumerate_next hT F.entry_enumerate_next ?_ (F.args_enumerate_next_1 _))))
    show wpAny _ _ (field (.ref e) 2 >>= _) _ _ _
    refine wpAny_bind (wpAny_field x1 rfl (x := .ref it) rfl ?_)
    refine wpAny_bind (wpAny_nextOf_tuple_end (I.ok.hd hc) x2 pt' (by simp; omega) fun h' x he' hx' => ?_)
    obtain ⟨o, ho, c⟩ := hx'
    exact wpAny_bind (wpAny_isInstance (T := "StopIteration") (b := true) ⟨o, ho, c⟩ isSubtype_stop (wpAny_pure ⟨rfl, I.turned (t' := s.toks) (fun b u nb q => he' b u nb q) f0 f1 f3 f4 f5⟩))
  self := fun A i s Q E st h => let ⟨⟨_, x1⟩, _⟩ := st; wpAny_pyIter_enum x1 h
def iEnumT (K : PySem.W.Frag) (ta : TA) : TI := fun σ H R => ta σ H fun vs H1 => ∃ a xs, vs = [.ref a] ∧ SqT K H1 a xs ∧ R (IteT K a) H1
theorem pi_enumT {X : Cx} {arg : Expr} {ta : TA} {p q tp : Pos} {elts : List Expr} {kk : Nat} (hg : Gl X "enumerate") (hm : X.mg "enumerate" = none) (ha : PA X [arg] ta) (hs : starEach [arg] X.env = [(false, eval arg X.env)] := by rfl) :
    PI X (.Tuple elts kk tp) (.Call (.Name "enumerate" p) [arg] [] q) (iEnumT X.K ta) := by
  refine ⟨fun pins s σ H R I asked => Call_ (ld_blt I hg hm boot_enumerate (callWith_type1 (thn (ha.run q pins s σ H _ I asked) fun us s1 ⟨vs, H1, I1, rel, a, xs, evs, sq, go⟩ => ?_) hs rfl))⟩
  subst evs
  cases rel with
  | cons one rest =>
    cases rest
    cases one
    obtain ⟨its, rv, pt, _⟩ := I1.tuple sq
    have pt' : s1.heap.IsTuple a its.toArray := pt
    refine call_enumV (begins_tuple a its.toArray) pt' fun h' x1 x2 hk => wpAny_pyIter_enum x1 ?_
    refine ⟨s1.heap.objs.size + 1, [s1.heap.objs.size + 1, s1.heap.objs.size], _, _, H1, rfl, I1.kept (t' := s1.toks) hk, turn_enumT a (s1.heap.objs.size + 1) s1.heap.objs.size, ⟨⟨.none, x1⟩, ⟨_, x2, rfl, rfl⟩, Nat.succ_ne_self _⟩, fun b hb => ?_, go⟩
    have lb : s1.heap.objs.size ≤ b := by
      rcases two_mem hb with z | z
      · exact z ▸ Nat.le_succ _
      · exact z ▸ Nat.le_refl _
    exact I1.fpOk lb (I1.hok.fresh lb)
/-- enumerate of a list or of a tuple -/
theorem walk_enumT {K : PySem.W.Frag} {a : Addr} {xs : List V} : Walk (IteT K a) xs.length (fun H => SqT K H a xs) (YPair (fun i => some (.int (i : Nat))) (fun i => xs[i]?)) where
  goes i _ hi q := ⟨xs, xs[i], q, List.getElem?_eq_getElem hi⟩
  stops _ q := ⟨xs, q, Nat.le_refl _⟩
  yields i H v H' _ q y := let ⟨T, x, h1, h2, h3, h4⟩ := y; ⟨T, .int (i : Nat), x, h1, h2, h3, rfl, h4 xs q⟩
end OQ

/-! ### rows: lists or tuples -/
namespace OQ
open PySem L2 PySem.Spec PyProof.Rows
def SeqAt (K : PySem.W.Frag) (H : Hp) (a : Addr) (xs : List V) : Prop := SqL K H a xs ∨ SqT K H a xs
theorem sqT_same {K : PySem.W.Frag} {H H' : Hp} {a : Addr} {xs : List V} (h : SqT K H a xs) (e : Same H H') : SqT K H' a xs :=
  h.imp (fun h => h.imp (e _ _) fun ⟨o, h⟩ => ⟨o, e _ _ h⟩) id
theorem SeqAt.same {K : PySem.W.Frag} {H H' : Hp} {a : Addr} {xs : List V} (h : SeqAt K H a xs) (e : Same H H') : SeqAt K H' a xs :=
  h.imp e.seq fun h => sqT_same h e
theorem SeqAt.len {K : PySem.W.Frag} {H : Hp} {a : Addr} {xs : List V} {Q : VK} (h : SeqAt K H a xs) (k : Q (.int xs.length) H) : RD.rLen K [.ref a] H Q :=
  h.elim (fun h => RD.d_lenL h k) fun h => RD.d_lenT h k
/-- the one way of walking or the other -/
def iOr (u w : TI) : TI := fun σ H R => u σ H R ∨ w σ H R
theorem pi_or {X : Cx} {tg e : Expr} {u w : TI} (h : PI X tg e u) (k : PI X tg e w) : PI X tg e (iOr u w) :=
  ⟨fun pins s σ H R I z => z.elim (h.run pins s σ H R I) (k.run pins s σ H R I)⟩
theorem pi_seq {X : Cx} {tg e : Expr} {te : TE} (he : PE X e te) : PI X tg e (iOr (iList X.K te) (iTup X.K te)) := pi_or (pi_list he) (pi_tup he)
theorem d_seqVar {K : PySem.W.Frag} {σ : L2.St} {H : Hp} {R : It → Hp → Prop} {n : Nat} {a : Addr} {xs : List V} (e : σ[n]? = some (some (.ref a))) (h : SeqAt K H a xs)
    (k : ∀ J G, Walk J xs.length G (YAt xs) → (∀ H', Same H H' → G H') → R J H) : iOr (iList K (tVar n)) (iTup K (tVar n)) σ H R := by
  rcases h with h | h
  · exact .inl ⟨_, e, a, rfl, ⟨xs, h⟩, k _ _ walk_list fun H' s => s.seq h⟩
  · exact .inr ⟨_, e, a, rfl, ⟨xs, h⟩, k _ _ walk_tup fun H' s => sqT_same h s⟩
theorem d_enumVar {K : PySem.W.Frag} {σ : L2.St} {H : Hp} {R : It → Hp → Prop} {n : Nat} {a : Addr} {xs : List V} (e : σ[n]? = some (some (.ref a))) (h : SeqAt K H a xs)
    (k : ∀ J G, Walk J xs.length G (YPair (fun i => some (.int (i : Nat))) (fun i => xs[i]?)) → (∀ H', Same H H' → G H') → R J H) :
    iOr (iEnum K (tCons (tVar n) tNil)) (iEnumT K (tCons (tVar n) tNil)) σ H R := by
  rcases h with h | h
  · exact .inl ⟨_, e, a, xs, rfl, h, k _ _ walk_enum fun H' s => s.seq h⟩
  · exact .inr ⟨_, e, a, xs, rfl, h, k _ _ walk_enumT fun H' s => sqT_same h s⟩
theorem eqV_str {z y : Str} : eqV (.str z) (.str y) = (z == y) := rfl
theorem inV_Ss (w : WW.Wd) (ws : List WW.Wd) : inV (.str (WW.S w)) (WW.Ss ws) = decide (w ∈ ws) := by
  unfold inV WW.Ss
  rw [Bool.eq_iff_iff]
  simp only [List.any_map, List.any_eq_true, Function.comp, decide_eq_true_eq, eqV_str, beq_iff_eq, WW.S_inj]
  constructor
  · rintro ⟨x, m, rfl⟩; exact m
  · intro m; exact ⟨w, m, rfl⟩
theorem flat_Ss (ws : List WW.Wd) : (WW.Ss ws).all flatV = true := by
  unfold WW.Ss
  rw [List.all_map]
  exact List.all_eq_true.mpr fun _ _ => rfl
theorem d_inSs {K : PySem.W.Frag} {H : Hp} {Q : VK} {a : Addr} {w : WW.Wd} {ws : List WW.Wd} (h : SeqAt K H a (WW.Ss ws)) (k : Q (.bl (decide (w ∈ ws))) H) : rIn K false (.str (WW.S w)) (.ref a) H Q :=
  ⟨a, _, rfl, h, rfl, flat_Ss ws, by rw [inV_Ss]; exact k⟩
theorem d_notInSs {K : PySem.W.Frag} {H : Hp} {Q : VK} {a : Addr} {w : WW.Wd} {ws : List WW.Wd} (h : SeqAt K H a (WW.Ss ws)) (k : Q (.bl (!decide (w ∈ ws))) H) : rIn K true (.str (WW.S w)) (.ref a) H Q :=
  ⟨a, _, rfl, h, rfl, flat_Ss ws, by rw [inV_Ss]; exact k⟩
end OQ
namespace OQ
open PySem L2 PySem.Spec PyProof.Rows
theorem sortK {X : Cx} (K : PySem.W.Frag) (h : X.K = K := by rfl) : CallR X (.builtin "sorted") (rSortedI K) := h ▸ cr_sortedI
theorem lenK {X : Cx} (K : PySem.W.Frag) (h : X.K = K := by rfl) : CallR X (.builtin "len") (RD.rLen K) := h ▸ RD.c_len
theorem inK {X : Cx} (K : PySem.W.Frag) (h : X.K = K := by rfl) : OpR X (compareOp .In) (rIn K false) := h ▸ op_in_seq
theorem notInK {X : Cx} (K : PySem.W.Frag) (h : X.K = K := by rfl) : OpR X (compareOp .NotIn) (rIn K true) := h ▸ op_notIn_seq
end OQ

/-! ### any for, step by step -/
namespace RD
open PySem L2
theorem f_it {J : It} {n : Nat} {G : Hp → Prop} {Y : Nat → Hp → V → Hp → Prop} {σ : L2.St} {H : Hp} {g : TG} {tb : TS} {nx : L2.St → Hp → Prop} {rt : VK} (w : Walk J n G Y) (Pv : Nat → L2.St → Hp → Prop) (h0 : Pv 0 σ H) (hG : ∀ i σ H, i ≤ n → Pv i σ H → G H)
    (hs : ∀ i x σ H H', i < n → Pv i σ H → Y i H x H' → g x σ H' fun σ2 H2 => tb ⟨Pv (i + 1), rt, nx, Pv (i + 1)⟩ σ2 H2) (hd : ∀ σ H, Pv n σ H → nx σ H) :
    ∃ W : Nat → Nat → L2.St → Hp → Prop, (∃ m, W 0 m σ H) ∧ ∀ i m σ H, W i m σ H → (J.stop i H ∧ nx σ H) ∨ (J.go i H ∧ ∃ N : L2.St → Hp → Prop, (∀ σ' H', N σ' H' → ∃ m', m' < m ∧ W (i + 1) m' σ' H') ∧
      ∀ x H', J.yld i H x H' → g x σ H' fun σ2 H2 => tb ⟨N, rt, nx, N⟩ σ2 H2) := for_it (D := ⟨nx, rt, fun _ _ => False, fun _ _ => False⟩) w Pv h0 hG hs hd
/-- a pair taken apart by two names -/
theorem d_two {K : PySem.W.Frag} {n i j : Nat} {a : Addr} {x y : V} {σ : L2.St} {H : Hp} {R : L2.St → Hp → Prop} (en : n = 2) (e : SqT K H a [x, y]) (k : R ((σ.set i (some x)).set j (some y)) H) :
    gTup K n (gCons (gName i) (gCons (gName j) gNil)) (.ref a) σ H R := ⟨a, [x, y], rfl, e, en.symm, x, [y], rfl, y, [], rfl, rfl, k⟩
end RD
namespace OQ
open PySem L2
theorem d_tupSeq {K : PySem.W.Frag} {H : Hp} {a : Addr} {xs : List V} {Q : VK} (h : SeqAt K H a xs) (k : ∀ H' t, Same H H' → SqT K H' t xs → Q (.ref t) H') : rTupK K [.ref a] H Q := by
  rcases h with h | h
  · exact ⟨a, xs, rfl, .inl ⟨h, fun l hl => k _ l (fun b u e => by rw [upd_ne (ne_of_none e hl)]; exact e) (SqT.of upd_same)⟩⟩
  · exact ⟨a, xs, rfl, .inr ⟨h, k _ a (Same.refl _) h⟩⟩
end OQ
namespace RD
open PySem L2
theorem d_bm {K : PySem.W.Frag} {T : String} {r : V → List V → Hp → VK → Prop} {to : TE} {t : TA} {σ : L2.St} {H : Hp} {Q : VK} (h : to σ H fun x H1 => tyV K T x H1 ∧ t σ H1 fun xs H2 => r x xs H2 Q) : tBM K T r to t σ H Q := h
theorem tyL {K : PySem.W.Frag} {H : Hp} {p : Addr} {xs : List V} (e : H p = some (.lst xs)) : tyV K "list" (.ref p) H := .inl ⟨rfl, xs, SqL.of e⟩
theorem d_app {H : Hp} {Q : VK} {p : Addr} {xs : List V} {y : V} (e : H p = some (.lst xs)) (n : xs.length < sizeLine) (h : Q .non (upd H p (.lst (xs ++ [y])))) : rAppend (.ref p) [y] H Q := ⟨p, xs, y, rfl, rfl, e, n, h⟩
end RD
namespace WW
open PySem L2
def Ns (r : List Nat) : List V := r.map fun (j : Nat) => V.int j
theorem Ns_len (r : List Nat) : (Ns r).length = r.length := List.length_map ..
theorem Ns_app (r : List Nat) (j : Nat) : Ns r ++ [V.int j] = Ns (r ++ [j]) := by unfold Ns; rw [List.map_append]; rfl
theorem Ns_get {r : List Nat} {i : Nat} {x : V} (h : (Ns r)[i]? = some x) : ∃ j, r[i]? = some j ∧ x = .int (j : Nat) := by
  unfold Ns at h
  rw [List.getElem?_map] at h
  cases e : r[i]? with
  | none => rw [e] at h; cases h
  | some w => rw [e] at h; cases h; exact ⟨w, rfl, rfl⟩
end WW
namespace RD
open PySem L2
theorem d_dput {td ty tv : TE} {σ : L2.St} {H : Hp} {nx bk ct : L2.St → Hp → Prop} {rt : VK} (h : tv σ H fun v H1 => td σ H1 fun x H2 => ty σ H2 fun y H3 => ∃ a H4, x = .ref a ∧ DPut H3 a y v H4 ∧ nx σ H4) : sDPut td ty tv ⟨nx, rt, bk, ct⟩ σ H := h
theorem d_dget {td ty : TE} {σ : L2.St} {H : Hp} {Q : VK} (h : td σ H fun x H1 => ty σ H1 fun y H2 => ∃ a v, x = .ref a ∧ DGet H2 a y (some v) ∧ Q v H2) : tDGet td ty σ H Q := h
end RD
namespace RD
open PySem L2
theorem d_din {ty td : TE} {σ : L2.St} {H : Hp} {Q : VK} (h : ty σ H fun y H1 => td σ H1 fun x H2 => ∃ a o, x = .ref a ∧ DGet H2 a y o ∧ Q (.bl o.isSome) H2) : tDIn ty td σ H Q := h
theorem d_dnotin {ty td : TE} {σ : L2.St} {H : Hp} {Q : VK} (h : ty σ H fun y H1 => td σ H1 fun x H2 => ∃ a o, x = .ref a ∧ DGet H2 a y o ∧ Q (.bl (!o.isSome)) H2) : tDNotIn ty td σ H Q := h
end RD
namespace RD
open PySem L2
theorem d_break {nx bk ct : L2.St → Hp → Prop} {rt : VK} {σ : L2.St} {H : Hp} (h : bk σ H) : tBreak ⟨nx, rt, bk, ct⟩ σ H := h
end RD
namespace WW
open PySem L2
theorem Ss_app (ws : List Wd) (w : Wd) : Ss ws ++ [V.str (S w)] = Ss (ws ++ [w]) := by unfold Ss; rw [List.map_append]; rfl
theorem nodup_snoc {α : Type} {l : List α} {x : α} (h : l.Nodup) (n : x ∉ l) : (l ++ [x]).Nodup := by
  rw [List.nodup_append]
  refine ⟨h, by simp, fun a ha b hb q => ?_⟩
  rw [List.mem_singleton] at hb
  subst hb; subst q
  exact n ha
end WW
namespace RD
open PySem L2
theorem d_lstRg {ta : TE} {σ : L2.St} {H : Hp} {Q : VK} (h : ta σ H fun x H1 => ∃ n, x = .int n ∧ RgOk 0 n ∧ ∀ q, H1 q = none → Q (.ref q) (upd H1 q (.lst (rgV 0 n)))) : tLstRg (tRg1 ta) σ H Q := h
end RD

/-! ### breadth first -/
namespace WW
open PySem L2
def Dk (ps : List (Nat × Nat)) : List (Key × V) := ps.map fun p => (Sum.inl (p.1 : Int), V.int p.2)
def look (ps : List (Nat × Nat)) (v : Nat) : Option Nat := (ps.find? fun p => p.1 == v).map (·.2)
theorem valV_Dk (ps : List (Nat × Nat)) (v : Nat) : valV (Dk ps) (Sum.inl (v : Int)) = (look ps v).map fun (d : Nat) => V.int d := by
  induction ps with
  | nil => rfl
  | cons p ps ih =>
    unfold Dk look at *
    rw [List.map_cons, List.find?_cons]
    by_cases c : p.1 = v
    · rw [valV_pos (by rw [c])]
      simp [c]
    · rw [valV_neg (fun z => c (by have := Sum.inl.inj z; omega)), ih]
      have e : (p.1 == v) = false := by simpa using c
      rw [e]
theorem look_none {ps : List (Nat × Nat)} {v : Nat} : look ps v = none ↔ v ∉ ps.map (·.1) := by
  unfold look
  rw [Option.map_eq_none_iff, List.find?_eq_none, List.mem_map]
  constructor
  · rintro h ⟨p, m, e⟩
    exact h p m (by simpa using e)
  · intro h p m e
    exact h ⟨p, m, by simpa using e⟩
theorem look_snoc {ps : List (Nat × Nat)} {v r : Nat} (h : look ps v = none) (w : Nat) : look (ps ++ [(v, r)]) w = if w = v then some r else look ps w := by
  by_cases c : w = v
  · subst c
    rw [if_pos rfl]
    unfold look at *
    rw [List.find?_append]
    rw [Option.map_eq_none_iff] at h
    simp [h]
  · rw [if_neg c]
    unfold look
    rw [List.find?_append]
    have : ((v, r) :: []).find? (fun p : Nat × Nat => p.1 == w) = none := by simp; exact fun z => c z.symm
    rw [this]
    simp
theorem Dk_put {ps : List (Nat × Nat)} {v r : Nat} (h : look ps v = none) : putK (Dk ps) (Sum.inl (v : Int)) (.int r) = Dk (ps ++ [(v, r)]) := by
  rw [putK_new]
  · unfold Dk; rw [List.map_append]; rfl
  · rw [valV_Dk, h]; rfl
/-- what is found while the ring of those r steps away is gone through: Sn was seen -/
structure Bf (E : Nat → Nat → Prop) (g n r : Nat) (ps : List (Nat × Nat)) (far : List Nat) (Sn : Nat → Prop) : Prop where
  st : ∀ v d, look ps v = some d ↔ (Ds E g d v ∧ d ≤ r) ∨ (d = r + 1 ∧ Ds E g (r + 1) v ∧ Sn v)
  far : ∀ v, v ∈ far ↔ Ds E g (r + 1) v ∧ Sn v
  nd : (ps.map (·.1)).Nodup
  lt : ∀ p ∈ ps, p.1 < n
theorem Bf.iff {E : Nat → Nat → Prop} {g n r : Nat} {ps : List (Nat × Nat)} {far : List Nat} {Sn Sm : Nat → Prop} (h : Bf E g n r ps far Sn) (e : ∀ v, Sm v ↔ Sn v) : Bf E g n r ps far Sm :=
  ⟨fun v d => by rw [h.st, e], fun v => by rw [h.far, e], h.nd, h.lt⟩
theorem Bf.len {E : Nat → Nat → Prop} {g n r : Nat} {ps : List (Nat × Nat)} {far : List Nat} {Sn : Nat → Prop} (h : Bf E g n r ps far Sn) : ps.length ≤ n := by
  have := nodup_len n _ h.nd (fun x m => by obtain ⟨p, mp, rfl⟩ := List.mem_map.mp m; exact h.lt p mp)
  rwa [List.length_map] at this
theorem Bf.here {E : Nat → Nat → Prop} {g n r : Nat} {ps : List (Nat × Nat)} {far : List Nat} {Sn : Nat → Prop} (h : Bf E g n r ps far Sn) {u : Nat} (hu : Ds E g r u) : look ps u = some r := (h.st u r).mpr (.inl ⟨hu, Nat.le_refl _⟩)
theorem Bf.old {E : Nat → Nat → Prop} {g n r : Nat} {ps : List (Nat × Nat)} {far : List Nat} {Sn : Nat → Prop} (h : Bf E g n r ps far Sn) {v : Nat} (hv : look ps v ≠ none) : Bf E g n r ps far (fun w => Sn w ∨ w = v) := by
  have key : Ds E g (r + 1) v → Sn v := fun k => by
    cases e : look ps v with
    | none => exact absurd e hv
    | some d =>
      rcases (h.st v d).mp e with ⟨k2, le⟩ | ⟨_, _, s⟩
      · have := k.uniq k2; omega
      · exact s
  have same : ∀ w, (Ds E g (r + 1) w ∧ (Sn w ∨ w = v)) ↔ (Ds E g (r + 1) w ∧ Sn w) := fun w => by
    constructor
    · rintro ⟨a, b | rfl⟩
      · exact ⟨a, b⟩
      · exact ⟨a, key a⟩
    · rintro ⟨a, b⟩; exact ⟨a, .inl b⟩
  exact ⟨fun w d => by rw [h.st, same], fun w => by rw [h.far, same], h.nd, h.lt⟩
theorem Bf.new {E : Nat → Nat → Prop} {g n r : Nat} {ps : List (Nat × Nat)} {far : List Nat} {Sn : Nat → Prop} (h : Bf E g n r ps far Sn) {u v : Nat} (hu : Ds E g r u) (e : E u v) (hn : v < n) (hv : look ps v = none) : Bf E g n r (ps ++ [(v, r + 1)]) (far ++ [v]) (fun w => Sn w ∨ w = v) := by
  have dv : Ds E g (r + 1) v := by
    rcases hu.step e with k | ⟨s, hs, k⟩
    · exact k
    · have := (h.st v s).mpr (.inl ⟨k, hs⟩)
      rw [hv] at this; cases this
  refine ⟨fun w d => ?_, fun w => ?_, ?_, ?_⟩
  · rw [look_snoc hv]
    by_cases c : w = v
    · subst c
      rw [if_pos rfl]
      constructor
      · intro z; cases z; exact .inr ⟨rfl, dv, .inr rfl⟩
      · rintro (⟨k, le⟩ | ⟨rfl, _, _⟩)
        · have := k.uniq dv; omega
        · rfl
    · rw [if_neg c, h.st]
      constructor
      · rintro (k | ⟨a, b, s⟩)
        · exact .inl k
        · exact .inr ⟨a, b, .inl s⟩
      · rintro (k | ⟨a, b, s | s⟩)
        · exact .inl k
        · exact .inr ⟨a, b, s⟩
        · exact (c s).elim
  · rw [List.mem_append, h.far, List.mem_singleton]
    constructor
    · rintro (⟨a, s⟩ | rfl)
      · exact ⟨a, .inl s⟩
      · exact ⟨dv, .inr rfl⟩
    · rintro ⟨a, s | s⟩
      · exact .inl ⟨a, s⟩
      · exact .inr s
  · rw [List.map_append, List.nodup_append]
    refine ⟨h.nd, by simp, fun a ha b hb q => ?_⟩
    simp at hb
    subst hb; subst q
    exact (look_none.mp hv) ha
  · intro p m
    rcases List.mem_append.mp m with m | m
    · exact h.lt p m
    · rw [List.mem_singleton.mp m]; exact hn
/-- between the rounds -/
structure Bo (E : Nat → Nat → Prop) (g n r : Nat) (ps : List (Nat × Nat)) (ring : List Nat) : Prop where
  st : ∀ v d, look ps v = some d ↔ Ds E g d v ∧ d ≤ r
  ring : ∀ v, v ∈ ring ↔ Ds E g r v
  nd : (ps.map (·.1)).Nodup
  lt : ∀ p ∈ ps, p.1 < n
theorem Bo.zero {E : Nat → Nat → Prop} {g n : Nat} (hg : g < n) : Bo E g n 0 [(g, 0)] [g] := by
  have z : ∀ v, Ds E g 0 v ↔ v = g := fun v => ⟨fun h => h.1, fun h => ⟨h, fun _ k => absurd k (Nat.not_lt_zero _)⟩⟩
  refine ⟨fun v d => ?_, fun v => by rw [z, List.mem_singleton], by simp, by simp; exact hg⟩
  unfold look
  by_cases c : g = v
  · subst c
    simp
    constructor
    · rintro rfl; exact ⟨(z _).mpr rfl, rfl⟩
    · rintro ⟨_, h⟩; exact h.symm
  · simp [c]
    intro k
    intro q
    subst q
    exact c ((z _).mp k).symm
theorem Bo.begin {E : Nat → Nat → Prop} {g n r : Nat} {ps : List (Nat × Nat)} {ring : List Nat} (h : Bo E g n r ps ring) : Bf E g n r ps [] (fun _ => False) :=
  ⟨fun v d => by rw [h.st]; simp, fun v => by simp, h.nd, h.lt⟩
theorem Bf.done {E : Nat → Nat → Prop} {g n r : Nat} {ps : List (Nat × Nat)} {ring far : List Nat} {Sn : Nat → Prop} (h : Bf E g n r ps far Sn) (hr : ∀ v, v ∈ ring ↔ Ds E g r v) (hs : ∀ u v, u ∈ ring → E u v → Sn v) : Bo E g n (r + 1) ps far := by
  have se : ∀ v, Ds E g (r + 1) v → Sn v := fun v k => by
    obtain ⟨u, ku, e⟩ := k.back
    exact hs u v ((hr u).mpr ku) e
  refine ⟨fun v d => ?_, fun v => ?_, h.nd, h.lt⟩
  · rw [h.st]
    constructor
    · rintro (⟨k, le⟩ | ⟨rfl, k, _⟩)
      · exact ⟨k, by omega⟩
      · exact ⟨k, Nat.le_refl _⟩
    · rintro ⟨k, le⟩
      by_cases c : d ≤ r
      · exact .inl ⟨k, c⟩
      · have : d = r + 1 := by omega
        subst this
        exact .inr ⟨rfl, k, se v k⟩
  · rw [h.far]
    exact ⟨fun k => k.1, fun k => ⟨k, se v k⟩⟩
theorem Bo.end_ {E : Nat → Nat → Prop} {g n r : Nat} {ps : List (Nat × Nat)} (h : Bo E g n r ps []) (v d : Nat) : look ps v = some d ↔ Ds E g d v := by
  rw [h.st]
  refine ⟨fun k => k.1, fun k => ⟨k, ?_⟩⟩
  by_cases c : d ≤ r
  · exact c
  · obtain ⟨u, ku⟩ := k.down r (by omega)
    exact nomatch (h.ring u).mpr ku
end WW

/-! ### the law's marks -/
namespace WW
open PySem L2
def Ms (n : Nat) (m : Nat → Int) : List V := (List.range n).map fun i => V.int (m i)
theorem Ms_len (n : Nat) (m : Nat → Int) : (Ms n m).length = n := by unfold Ms; rw [List.length_map, List.length_range]
theorem Ms_get {n i : Nat} (m : Nat → Int) (h : i < n) : (Ms n m)[i]? = some (.int (m i)) := by unfold Ms; rw [List.getElem?_map, List.getElem?_range h]; rfl
theorem Ms_set {n i : Nat} (m : Nat → Int) (v : Int) : (Ms n m).set i (.int v) = Ms n (fun j => if j = i then v else m j) := by
  apply List.ext_getElem?
  intro j
  by_cases hj : j < n
  · rw [Ms_get _ hj, List.getElem?_set]
    by_cases c : i = j
    · subst c
      rw [if_pos rfl, Ms_len, if_pos hj, if_pos rfl]
    · rw [if_neg c, if_neg (fun z => c z.symm), Ms_get _ hj]
  · rw [List.getElem?_eq_none (by rw [List.length_set, Ms_len]; omega), List.getElem?_eq_none (by rw [Ms_len]; omega)]
theorem rgV_Ms (n : Nat) : rgV 0 (n : Int) = Ms n (fun i => (i : Int)) := by
  unfold rgV Ms
  rw [show ((n : Int) - 0).toNat = n from by omega]
  refine List.map_congr_left fun i _ => ?_
  rw [Int.zero_add]
/-- the links ahead of spot sp of the watch kk -/
def MkF (ws : List Wd) (W : Wd) (kk sp : Nat) (i j : Nat) : Prop := ∃ l k w, ws[k]? = some w ∧ Hit W l w ∧ (k < kk ∨ (k = kk ∧ l < sp)) ∧ ((i = l ∧ j = l + w.length) ∨ (j = l ∧ i = l + w.length))
theorem MkF.zero {ws : List Wd} {W : Wd} {i j : Nat} : ¬ MkF ws W 0 0 i j := by
  rintro ⟨l, k, w, _, _, c, _⟩
  omega
theorem MkF.next {ws : List Wd} {W w : Wd} {kk sp i j : Nat} (hk : ws[kk]? = some w) (n : w ≠ []) (hs : W.length < sp + w.length) : MkF ws W kk sp i j ↔ MkF ws W (kk + 1) 0 i j := by
  refine ⟨fun ⟨l, k, v, h1, h2, c, h3⟩ => ⟨l, k, v, h1, h2, by omega, h3⟩, fun ⟨l, k, v, h1, h2, c, h3⟩ => ⟨l, k, v, h1, h2, ?_, h3⟩⟩
  by_cases e : k = kk
  · subst e
    rw [hk] at h1; cases h1
    have := h2.bound n
    omega
  · omega
theorem MkF.all {ws : List Wd} {W : Wd} {i j : Nat} : MkF ws W ws.length 0 i j ↔ Link ws W i j := by
  constructor
  · rintro ⟨l, k, w, h1, h2, c, h3⟩
    refine ⟨w, List.mem_of_getElem? h1, ?_⟩
    rcases h3 with ⟨rfl, e⟩ | ⟨rfl, e⟩
    · exact .inl ⟨h2, e⟩
    · exact .inr ⟨h2, e⟩
  · rintro ⟨w, m, h⟩
    obtain ⟨k, hk⟩ := List.getElem?_of_mem m
    have := (List.getElem?_eq_some_iff.mp hk).1
    rcases h with ⟨h, e⟩ | ⟨h, e⟩
    · exact ⟨i, k, w, hk, h, by omega, .inl ⟨rfl, e⟩⟩
    · exact ⟨j, k, w, hk, h, by omega, .inr ⟨rfl, e⟩⟩
theorem MkF.miss {ws : List Wd} {W : Wd} {kk sp : Nat} {w : Wd} (hk : ws[kk]? = some w) (h : ¬ Hit W sp w) (i j : Nat) : MkF ws W kk (sp + 1) i j ↔ MkF ws W kk sp i j := by
  refine ⟨fun ⟨l, k, v, h1, h2, c, h3⟩ => ⟨l, k, v, h1, h2, ?_, h3⟩, fun ⟨l, k, v, h1, h2, c, h3⟩ => ⟨l, k, v, h1, h2, by omega, h3⟩⟩
  rcases c with c | ⟨rfl, c⟩
  · exact .inl c
  · by_cases e : l = sp
    · subst e
      rw [hk] at h1
      cases h1
      exact (h h2).elim
    · exact .inr ⟨rfl, by omega⟩
theorem MkF.hit {ws : List Wd} {W : Wd} {kk sp : Nat} {w : Wd} (hk : ws[kk]? = some w) (h : Hit W sp w) (i j : Nat) : MkF ws W kk (sp + 1) i j ↔ addE (MkF ws W kk sp) sp (sp + w.length) i j := by
  constructor
  · rintro ⟨l, k, v, h1, h2, c, h3⟩
    by_cases e : l = sp ∧ k = kk
    · obtain ⟨rfl, rfl⟩ := e
      rw [hk] at h1
      cases h1
      rcases h3 with ⟨rfl, rfl⟩ | ⟨rfl, rfl⟩
      · exact .inr (.inl ⟨rfl, rfl⟩)
      · exact .inr (.inr ⟨rfl, rfl⟩)
    · exact .inl ⟨l, k, v, h1, h2, by omega, h3⟩
  · rintro (⟨l, k, v, h1, h2, c, h3⟩ | h3)
    · exact ⟨l, k, v, h1, h2, by omega, h3⟩
    · refine ⟨sp, kk, w, hk, h, by omega, ?_⟩
      rcases h3 with ⟨rfl, rfl⟩ | ⟨rfl, rfl⟩
      · exact .inl ⟨rfl, rfl⟩
      · exact .inr ⟨rfl, rfl⟩
theorem Cls.iff {m : Nat → Int} {n : Nat} {F G : Nat → Nat → Prop} (h : Cls m n F) (e : ∀ i j, G i j ↔ F i j) : Cls m n G :=
  ⟨fun i j hi hj z => (h.snd i j hi hj z).mono fun u v k => (e u v).mpr k, fun i j z => h.cmp i j ((e i j).mp z)⟩
theorem Cls.zero {ws : List Wd} {W : Wd} {n : Nat} : Cls (fun i => (i : Int)) n (MkF ws W 0 0) :=
  ⟨fun i j _ _ z => by have : i = j := by omega
                       subst this; exact .refl, fun i j z => (MkF.zero z).elim⟩
/-- marks of the first at spots set anew -/
def relabTo (m : Nat → Int) (a b at_ : Nat) : Nat → Int := fun i => if i < at_ ∧ m i = m b then m a else m i
theorem relabTo_zero (m : Nat → Int) (a b : Nat) : relabTo m a b 0 = m := by funext i; unfold relabTo; rw [if_neg (by omega)]
theorem relabTo_a {m : Nat → Int} {a b t : Nat} : relabTo m a b t a = m a := by unfold relabTo; split <;> rfl
theorem relabTo_at {m : Nat → Int} {a b t : Nat} : relabTo m a b t t = m t := by unfold relabTo; rw [if_neg (by omega)]
theorem relabTo_hit {m : Nat → Int} {a b t : Nat} (h : m t = m b) : (fun j => if j = t then m a else relabTo m a b t j) = relabTo m a b (t + 1) := by
  funext j
  unfold relabTo
  by_cases c : j = t
  · subst c; rw [if_pos rfl, if_pos ⟨by omega, h⟩]
  · rw [if_neg c]
    by_cases d : j < t ∧ m j = m b
    · rw [if_pos d, if_pos ⟨by omega, d.2⟩]
    · rw [if_neg d, if_neg (fun z => d ⟨by omega, z.2⟩)]
theorem relabTo_miss {m : Nat → Int} {a b t : Nat} (h : m t ≠ m b) : relabTo m a b (t + 1) = relabTo m a b t := by
  funext j
  unfold relabTo
  by_cases d : j < t ∧ m j = m b
  · rw [if_pos d, if_pos ⟨by omega, d.2⟩]
  · rw [if_neg d, if_neg (fun z => d ⟨by
      rcases Nat.lt_or_ge j t with q | q
      · exact q
      · have : j = t := by omega
        subst this; exact (h z.2).elim, z.2⟩)]
theorem Ms_congr {n : Nat} {m m' : Nat → Int} (h : ∀ i, i < n → m i = m' i) : Ms n m = Ms n m' := by
  unfold Ms
  exact List.map_congr_left fun i hi => by rw [h i (List.mem_range.mp hi)]
end WW

/-! ### rows of texts, compared -/
namespace OQ
open PySem L2 PySem.Spec PyProof.Rows
def Td (ls : List WW.Wd) : List PyData := ls.map fun l => .str (WW.S l)
theorem Td_all {K : PySem.W.Frag} {H : Hp} : ∀ ls : List WW.Wd, DpAll K H (WW.Ss ls) (Td ls)
  | [] => .nil
  | l :: ls => .cons (.str _) (Td_all ls)
theorem Td_lay : ∀ ls : List WW.Wd, (∀ l ∈ ls, WW.Lw l) → PyData.canLayAll0 (Td ls) = true ∧ PyData.depthAll (Td ls) = 0
  | [], _ => ⟨by rw [Td, List.map_nil, PyData.canLayAll0], by rw [Td, List.map_nil, PyData.depthAll]⟩
  | l :: ls, h => by
    obtain ⟨h1, h2⟩ := Td_lay ls fun x m => h x (List.mem_cons_of_mem _ m)
    have hl := h l (List.mem_cons_self ..)
    have e : Td (l :: ls) = .str (WW.S l) :: Td ls := rfl
    rw [e, PyData.canLayAll0, PyData.canLay0, PyData.depthAll, PyData.depth, h1, h2]
    refine ⟨?_, rfl⟩
    rw [Bool.and_true]
    show (WW.S l).cps.all (· < 0x110000) = true
    have : ∀ c ∈ l, c < 0x110000 := fun c m => by have := hl c m; unfold WW.Lt at this; omega
    simpa [WW.S] using this
theorem Td_shaped (ls : List WW.Wd) (h : ∀ l ∈ ls, WW.Lw l) : SeqAt.shaped (.list (Td ls)) = true ∧ SeqAt.shaped (.tuple (Td ls)) = true := by
  obtain ⟨h1, h2⟩ := Td_lay ls h
  constructor <;> (unfold SeqAt.shaped; rw [PyData.canLay0, PyData.depth, h1, h2]; rfl)
theorem Td_eqv : ∀ ls ms : List WW.Wd, PyData.eqvAll (Td ls) (Td ms) = decide (ls = ms)
  | [], [] => by rw [Td, List.map_nil, PyData.eqvAll]; rfl
  | [], m :: ms => by rw [Td, Td, List.map_nil, List.map_cons, PyData.eqvAll]; rfl
  | l :: ls, [] => by rw [Td, Td, List.map_nil, List.map_cons, PyData.eqvAll]; rfl
  | l :: ls, m :: ms => by
    have e1 : Td (l :: ls) = .str (WW.S l) :: Td ls := rfl
    have e2 : Td (m :: ms) = .str (WW.S m) :: Td ms := rfl
    rw [e1, e2, PyData.eqvAll, PyData.eqv, Td_eqv ls ms, Bool.eq_iff_iff]
    simp only [Bool.and_eq_true, beq_iff_eq, decide_eq_true_eq, List.cons.injEq, WW.S_inj]
theorem d_neSs {K : PySem.W.Frag} {H : Hp} {Q : VK} {a b : Addr} {ls ms : List WW.Wd} (ha : SqL K H a (WW.Ss ls)) (hb : SqL K H b (WW.Ss ms)) (la : ∀ l ∈ ls, WW.Lw l) (lb : ∀ l ∈ ms, WW.Lw l) (k : Q (.bl (!decide (ls = ms))) H) : rNeD K (.ref a) (.ref b) H Q :=
  ⟨_, _, .lst ha (Td_all ls), .lst hb (Td_all ms), (Td_shaped ls la).1, (Td_shaped ms lb).1, by rw [PyData.eqv, Td_eqv]; exact k⟩
theorem d_eqSs {K : PySem.W.Frag} {H : Hp} {Q : VK} {a b : Addr} {ls ms : List WW.Wd} (ha : SqL K H a (WW.Ss ls)) (hb : SqL K H b (WW.Ss ms)) (la : ∀ l ∈ ls, WW.Lw l) (lb : ∀ l ∈ ms, WW.Lw l) (k : Q (.bl (decide (ls = ms))) H) : rEqD K (.ref a) (.ref b) H Q :=
  ⟨_, _, .lst ha (Td_all ls), .lst hb (Td_all ms), (Td_shaped ls la).1, (Td_shaped ms lb).1, by rw [PyData.eqv, Td_eqv]; exact k⟩
theorem d_eqSsT {K : PySem.W.Frag} {H : Hp} {Q : VK} {a b : Addr} {ls ms : List WW.Wd} (ha : SqT K H a (WW.Ss ls)) (hb : SqT K H b (WW.Ss ms)) (la : ∀ l ∈ ls, WW.Lw l) (lb : ∀ l ∈ ms, WW.Lw l) (k : Q (.bl (decide (ls = ms))) H) : rEqD K (.ref a) (.ref b) H Q :=
  ⟨_, _, .tup ha (Td_all ls), .tup hb (Td_all ms), (Td_shaped ls la).2, (Td_shaped ms lb).2, by rw [PyData.eqv, Td_eqv]; exact k⟩
theorem d_neSsT {K : PySem.W.Frag} {H : Hp} {Q : VK} {a b : Addr} {ls ms : List WW.Wd} (ha : SqT K H a (WW.Ss ls)) (hb : SqT K H b (WW.Ss ms)) (la : ∀ l ∈ ls, WW.Lw l) (lb : ∀ l ∈ ms, WW.Lw l) (k : Q (.bl (!decide (ls = ms))) H) : rNeD K (.ref a) (.ref b) H Q :=
  ⟨_, _, .tup ha (Td_all ls), .tup hb (Td_all ms), (Td_shaped ls la).2, (Td_shaped ms lb).2, by rw [PyData.eqv, Td_eqv]; exact k⟩
end OQ

/-! ### a piece found in a word -/
namespace WW
open PySem L2
theorem Hit.of_sub {W w : Wd} {i : Nat} : Builtin.Str.subAt (S W) (S w) i = true ↔ Hit W i w := by
  rw [StrLaws.subAt_eq, beq_iff_eq, S_cps, S_cps, S_len]
  unfold Hit piece
  rw [Nat.add_sub_cancel_left]
theorem occ_full (s sub : Str) (hi : Nat) : ∀ (l : List Nat) (a f : Nat), (forIn l (#[a], f) (StrLaws.occBody s sub hi 1)).run.fst = #[a]
  | [], a, f => rfl
  | x :: l, a, f => by
    rw [List.forIn_cons]
    unfold StrLaws.occBody
    rw [if_neg (by intro h; have := h.1.1.1; simp at this)]
    exact occ_full s sub hi l a f
theorem occ_first (s sub : Str) (hi : Nat) : ∀ (n lo free : Nat), free ≤ lo →
    (∃ i, lo ≤ i ∧ i < lo + n ∧ i + sub.length ≤ hi ∧ Builtin.Str.subAt s sub i = true ∧ (∀ j, lo ≤ j → j < i → ¬ (j + sub.length ≤ hi ∧ Builtin.Str.subAt s sub j = true)) ∧ (forIn (List.range' lo n) ((#[] : Array Nat), free) (StrLaws.occBody s sub hi 1)).run.fst = #[i]) ∨
    ((∀ j, lo ≤ j → j < lo + n → ¬ (j + sub.length ≤ hi ∧ Builtin.Str.subAt s sub j = true)) ∧ (forIn (List.range' lo n) ((#[] : Array Nat), free) (StrLaws.occBody s sub hi 1)).run.fst = #[])
  | 0, lo, free, _ => .inr ⟨fun j h1 h2 => by omega, rfl⟩
  | n + 1, lo, free, hf => by
    rw [List.range'_succ, List.forIn_cons]
    by_cases hc : lo + sub.length ≤ hi ∧ Builtin.Str.subAt s sub lo = true
    · refine .inl ⟨lo, Nat.le_refl _, by omega, hc.1, hc.2, fun j h1 h2 => by omega, ?_⟩
      have c1 : (((#[] : Array Nat), free).fst.size < 1 ∧ ((#[] : Array Nat), free).snd ≤ lo) ∧ lo + sub.length ≤ hi := ⟨⟨by simp, hf⟩, hc.1⟩
      have e : StrLaws.occBody s sub hi 1 lo ((#[] : Array Nat), free) = pure (ForInStep.yield (#[lo], lo + sub.length)) := by
        unfold StrLaws.occBody
        rw [if_pos ⟨c1, hc.2⟩]
        rfl
      rw [e]
      exact occ_full s sub hi _ lo _
    · have e : StrLaws.occBody s sub hi 1 lo ((#[] : Array Nat), free) = pure (ForInStep.yield ((#[] : Array Nat), free)) := by
        unfold StrLaws.occBody
        rw [if_neg (fun h => hc ⟨h.1.2, h.2⟩)]
      rw [e]
      rcases occ_first s sub hi n (lo + 1) free (by omega) with ⟨i, h1, h2, h3, h4, h5, h6⟩ | ⟨h1, h2⟩
      · refine .inl ⟨i, by omega, by omega, h3, h4, fun j j1 j2 => ?_, h6⟩
        by_cases c : j = lo
        · subst c; exact hc
        · exact h5 j (by omega) j2
      · refine .inr ⟨fun j j1 j2 => ?_, h2⟩
        by_cases c : j = lo
        · subst c; exact hc
        · exact h1 j (by omega) (by omega)
/-- what a search for w from spot lo on tells: the next spot where it stands, or -1 -/
def Nx (W w : Wd) (lo : Nat) (v : Int) : Prop := (∃ i : Nat, v = i ∧ lo ≤ i ∧ Hit W i w ∧ ∀ j, lo ≤ j → j < i → ¬ Hit W j w) ∨ (v = -1 ∧ ∀ j, lo ≤ j → ¬ Hit W j w)
theorem occ_nx {W w : Wd} {lo : Nat} (n : w ≠ []) : Nx W w lo (match Builtin.Str.occurrences (S W) (S w) lo (S W).length 1 with | i :: _ => (i : Int) | [] => -1) := by
  rw [StrLaws.occ_eq]
  rcases occ_first (S W) (S w) (S W).length ((S W).length + 1 - lo) lo lo (Nat.le_refl _) with ⟨i, h1, h2, h3, h4, h5, h6⟩ | ⟨h1, h2⟩
  · rw [h6]
    refine .inl ⟨i, rfl, h1, Hit.of_sub.mp h4, fun j j1 j2 z => h5 j j1 j2 ⟨?_, Hit.of_sub.mpr z⟩⟩
    rw [S_len, S_len]; exact z.bound n
  · rw [h2]
    refine .inr ⟨rfl, fun j j1 z => ?_⟩
    have b := z.bound n
    have l0 : 0 < w.length := List.length_pos_iff.mpr n
    refine h1 j j1 ?_ ⟨by rw [S_len, S_len]; exact b, Hit.of_sub.mpr z⟩
    rw [S_len]; omega
theorem find_nx {W w : Wd} (n : w ≠ []) : Nx W w 0 (Txt.find (S W) (S w)) := occ_nx n
theorem find3_nx {W w : Wd} {lo : Nat} {i : Int} (n : w ≠ []) (e : i = lo) : Nx W w lo (Txt.find3 (S W) (S w) i) := by
  subst e
  have e : PySem.fromIndex (S W).length (lo : Int) = lo := by
    unfold PySem.fromIndex
    split <;> omega
  have h := occ_nx (W := W) (w := w) (lo := lo) n
  unfold Txt.find3
  rw [e]
  exact h
/-! the links, as they are found piece by piece -/
/-- those found ahead of spot low with the piece kk -/
def LkG (ws : List Wd) (W : Wd) (kk low : Nat) (i j : Nat) : Prop := ∃ l k w, ws[k]? = some w ∧ Hit W l w ∧ (k < kk ∨ (k = kk ∧ l < low)) ∧ ((i = l ∧ j = l + w.length) ∨ (j = l ∧ i = l + w.length))
theorem LkG.zero {ws : List Wd} {W : Wd} {i j : Nat} : ¬ LkG ws W 0 0 i j := by
  rintro ⟨l, k, w, _, _, c, _⟩
  omega
theorem LkG.skip {ws : List Wd} {W w : Wd} {kk lo hi : Nat} (hk : ws[kk]? = some w) (le : lo ≤ hi) (n : ∀ j, lo ≤ j → j < hi → ¬ Hit W j w) (i j : Nat) : LkG ws W kk hi i j ↔ LkG ws W kk lo i j := by
  refine ⟨fun ⟨l, k, v, h1, h2, c, h3⟩ => ⟨l, k, v, h1, h2, ?_, h3⟩, fun ⟨l, k, v, h1, h2, c, h3⟩ => ⟨l, k, v, h1, h2, by omega, h3⟩⟩
  rcases c with c | ⟨rfl, c⟩
  · exact .inl c
  · rw [hk] at h1
    cases h1
    refine .inr ⟨rfl, ?_⟩
    apply Nat.lt_of_not_le
    intro z
    exact n l z c h2
theorem LkG.next {ws : List Wd} {W w : Wd} {kk lo i j : Nat} (hk : ws[kk]? = some w) (n : ∀ j, lo ≤ j → ¬ Hit W j w) : LkG ws W (kk + 1) 0 i j ↔ LkG ws W kk lo i j := by
  refine ⟨fun ⟨l, k, v, h1, h2, c, h3⟩ => ⟨l, k, v, h1, h2, ?_, h3⟩, fun ⟨l, k, v, h1, h2, c, h3⟩ => ⟨l, k, v, h1, h2, by omega, h3⟩⟩
  by_cases e : k = kk
  · subst e
    rw [hk] at h1
    cases h1
    refine .inr ⟨rfl, ?_⟩
    apply Nat.lt_of_not_le
    intro z
    exact n l z h2
  · omega
theorem LkG.all {ws : List Wd} {W : Wd} {i j : Nat} : LkG ws W ws.length 0 i j ↔ Link ws W i j := by
  constructor
  · rintro ⟨l, k, w, h1, h2, c, h3⟩
    refine ⟨w, List.mem_of_getElem? h1, ?_⟩
    rcases h3 with ⟨rfl, e⟩ | ⟨rfl, e⟩
    · exact .inl ⟨h2, e⟩
    · exact .inr ⟨h2, e⟩
  · rintro ⟨w, m, h⟩
    obtain ⟨k, hk⟩ := List.getElem?_of_mem m
    have kl := (List.getElem?_eq_some_iff.mp hk).1
    rcases h with ⟨h, e⟩ | ⟨h, e⟩
    · exact ⟨i, k, w, hk, h, .inl kl, .inl ⟨rfl, e⟩⟩
    · exact ⟨j, k, w, hk, h, .inl kl, .inr ⟨rfl, e⟩⟩
theorem LkG.hit {ws : List Wd} {W : Wd} {low kk : Nat} {w : Wd} (hk : ws[kk]? = some w) (h : Hit W low w) (i j : Nat) : LkG ws W kk (low + 1) i j ↔ addE (LkG ws W kk low) low (low + w.length) i j := by
  constructor
  · rintro ⟨l, k, v, h1, h2, c, h3⟩
    by_cases e : l = low ∧ k = kk
    · obtain ⟨rfl, rfl⟩ := e
      rw [hk] at h1
      cases h1
      rcases h3 with ⟨rfl, rfl⟩ | ⟨rfl, rfl⟩
      · exact .inr (.inl ⟨rfl, rfl⟩)
      · exact .inr (.inr ⟨rfl, rfl⟩)
    · exact .inl ⟨l, k, v, h1, h2, by omega, h3⟩
  · rintro (⟨l, k, v, h1, h2, c, h3⟩ | h3)
    · exact ⟨l, k, v, h1, h2, by omega, h3⟩
    · refine ⟨low, kk, w, hk, h, by omega, ?_⟩
      rcases h3 with ⟨rfl, rfl⟩ | ⟨rfl, rfl⟩
      · exact .inl ⟨rfl, rfl⟩
      · exact .inr ⟨rfl, rfl⟩
theorem LkG.new {ws : List Wd} {W : Wd} {low kk : Nat} {w : Wd} (nd : ws.Nodup) (n : ∀ w ∈ ws, w ≠ []) (hk : ws[kk]? = some w) (h : Hit W low w) : ¬ LkG ws W kk low low (low + w.length) ∧ ¬ LkG ws W kk low (low + w.length) low := by
  have l0 : 0 < w.length := List.length_pos_iff.mpr (n w (List.mem_of_getElem? hk))
  have key : ∀ l k v, ws[k]? = some v → Hit W l v → (k < kk ∨ (k = kk ∧ l < low)) → l = low → v.length = w.length → False := by
    rintro l k v h1 h2 c rfl e
    have e2 : v = w := by
      unfold Hit at h2 h
      rw [← h2, ← h, e]
    subst e2
    have := (List.getElem?_inj (List.getElem?_eq_some_iff.mp h1).1 nd).mp (h1.trans hk.symm)
    omega
  refine ⟨fun ⟨l, k, v, h1, h2, c, h3⟩ => ?_, fun ⟨l, k, v, h1, h2, c, h3⟩ => ?_⟩ <;>
  · have l1 : 0 < v.length := List.length_pos_iff.mpr (n v (List.mem_of_getElem? h1))
    exact key l k v h1 h2 c (by omega) (by omega)
theorem LkG.le {ws : List Wd} {W : Wd} {low kk i j : Nat} (n : ∀ w ∈ ws, w ≠ []) (h : LkG ws W low kk i j) : i ≤ W.length ∧ j ≤ W.length := by
  obtain ⟨l, k, w, h1, h2, c, h3⟩ := h
  have := h2.bound (n w (List.mem_of_getElem? h1))
  omega
/-- rows of links, of pieces that may be alike -/
structure LkJ (rows : Nat → List Nat) (F : Nat → Nat → Prop) (u : Prop) (m : Nat) : Prop where
  mem : ∀ i j, j ∈ rows i ↔ F i j
  nd : u → ∀ i, (rows i).Nodup
  len : ∀ i, (rows i).length ≤ m
theorem push2 (rows : Nat → List Nat) {a b : Nat} (ne : a ≠ b) (i : Nat) : push (push rows a b) b a i = if i = a then rows i ++ [b] else if i = b then rows i ++ [a] else rows i := by
  unfold push
  by_cases c : i = a
  · subst c; rw [if_neg ne, if_pos rfl, if_pos rfl]
  · simp only [if_neg c]
theorem LkJ.add {rows : Nat → List Nat} {F : Nat → Nat → Prop} {u : Prop} {m a b : Nat} (h : LkJ rows F u m) (ne : a ≠ b) (n1 : u → ¬ F a b) (n2 : u → ¬ F b a) : LkJ (push (push rows a b) b a) (addE F a b) u (m + 1) := by
  refine ⟨fun i j => ?_, fun hu => ?_, fun i => ?_⟩
  · rw [push2 rows ne]
    split
    · rename_i c
      subst c
      rw [List.mem_append, h.mem, List.mem_singleton]
      unfold addE
      constructor
      · rintro (z | z)
        · exact .inl z
        · exact .inr (.inl ⟨rfl, z⟩)
      · rintro (z | ⟨_, z⟩ | ⟨_, z⟩)
        · exact .inl z
        · exact .inr z
        · exact (ne z).elim
    · rename_i c
      split
      · rename_i d
        subst d
        rw [List.mem_append, h.mem, List.mem_singleton]
        unfold addE
        constructor
        · rintro (z | z)
          · exact .inl z
          · exact .inr (.inr ⟨z, rfl⟩)
        · rintro (z | ⟨z, _⟩ | ⟨z, _⟩)
          · exact .inl z
          · exact (c z).elim
          · exact .inr z
      · rename_i d
        rw [h.mem]
        unfold addE
        constructor
        · exact .inl
        · rintro (z | ⟨z, _⟩ | ⟨_, z⟩)
          · exact z
          · exact (c z).elim
          · exact (d z).elim
  · exact (LkI.add ⟨h.mem, h.nd hu⟩ ne (n1 hu) (n2 hu)).nd
  · rw [push2 rows ne]
    have := h.len i
    split
    · rw [List.length_append, List.length_singleton]; omega
    · split
      · rw [List.length_append, List.length_singleton]; omega
      · omega
theorem LkJ.iff {rows : Nat → List Nat} {F G : Nat → Nat → Prop} {u : Prop} {m n : Nat} (h : LkJ rows F u m) (e : ∀ i j, G i j ↔ F i j) (le : m ≤ n) : LkJ rows G u n := ⟨fun i j => (h.mem i j).trans (e i j).symm, h.nd, fun i => Nat.le_trans (h.len i) le⟩
theorem LkJ.zero {ws : List Wd} {W : Wd} {u : Prop} : LkJ (fun _ => []) (LkG ws W 0 0) u 0 := ⟨fun i j => ⟨fun z => (nomatch z), fun z => (LkG.zero z).elim⟩, fun _ _ => List.nodup_nil, fun _ => Nat.le_refl _⟩
/-- ints sorted, as numbers, some alike -/
theorem sorted_natsG {r : List Nat} {ns : List Int} (p : ns.Perm (r.map fun (j : Nat) => (j : Int))) (s : ns.Pairwise (· ≤ ·)) : ∃ q : List Nat, ns = q.map (fun (j : Nat) => (j : Int)) ∧ q.Perm r ∧ q.Pairwise (· ≤ ·) := by
  refine ⟨ns.map Int.toNat, ?_, ?_, ?_⟩
  · rw [List.map_map]
    have : ∀ z ∈ ns, ((fun (j : Nat) => (j : Int)) ∘ Int.toNat) z = z := fun z m => by
      obtain ⟨j, _, rfl⟩ := List.mem_map.mp (p.mem_iff.mp m)
      simp
    rw [List.map_congr_left this, List.map_id']
  · have := p.map Int.toNat
    rw [List.map_map] at this
    have e : (Int.toNat ∘ fun (j : Nat) => (j : Int)) = id := by funext x; simp
    rw [e, List.map_id] at this
    exact this
  · rw [List.pairwise_map]
    exact s.imp fun h => by omega
theorem strict_of {q : List Nat} (s : q.Pairwise (· ≤ ·)) (nd : q.Nodup) : q.Pairwise (· < ·) := by
  have := s.and nd
  exact this.imp fun ⟨h1, h2⟩ => by omega
end WW
namespace RD
open PySem L2
theorem tyS {K : PySem.W.Frag} {H : Hp} {z : Str} : tyV K "str" (.str z) H := rfl
def rFind1 : V → List V → Hp → VK → Prop := fun x xs H Q => ∃ a b, x = .str a ∧ xs = [.str b] ∧ Q (.int (Txt.find a b)) H
def rFind2 : V → List V → Hp → VK → Prop := fun x xs H Q => ∃ (a b : Str) (i : Int), x = .str a ∧ xs = [.str b, .int i] ∧ Q (.int (Txt.find3 a b i)) H
theorem m_find1 {X : Cx} : MtR X "str.find" rFind1 := mt_find
theorem m_find2 {X : Cx} : MtR X "str.find" rFind2 := mt_find3
theorem d_find1 {W w : WW.Wd} {H : Hp} {Q : VK} (n : w ≠ []) (h : ∀ v, WW.Nx W w 0 v → Q (.int v) H) : rFind1 (.str (WW.S W)) [.str (WW.S w)] H Q := ⟨_, _, rfl, rfl, h _ (WW.find_nx n)⟩
theorem d_find2 {W w : WW.Wd} {lo : Nat} {i : Int} {H : Hp} {Q : VK} (n : w ≠ []) (e : i = lo) (h : ∀ v, WW.Nx W w lo v → Q (.int v) H) : rFind2 (.str (WW.S W)) [.str (WW.S w), .int i] H Q := ⟨_, _, _, rfl, rfl, h _ (WW.find3_nx n e)⟩
end RD
namespace OQ
open PySem L2
theorem d_seqVar2 {K : PySem.W.Frag} {σ : L2.St} {H0 H : Hp} {R : It → Hp → Prop} {n : Nat} {a : Addr} {xs : List V} (e : σ[n]? = some (some (.ref a))) (h : SeqAt K H0 a xs) (s : Same H0 H)
    (k : ∀ J G, Walk J xs.length G (YAt xs) → (∀ H', Same H0 H' → G H') → R J H) : iOr (iList K (tVar n)) (iTup K (tVar n)) σ H R := by
  rcases h with h | h
  · exact .inl ⟨_, e, a, rfl, ⟨xs, s.seq h⟩, k _ _ walk_list fun H' s => s.seq h⟩
  · exact .inr ⟨_, e, a, rfl, ⟨xs, sqT_same h s⟩, k _ _ walk_tup fun H' s => sqT_same h s⟩
end OQ

/-! ### texts joined -/
namespace WW
open PySem L2
theorem joinL_nil : ∀ ls : List (List Nat), TL.joinL [] ls = ls.flatten
  | [] => rfl
  | [p] => by simp [TL.joinL]
  | p :: q :: r => by
    rw [TL.joinL, joinL_nil (q :: r)]
    simp
theorem S_join (ls : List Wd) : Txt.join (S []) (ls.map S) = S ls.flatten := by
  have h := TL.tl_join (S []) (ls.map S)
  have e : TL.tl (S []) = [] := rfl
  rw [e, joinL_nil, List.map_map] at h
  have e2 : ls.map (TL.tl ∘ S) = ls := by
    have : ∀ l ∈ ls, (TL.tl ∘ S) l = l := fun l _ => rfl
    rw [List.map_congr_left this, List.map_id']
  rw [e2] at h
  rw [StrLaws.glued_eq_join (S []) (ls.map S) |> fun z => (show Txt.join (S []) (ls.map S) = Str.join (S []) (ls.map S) from z), S_of (Str.join _ _)]
  exact congrArg S h
/-- words of one letter -/
def Ones (ls : List Wd) : Prop := ∀ l ∈ ls, ∃ c, l = [c] ∧ Lt c
theorem Ones.flat : ∀ {ls : List Wd}, Ones ls → ls.flatten.length = ls.length ∧ Lw ls.flatten
  | [], _ => ⟨rfl, Lw.nil⟩
  | l :: ls, h => by
    obtain ⟨c, rfl, hc⟩ := h l (List.mem_cons_self ..)
    obtain ⟨h1, h2⟩ := Ones.flat (ls := ls) fun x m => h x (List.mem_cons_of_mem _ m)
    rw [List.flatten_cons]
    exact ⟨by rw [List.length_append, h1]; simp; omega, (Lw.one hc).app h2⟩
theorem Ones.snoc {ls : List Wd} {c : Nat} (h : Ones ls) (k : Lt c) : Ones (ls ++ [[c]]) := fun l m => (List.mem_append.mp m).elim (h l) fun z => ⟨c, List.mem_singleton.mp z, k⟩
theorem Ones.sum : ∀ {ls : List Wd}, Ones ls → ((ls.map S).map (·.length)).sum = ls.length
  | [], _ => rfl
  | l :: ls, h => by
    obtain ⟨c, rfl, hc⟩ := h l (List.mem_cons_self ..)
    have ih := Ones.sum (ls := ls) fun x m => h x (List.mem_cons_of_mem _ m)
    rw [List.map_cons, List.map_cons, List.sum_cons, ih, S_len]; simp; omega
end WW
namespace RD
open PySem L2
theorem d_m1 {r : V → List V → Hp → VK → Prop} {to te : TE} {σ : L2.St} {H : Hp} {Q : VK} (h : to σ H fun x H1 => (∃ a, x = .str a) ∧ te σ H1 fun y H2 => r x [y] H2 Q) : tM1 r to te σ H Q := h
end RD

/-! ### ways, compared as tuples -/
namespace WW
open PySem L2
def Ii (p : List Nat) : List Int := p.map fun (j : Nat) => (j : Int)
def lx (p q : List Nat) : Bool := HT.lexLt (Ii p) (Ii q)
theorem lx_cons (x y : Nat) (p q : List Nat) : lx (x :: p) (y :: q) = if x = y then lx p q else decide (x < y) := by
  unfold lx Ii
  rw [List.map_cons, List.map_cons, HT.lexLt_cons]
  by_cases c : x = y
  · subst c; rw [if_pos rfl, if_pos rfl]
  · rw [if_neg (by omega), if_neg c, decide_eq_decide]; omega
theorem lx_irr : ∀ p : List Nat, lx p p = false
  | [] => rfl
  | x :: p => by rw [lx_cons, if_pos rfl]; exact lx_irr p
theorem lx_tri : ∀ {p q : List Nat}, p.length = q.length → lx p q = false → lx q p = false → p = q
  | [], [], _, _, _ => rfl
  | [], _ :: _, h, _, _ => by simp at h
  | _ :: _, [], h, _, _ => by simp at h
  | x :: p, y :: q, h, a, b => by
    rw [lx_cons] at a b
    by_cases c : x = y
    · subst c
      rw [if_pos rfl] at a b
      rw [lx_tri (by simpa using h) a b]
    · rw [if_neg c] at a
      rw [if_neg (fun z => c z.symm)] at b
      simp at a b
      omega
theorem lx_asym : ∀ {p q : List Nat}, lx p q = true → lx q p = false
  | [], [], _ => rfl
  | [], _ :: _, _ => rfl
  | _ :: _, [], h => by cases h
  | x :: p, y :: q, h => by
    rw [lx_cons] at h ⊢
    by_cases c : x = y
    · subst c
      rw [if_pos rfl] at h ⊢
      exact lx_asym h
    · rw [if_neg c] at h
      rw [if_neg (fun z => c z.symm)]
      simp at h ⊢
      omega
/-- not less goes on -/
theorem lx_le : ∀ {p q r : List Nat}, p.length = q.length → q.length = r.length → lx q p = false → lx r q = false → lx r p = false
  | [], [], [], _, _, _, _ => rfl
  | [], _ :: _, _, h, _, _, _ => by simp at h
  | _ :: _, [], _, h, _, _, _ => by simp at h
  | _, [], _ :: _, _, h, _, _ => by simp at h
  | _, _ :: _, [], _, h, _, _ => by simp at h
  | x :: p, y :: q, z :: r, h, k, a, b => by
    rw [lx_cons] at a b ⊢
    by_cases c : y = x
    · subst c
      rw [if_pos rfl] at a
      by_cases d : z = y
      · subst d
        rw [if_pos rfl] at b ⊢
        exact lx_le (by simpa using h) (by simpa using k) a b
      · rw [if_neg d] at b ⊢
        exact b
    · rw [if_neg c] at a
      by_cases d : z = y
      · subst d
        rw [if_neg c]; exact a
      · rw [if_neg d] at b
        simp at a b
        rw [if_neg (by omega)]
        simp; omega
/-- the last numbers put on -/
theorem lx_app : ∀ {p q : List Nat} (s t : List Nat), p.length = q.length → lx (p ++ s) (q ++ t) = if p = q then lx s t else lx p q
  | [], [], s, t, _ => by rw [if_pos rfl]; rfl
  | [], _ :: _, _, _, h => by simp at h
  | _ :: _, [], _, _, h => by simp at h
  | x :: p, y :: q, s, t, h => by
    rw [List.cons_append, List.cons_append, lx_cons, lx_cons, lx_app s t (by simpa using h)]
    by_cases c : x = y
    · subst c
      rw [if_pos rfl, if_pos rfl]
      by_cases d : p = q
      · subst d; rw [if_pos rfl, if_pos rfl]
      · rw [if_neg d, if_neg (fun z => d (List.cons.inj z).2)]
    · rw [if_neg c, if_neg c, if_neg (fun z => c (List.cons.inj z).1)]
/-- p goes from g to v by r steps -/
def IsP (E : Nat → Nat → Prop) (g : Nat) : Nat → List Nat → Nat → Prop
  | 0, p, v => p = [g] ∧ v = g
  | r + 1, p, v => ∃ q u, IsP E g r q u ∧ E u v ∧ p = q ++ [v]
theorem IsP.len {E : Nat → Nat → Prop} {g : Nat} : ∀ {r : Nat} {p : List Nat} {v : Nat}, IsP E g r p v → p.length = r + 1
  | 0, _, _, ⟨rfl, _⟩ => rfl
  | r + 1, _, _, ⟨q, u, h, _, rfl⟩ => by rw [List.length_append, h.len]; rfl
theorem IsP.wk {E : Nat → Nat → Prop} {g : Nat} : ∀ {r : Nat} {p : List Nat} {v : Nat}, IsP E g r p v → Wk E g r v
  | 0, _, _, ⟨_, rfl⟩ => rfl
  | r + 1, _, _, ⟨q, u, h, e, _⟩ => ⟨u, h.wk, e⟩
theorem Wk.isP {E : Nat → Nat → Prop} {g : Nat} : ∀ {r v : Nat}, Wk E g r v → ∃ p, IsP E g r p v
  | 0, _, rfl => ⟨[g], rfl, rfl⟩
  | r + 1, v, ⟨u, h, e⟩ => let ⟨q, k⟩ := h.isP; ⟨q ++ [v], q, u, k, e, rfl⟩
theorem IsP.last {E : Nat → Nat → Prop} {g r : Nat} {p : List Nat} {v : Nat} (h : IsP E g r p v) : p[r]? = some v := by
  cases r with
  | zero => obtain ⟨rfl, rfl⟩ := h; rfl
  | succ r =>
    obtain ⟨q, u, k, e, rfl⟩ := h
    rw [List.getElem?_append_right (by rw [k.len]; omega), k.len, Nat.sub_self]; rfl
/-- what stands at place i of a way -/
theorem IsP.part {E : Nat → Nat → Prop} {g : Nat} : ∀ {r : Nat} {p : List Nat} {v : Nat}, IsP E g r p v → ∀ i, i ≤ r → ∃ u, p[i]? = some u ∧ IsP E g i (p.take (i + 1)) u ∧ Wk E u (r - i) v
  | 0, _, _, ⟨rfl, rfl⟩, 0, _ => ⟨g, rfl, ⟨rfl, rfl⟩, rfl⟩
  | r + 1, _, v, ⟨q, u, h, e, rfl⟩, i, hi => by
    have ql := h.len
    by_cases c : i = r + 1
    · subst c
      refine ⟨v, by rw [List.getElem?_append_right (by omega), ql, Nat.sub_self]; rfl, ?_, by rw [Nat.sub_self]; rfl⟩
      rw [List.take_of_length_le (by rw [List.length_append, ql]; exact Nat.le_refl _)]
      exact ⟨q, u, h, e, rfl⟩
    · obtain ⟨x, e1, e2, e3⟩ := h.part i (by omega)
      refine ⟨x, by rw [List.getElem?_append_left (by omega)]; exact e1, ?_, ?_⟩
      · rw [List.take_append_of_le_length (by omega)]; exact e2
      · rw [show r + 1 - i = (r - i) + 1 from by omega]
        exact ⟨u, e3, e⟩
theorem Wk.symm {E : Nat → Nat → Prop} (sy : ∀ u v, E u v → E v u) {u v r : Nat} (h : Wk E u r v) : Wk E v r u := by
  induction r generalizing v with
  | zero => cases (show v = u from h); rfl
  | succ r ih =>
    obtain ⟨x, k, e⟩ := h
    have := (show Wk E v 1 x from ⟨v, rfl, sy _ _ e⟩).trans (ih k)
    rwa [Nat.add_comm] at this
/-- the least way to v by r steps -/
def Lst (E : Nat → Nat → Prop) (g r : Nat) (p : List Nat) (v : Nat) : Prop := IsP E g r p v ∧ ∀ q, IsP E g r q v → lx q p = false
theorem Lst.uniq {E : Nat → Nat → Prop} {g r v : Nat} {p q : List Nat} (a : Lst E g r p v) (b : Lst E g r q v) : p = q :=
  lx_tri (a.1.len.trans b.1.len.symm) (b.2 _ a.1) (a.2 _ b.1)
/-- the least of the ways over the nearer ones -/
theorem Lst.step {E : Nat → Nat → Prop} {g r v : Nat} {L : Nat → List Nat} (hv : Ds E g (r + 1) v) (hL : ∀ u, Ds E g r u → Lst E g r (L u) u) {m : List Nat} (hm : ∃ u, Ds E g r u ∧ E u v ∧ m = L u ++ [v])
    (least : ∀ u, Ds E g r u → E u v → lx (L u ++ [v]) m = false) : Lst E g (r + 1) m v := by
  obtain ⟨u, du, e, rfl⟩ := hm
  refine ⟨⟨L u, u, (hL u du).1, e, rfl⟩, ?_⟩
  rintro _ ⟨q, x, hq, ex, rfl⟩
  have dx : Ds E g r x := ⟨hq.wk, fun s hs k => hv.2 (s + 1) (by omega) ⟨x, k, ex⟩⟩
  have l1 := (hL u du).1.len
  have l2 := (hL x dx).1.len
  have l3 := hq.len
  have h1 : lx (q ++ [v]) (L x ++ [v]) = false := by
    rw [lx_app _ _ (l3.trans l2.symm)]
    split
    · exact lx_irr _
    · exact (hL x dx).2 q hq
  exact lx_le (by simp [l1, l2]) (by simp [l2, l3]) (least x dx ex) h1
/-- a way from 0 that goes nearer to n, the least so far -/
structure Gr (E : Nat → Nat → Prop) (n k0 i : Nat) (p : List Nat) (v : Nat) : Prop where
  isp : IsP E 0 i p v
  d : Ds E n (k0 - i) v
  le : i ≤ k0
  least : ∀ q, IsP E 0 k0 q n → lx (q.take (i + 1)) p = false
theorem Gr.zero {E : Nat → Nat → Prop} {n k0 : Nat} (h : Ds E n k0 0) : Gr E n k0 0 [0] 0 :=
  ⟨⟨rfl, rfl⟩, h, Nat.zero_le _, fun q hq => by
    obtain ⟨u, e1, e2, _⟩ := hq.part 0 (Nat.zero_le _)
    rw [e2.1]; exact lx_irr _⟩
theorem Gr.end_ {E : Nat → Nat → Prop} {n k0 i : Nat} {p : List Nat} (h : Gr E n k0 i p n) : i = k0 := by
  have z : Ds E n 0 n := ⟨rfl, fun _ k => absurd k (Nat.not_lt_zero _)⟩
  have := h.d.uniq z
  have := h.le
  omega
theorem Gr.lst {E : Nat → Nat → Prop} {n k0 i : Nat} {p : List Nat} (h : Gr E n k0 i p n) : Lst E 0 k0 p n := by
  have e := h.end_
  subst e
  exact ⟨h.isp, fun q hq => by have := h.least q hq; rwa [List.take_of_length_le (by rw [hq.len]; exact Nat.le_refl _)] at this⟩
theorem Gr.lt {E : Nat → Nat → Prop} {n k0 i v : Nat} {p : List Nat} (h : Gr E n k0 i p v) (c : v ≠ n) : i < k0 := by
  have := h.le
  rcases Nat.lt_or_ge i k0 with z | z
  · exact z
  · have d := h.d
    rw [show k0 - i = 0 from by omega] at d
    exact (c d.1).elim
theorem Gr.some {E : Nat → Nat → Prop} (sy : ∀ u v, E u v → E v u) {n k0 i v : Nat} {p : List Nat} (h : Gr E n k0 i p v) (c : v ≠ n) : ∃ x d, E v x ∧ Ds E n d x ∧ d < k0 - i := by
  have := h.lt c
  have d := h.d
  rw [show k0 - i = (k0 - i - 1) + 1 from by omega] at d
  obtain ⟨x, dx, e⟩ := d.back
  exact ⟨x, _, sy _ _ e, dx, by omega⟩
theorem Gr.step {E : Nat → Nat → Prop} (sy : ∀ u v, E u v → E v u) {n k0 i v x d : Nat} {p : List Nat} (h : Gr E n k0 i p v) (c : v ≠ n) (e : E v x) (dx : Ds E n d x) (dl : d < k0 - i) (least : ∀ y d', E v y → Ds E n d' y → d' < k0 - i → x ≤ y) :
    Gr E n k0 (i + 1) (p ++ [x]) x := by
  have il := h.lt c
  have dd : d = k0 - (i + 1) := by
    rcases Nat.lt_or_ge d (k0 - (i + 1)) with z | z
    · exact ((h.d.2 (d + 1) (by omega)) ⟨x, dx.1, sy _ _ e⟩).elim
    · omega
  subst dd
  refine ⟨⟨p, v, h.isp, e, rfl⟩, dx, il, fun q hq => ?_⟩
  obtain ⟨u, u1, u2, _⟩ := hq.part i (by omega)
  obtain ⟨y, y1, y2, y3⟩ := hq.part (i + 1) il
  obtain ⟨q', u', hq', ey, eq⟩ := y2
  have ql := hq.len
  have e1 : q' = q.take (i + 1) := by
    have := congrArg (List.take (i + 1)) eq
    rw [List.take_take, show min (i + 1) (i + 1 + 1) = i + 1 from by omega, List.take_append_of_le_length (by rw [hq'.len]; exact Nat.le_refl _)] at this
    rw [List.take_of_length_le (l := q') (by rw [hq'.len]; exact Nat.le_refl _)] at this
    exact this.symm
  rw [eq, lx_app _ _ (by rw [hq'.len, h.isp.len])]
  by_cases c2 : q' = p
  · rw [if_pos c2]
    subst c2
    have uv : u' = v := by
      have a := hq'.last
      have b := h.isp.last
      rw [a] at b
      exact Option.some.inj b
    subst uv
    obtain ⟨d', dy⟩ := Rc.ds ⟨_, y3.symm sy⟩
    have : d' ≤ k0 - (i + 1) := by
      rcases Nat.lt_or_ge (k0 - (i + 1)) d' with z | z
      · exact (dy.2 _ z (y3.symm sy)).elim
      · exact z
    have := least y d' ey dy (by omega)
    rw [lx_cons]
    split
    · rfl
    · simp; omega
  · rw [if_neg c2, e1]
    exact h.least q hq
theorem Ds.symm {E : Nat → Nat → Prop} (sy : ∀ u v, E u v → E v u) {u v r : Nat} (h : Ds E u r v) : Ds E v r u := ⟨h.1.symm sy, fun s hs k => h.2 s hs (k.symm sy)⟩
open Classical in
theorem Ds.bound {E : Nat → Nat → Prop} {g k v N : Nat} (h : Ds E g k v) (lt : ∀ s u, Ds E g s u → u < N) : k + 1 ≤ N := by
  let f : Nat → Nat := fun s => if h : ∃ u, Ds E g s u then choose h else 0
  have hf : ∀ s, s ≤ k → Ds E g s (f s) := fun s hs => by
    have e := h.down s hs
    show Ds E g s (if h : ∃ u, Ds E g s u then choose h else 0)
    rw [dif_pos e]
    exact choose_spec e
  have := nodup_len N ((List.range (k + 1)).map f) (by
    unfold List.Nodup
    rw [List.pairwise_map]
    refine List.Pairwise.imp_of_mem ?_ List.nodup_range
    intro a b ma mb ne z
    rw [List.mem_range] at ma mb
    have da := hf a (by omega)
    have db := hf b (by omega)
    rw [z] at da
    exact ne (da.uniq db)) (fun x m => by
      obtain ⟨s, ms, rfl⟩ := List.mem_map.mp m
      rw [List.mem_range] at ms
      exact lt _ _ (hf s (by omega)))
  rwa [List.length_map, List.length_range] at this
end WW

/-! ### heapq: heappush, heappop over a list of tuples of ints -/
namespace HQ
open PySem PyProof.Rows
theorem entry_sift : entryFor table "_heapq.heapify.sift" = some Builtin.«_heapq.heapify.sift» := entryFor_of_tree (by kernel_rfl)
theorem entry_push : entryFor table "_heapq.heappush" = some Builtin.«_heapq.heappush» := entryFor_of_tree (by kernel_rfl)
theorem entry_pop : entryFor table "_heapq.heappop" = some Builtin.«_heapq.heappop» := entryFor_of_tree (by kernel_rfl)
theorem plain_sift : plainId "_heapq.heapify.sift" = true := by decide +kernel
theorem plain_push : plainId "_heapq.heappush" = true := by decide +kernel
theorem plain_pop : plainId "_heapq.heappop" = true := by decide +kernel
/-! the mathematics of a heap -/
section
variable {α : Type} {lt : α → α → Bool}
/-- a heap -/
def HL (lt : α → α → Bool) (vs : List α) : Prop := ∀ (c : Nat) (u v : α), 0 < c → vs[c]? = some u → vs[(c - 1) / 2]? = some v → lt u v = false
/-- a heap, but for the edge above q -/
structure HU (lt : α → α → Bool) (vs : List α) (q : Nat) : Prop where
  a : ∀ (c : Nat) (u v : α), 0 < c → c ≠ q → vs[c]? = some u → vs[(c - 1) / 2]? = some v → lt u v = false
  b : ∀ (c : Nat) (u v : α), 0 < c → (c - 1) / 2 = q → 0 < q → vs[c]? = some u → vs[(q - 1) / 2]? = some v → lt u v = false
/-- a heap, but for the edges at q -/
structure HX (lt : α → α → Bool) (vs : List α) (q : Nat) : Prop where
  a : ∀ (c : Nat) (u v : α), 0 < c → c ≠ q → (c - 1) / 2 ≠ q → vs[c]? = some u → vs[(c - 1) / 2]? = some v → lt u v = false
  b : ∀ (c : Nat) (u v : α), 0 < c → (c - 1) / 2 = q → 0 < q → vs[c]? = some u → vs[(q - 1) / 2]? = some v → lt u v = false
def sw (vs : List α) (i j : Nat) (x y : α) : List α := (vs.set i y).set j x
theorem sw_get {vs : List α} {i j : Nat} {x y : α} (hi : vs[i]? = some x) (hj : vs[j]? = some y) (c : Nat) : (sw vs i j x y)[c]? = if c = j then some x else if c = i then some y else vs[c]? := by
  have li := (List.getElem?_eq_some_iff.mp hi).1
  have lj := (List.getElem?_eq_some_iff.mp hj).1
  unfold sw
  rw [List.getElem?_set, List.getElem?_set, List.length_set]
  by_cases e1 : c = j
  · subst e1
    rw [if_pos rfl, if_pos lj, if_pos rfl]
  · rw [if_neg (fun z : j = c => e1 z.symm), if_neg e1]
    by_cases e2 : c = i
    · subst e2
      rw [if_pos rfl, if_pos li, if_pos rfl]
    · rw [if_neg (fun z : i = c => e2 z.symm), if_neg e2]
theorem sw_perm {vs : List α} {i j : Nat} {x y : α} (hi : vs[i]? = some x) (hj : vs[j]? = some y) : (sw vs i j x y).Perm vs := by
  obtain ⟨li, ei⟩ := List.getElem?_eq_some_iff.mp hi
  obtain ⟨lj, ej⟩ := List.getElem?_eq_some_iff.mp hj
  subst ei ej
  exact List.set_set_perm li lj
theorem sw_len {vs : List α} {i j : Nat} {x y : α} : (sw vs i j x y).length = vs.length := by unfold sw; rw [List.length_set, List.length_set]
variable (O : SrtO.Swo lt)
include O
/-- going up -/
theorem HU.up {vs : List α} {q : Nat} {x y : α} (h : HU lt vs q) (q0 : 0 < q) (hx : vs[q]? = some x) (hy : vs[(q - 1) / 2]? = some y) (l : lt x y = true) : HU lt (sw vs ((q - 1) / 2) q y x) ((q - 1) / 2) := by
  have g := sw_get hy hx
  have pq : (q - 1) / 2 < q := by omega
  constructor
  · intro c u v c0 cn e1 e2
    rw [g] at e1 e2
    by_cases c1 : c = q
    · subst c1
      rw [if_pos rfl] at e1
      rw [if_neg (by omega), if_pos rfl] at e2
      cases e1; cases e2
      exact O.asym _ _ l
    · rw [if_neg c1, if_neg cn] at e1
      by_cases c2 : (c - 1) / 2 = q
      · rw [if_pos c2] at e2
        cases e2
        exact h.b c u y c0 c2 q0 e1 hy
      · rw [if_neg c2] at e2
        by_cases c3 : (c - 1) / 2 = (q - 1) / 2
        · rw [if_pos c3] at e2
          cases e2
          have := h.a c u y c0 c1 e1 (by rw [c3]; exact hy)
          exact O.tr _ _ _ (O.asym _ _ l) this
        · rw [if_neg c3] at e2
          exact h.a c u v c0 c1 e1 e2
  · intro c u v c0 cp p0 e1 e2
    rw [g] at e1 e2
    rw [if_neg (by omega), if_neg (by omega)] at e2
    have hp := h.a ((q - 1) / 2) y v p0 (by omega) hy e2
    by_cases c1 : c = q
    · rw [if_pos c1] at e1
      cases e1
      exact hp
    · rw [if_neg c1, if_neg (by omega)] at e1
      exact O.tr _ _ _ hp (h.a c u y c0 c1 e1 (by rw [cp]; exact hy))
omit O in
theorem HU.stop {vs : List α} {q : Nat} (h : HU lt vs q) (k : 0 < q → ∀ x y, vs[q]? = some x → vs[(q - 1) / 2]? = some y → lt x y = false) : HL lt vs := fun c u v c0 e1 e2 => by
  by_cases cq : c = q
  · subst cq; exact k c0 u v e1 e2
  · exact h.a c u v c0 cq e1 e2
omit O in
theorem HX.leaf {vs : List α} {q : Nat} (h : HX lt vs q) (k : vs.length ≤ 2 * q + 1) : HU lt vs q := ⟨fun c u v c0 cq e1 e2 => h.a c u v c0 cq (fun z => by have := (List.getElem?_eq_some_iff.mp e1).1; omega) e1 e2, h.b⟩
omit O in
/-- going down -/
theorem HX.down {vs : List α} {q c : Nat} {x y : α} (h : HX lt vs q) (c0 : 0 < c) (cq : (c - 1) / 2 = q) (hx : vs[q]? = some x) (hy : vs[c]? = some y) (m : ∀ d u, 0 < d → (d - 1) / 2 = q → vs[d]? = some u → lt u y = false) : HX lt (sw vs c q y x) c := by
  have g := sw_get hy hx
  have qc : q < c := by omega
  constructor
  · intro d u v d0 dc dp e1 e2
    rw [g] at e1 e2
    by_cases d1 : d = q
    · subst d1
      rw [if_pos rfl] at e1
      cases e1
      rw [if_neg (by omega), if_neg (by omega)] at e2
      exact h.b c y v c0 cq d0 hy e2
    · rw [if_neg d1, if_neg dc] at e1
      by_cases d2 : (d - 1) / 2 = q
      · rw [if_pos d2] at e2
        cases e2
        exact m d u d0 d2 e1
      · rw [if_neg d2, if_neg dp] at e2
        exact h.a d u v d0 d1 d2 e1 e2
  · intro d u v d0 dp c0' e1 e2
    rw [g] at e1 e2
    rw [if_neg (by omega), if_neg (by omega)] at e1
    rw [if_pos cq] at e2
    cases e2
    exact h.a d u y d0 (by omega) (by omega) e1 (by rw [dp]; exact hy)
/-- the first is the least -/
theorem HL.least {vs : List α} (h : HL lt vs) {x : α} (hx : vs[0]? = some x) : ∀ (c : Nat) (u : α), vs[c]? = some u → lt u x = false := by
  intro c
  induction c using Nat.strongRecOn with
  | ind c ih =>
    intro u e
    by_cases c0 : c = 0
    · subst c0
      rw [hx] at e; cases e
      cases z : lt x x with
      | false => rfl
      | true => have := O.asym _ _ z; rw [z] at this; cases this
    · have lc := (List.getElem?_eq_some_iff.mp e).1
      have e2 : vs[(c - 1) / 2]? = some vs[(c - 1) / 2] := List.getElem?_eq_getElem (by omega)
      exact O.tr _ _ _ (ih ((c - 1) / 2) (by omega) _ e2) (h c u _ (by omega) e e2)
end
/-! the code -/
section
variable {prog : Program} {w : World} {A : Around} {s : Shared} {lt : Value → Value → Bool}
/-- in any heap that has what stands in h beside a, items of vs are compared as lt tells -/
def CmpAt (prog : Program) (w : World) (A : Around) (s : Shared) (a : Addr) (lt : Value → Value → Bool) (vs : List Value) : Prop :=
  ∀ h' : Heap, (∀ b o, b ≠ a → s.heap.get? b = some o → h'.get? b = some o) → ∀ u v, u ∈ vs → v ∈ vs → ∀ (Q E : Value → Shared → Prop), Q (.bool (lt u v)) { s with heap := h' } → wpAny (model prog w) A.in1 (richCompare .Lt u v) Q E { s with heap := h' }
theorem CmpAt.step {a : Addr} {vs ws : List Value} (c : CmpAt prog w A s a lt vs) (m : ∀ v, v ∈ ws → v ∈ vs) {h1 : Heap} (k : ∀ b o, b ≠ a → s.heap.get? b = some o → h1.get? b = some o) : CmpAt prog w A { s with heap := h1 } a lt ws :=
  fun h' k' u v hu hv Q E q => c h' (fun b o n e => k' b o n (k b o n e)) u v (m u hu) (m v hv) Q E q
theorem wp_at {M : Model} {E : Value → Shared → Prop} {Q : Value → Shared → Prop} {xs : Array Value} {i : Nat} {u : Value} {bad : Sem Value} (e : xs[i]? = some u) (h : wpAny M A (pure u) Q E s) : wpAny M A (match xs[i]? with | some v => pure v | none => bad) Q E s := by
  rw [e]; exact h
theorem sift_up (O : SrtO.Swo lt) {a : Addr} {result : Value} {R : Result → Shared → Prop} : ∀ (pos : Nat) (vs : List Value) (n : Nat) (s : Shared), s.heap.get? a = some (seqObj "list" vs.toArray n) → vs.length ≤ sizeLine → pos < vs.length → HU lt vs pos → CmpAt prog w A s a lt vs →
    (∀ (ws : List Value) (m : Nat) (h' : Heap), h'.get? a = some (seqObj "list" ws.toArray m) → (∀ b o, b ≠ a → s.heap.get? b = some o → h'.get? b = some o) → ws.Perm vs → HL lt ws → R (.ok (.ret result)) { s with heap := h' }) →
    codeAny (model prog w) A (.builtin "_heapq.heapify.sift" ⟨[.ref a, .bool false, .bool false, rawInt pos, rawInt 0, result, rawInt (-1)], []⟩) R s := by
  intro pos
  induction pos using Nat.strongRecOn with
  | ind pos ih =>
    intro vs n s ho hz hp hU hc k
    refine codeAny_builtin entry_sift ?_
    rw [Around.under_plainId plain_sift _]
    refine wpAny_bind ?_
    refine wpAny_bind (wpAny_bind (wpAny_load ho ?_))
    refine wpAny_pure ?_
    refine wpAny_pure ?_
    dsimp only
    rw [if_neg Bool.false_ne_true]
    have stop : HL lt vs → wpAny (model prog w) A.in1 (ret result) (fun fin s' => match fin with | Fin.done f => R (Except.ok f) s' | Fin.again c' => c'.quiet = true ∧ codeAny (model prog w) A c' R s') (fun e s' => R (Except.error e) s') s := fun hl => by
      refine wpAny_pure ?_
      exact k vs n s.heap ho (fun _ _ _ e => e) (List.Perm.refl _) hl
    by_cases p0 : pos = 0
    · subst p0
      rw [if_neg (by decide)]
      rw [if_pos (by decide)]
      exact stop (hU.stop fun z => absurd z (Nat.lt_irrefl _))
    · have lp : (pos - 1) / 2 < vs.length := by omega
      have ex : vs[pos]? = some vs[pos] := List.getElem?_eq_getElem hp
      have ey : vs[(pos - 1) / 2]? = some vs[(pos - 1) / 2] := List.getElem?_eq_getElem lp
      generalize vs[pos] = x at ex
      generalize vs[(pos - 1) / 2] = y at ey
      rw [if_pos (by show pos > 0; omega)]
      have at1 : ∀ {i : Nat} {u : Value}, vs[i]? = some u → vs.toArray[i]? = some u := fun e => by rw [List.getElem?_toArray]; exact e
      have mx : x ∈ vs := List.mem_of_getElem? ex
      have my : y ∈ vs := List.mem_of_getElem? ey
      refine wpAny_bind (wp_at (at1 ex) (wpAny_pure ?_))
      refine wpAny_bind (wp_at (at1 ey) (wpAny_pure ?_))
      rw [if_neg Bool.false_ne_true]
      refine wpAny_bind (wpAny_bind (wpAny_holding (wpAny_bind (hc s.heap (fun _ _ _ e => e) x y mx my _ _ ?_))))
      refine wpAny_truthy_bool ?_
      refine wpAny_bind (wpAny_bind (wpAny_bind (wpAny_load ho ?_)))
      refine wpAny_pure ?_
      refine wpAny_pure ?_
      dsimp only
      rw [if_neg (by simp)]
      refine wpAny_pure ?_
      cases hl : lt x y with
      | false =>
        rw [if_neg Bool.false_ne_true, if_pos (by decide)]
        refine stop (hU.stop fun _ x' y' e1 e2 => ?_)
        rw [ex] at e1; rw [ey] at e2
        cases e1; cases e2
        exact hl
      | true =>
        rw [if_pos rfl]
        refine wpAny_bind ?_
        refine wpAny_bind (wpAny_bind (wpAny_bind (wpAny_load ho ?_)))
        refine wpAny_pure ?_
        refine wpAny_pure ?_
        refine wpAny_bind (wp_at (at1 ey) (wpAny_pure ?_))
        refine wpAny_bind (wp_at (at1 ex) (wpAny_pure ?_))
        refine wpAny_updateSeq ho rfl ?_ (by rw [List.size_toArray]; exact hz) ?_
        · have ho2 := get?_update_seq ho (fun xs => (xs.setIfInBounds ((pos - 1) / 2) x).setIfInBounds pos y)
          refine wpAny_pure ⟨plainId_quiet plain_sift _, ?_⟩
          rw [List.setIfInBounds_toArray, List.setIfInBounds_toArray] at ho2
          have kp : ∀ b o, b ≠ a → s.heap.get? b = some o → (s.heap.update a (Obj.mapSeq fun xs => (xs.setIfInBounds ((pos - 1) / 2) x).setIfInBounds pos y)).get? b = some o := fun b o n e => (Heap.get?_update_ne _ _ _ _ n).trans e
          have pm : (sw vs ((pos - 1) / 2) pos y x).Perm vs := sw_perm ey ex
          refine ih ((pos - 1) / 2) (by omega) (sw vs ((pos - 1) / 2) pos y x) _ _ ho2 (by rw [sw_len]; exact hz) (by rw [sw_len]; exact lp) (hU.up O (by omega) ex ey hl) (hc.step (fun v m => pm.mem_iff.mp m) kp) ?_
          intro ws m h' e1 e2 e3 e4
          exact k ws m h' e1 (fun b o n e => e2 b o n (kp b o n e)) (e3.trans pm) e4
        · show ((vs.toArray.setIfInBounds ((pos - 1) / 2) x).setIfInBounds pos y).size ≤ sizeLine + 1
          rw [Array.size_setIfInBounds, Array.size_setIfInBounds, List.size_toArray]
          omega
theorem sift_down (O : SrtO.Swo lt) {a : Addr} {result : Value} {R : Result → Shared → Prop} : ∀ (k pos : Nat) (vs : List Value) (n : Nat) (s : Shared), vs.length - pos = k → s.heap.get? a = some (seqObj "list" vs.toArray n) → vs.length ≤ sizeLine → pos < vs.length → HX lt vs pos → CmpAt prog w A s a lt vs →
    (∀ (ws : List Value) (m : Nat) (h' : Heap), h'.get? a = some (seqObj "list" ws.toArray m) → (∀ b o, b ≠ a → s.heap.get? b = some o → h'.get? b = some o) → ws.Perm vs → HL lt ws → R (.ok (.ret result)) { s with heap := h' }) →
    codeAny (model prog w) A (.builtin "_heapq.heapify.sift" ⟨[.ref a, .bool false, .bool true, rawInt pos, rawInt 0, result, rawInt (-1)], []⟩) R s := by
  intro k
  induction k using Nat.strongRecOn with
  | ind kk ih =>
    intro pos vs n s hkk ho hz hp hX hc k
    have at1 : ∀ {i : Nat} {u : Value}, vs[i]? = some u → vs.toArray[i]? = some u := fun e => by rw [List.getElem?_toArray]; exact e
    refine codeAny_builtin entry_sift ?_
    rw [Around.under_plainId plain_sift _]
    refine wpAny_bind ?_
    refine wpAny_bind (wpAny_bind (wpAny_load ho ?_))
    refine wpAny_pure ?_
    refine wpAny_pure ?_
    dsimp only
    rw [if_pos rfl]
    by_cases lf : pos < vs.length / 2
    · rw [if_pos (by rw [List.size_toArray]; exact lf)]
      have ex : vs[pos]? = some vs[pos] := List.getElem?_eq_getElem hp
      generalize vs[pos] = x at ex
      have mx : x ∈ vs := List.mem_of_getElem? ex
      have go : ∀ (c : Nat) (y : Value), 0 < c → (c - 1) / 2 = pos → vs[c]? = some y → (∀ d u, 0 < d → (d - 1) / 2 = pos → vs[d]? = some u → lt u y = false) →
          codeAny (model prog w) A (.builtin "_heapq.heapify.sift" ⟨[.ref a, .bool false, .bool true, rawInt c, rawInt 0, result, rawInt (-1)], []⟩) R { s with heap := s.heap.update a (Obj.mapSeq fun xs => (xs.setIfInBounds c x).setIfInBounds pos y) } := by
        intro c y c0 cp ey m
        have lc := (List.getElem?_eq_some_iff.mp ey).1
        have ho2 := get?_update_seq ho (fun xs => (xs.setIfInBounds c x).setIfInBounds pos y)
        rw [List.setIfInBounds_toArray, List.setIfInBounds_toArray] at ho2
        have kp : ∀ b o, b ≠ a → s.heap.get? b = some o → (s.heap.update a (Obj.mapSeq fun xs => (xs.setIfInBounds c x).setIfInBounds pos y)).get? b = some o := fun b o n e => (Heap.get?_update_ne _ _ _ _ n).trans e
        have pm : (sw vs c pos y x).Perm vs := sw_perm ey ex
        refine ih (vs.length - c) (by omega) c (sw vs c pos y x) _ _ (by rw [sw_len]) ho2 (by rw [sw_len]; exact hz) (by rw [sw_len]; exact lc) (hX.down c0 cp ex ey m) (hc.step (fun v m => pm.mem_iff.mp m) kp) ?_
        intro ws m h' e1 e2 e3 e4
        exact k ws m h' e1 (fun b o n e => e2 b o n (kp b o n e)) (e3.trans pm) e4
      have ll : 2 * pos + 1 < vs.length := by omega
      have el : vs[2 * pos + 1]? = some vs[2 * pos + 1] := List.getElem?_eq_getElem ll
      generalize vs[2 * pos + 1] = l at el
      have ml : l ∈ vs := List.mem_of_getElem? el
      have szb : ∀ (c : Nat) (y : Value), ((vs.toArray.setIfInBounds c x).setIfInBounds pos y).size ≤ sizeLine + 1 := fun c y => by
        rw [Array.size_setIfInBounds, Array.size_setIfInBounds, List.size_toArray]
        omega
      by_cases rr : 2 * pos + 1 + 1 < vs.length
      · rw [if_pos (by rw [List.size_toArray]; exact rr)]
        have er : vs[2 * pos + 1 + 1]? = some vs[2 * pos + 1 + 1] := List.getElem?_eq_getElem rr
        generalize vs[2 * pos + 1 + 1] = r at er
        have mr : r ∈ vs := List.mem_of_getElem? er
        refine wpAny_bind (wp_at (at1 el) (wpAny_pure ?_))
        refine wpAny_bind (wp_at (at1 er) (wpAny_pure ?_))
        rw [if_neg Bool.false_ne_true]
        refine wpAny_bind (wpAny_bind (wpAny_holding (wpAny_bind (hc s.heap (fun _ _ _ e => e) l r ml mr _ _ ?_))))
        refine wpAny_truthy_bool ?_
        refine wpAny_bind (wpAny_bind (wpAny_bind (wpAny_load ho ?_)))
        refine wpAny_pure ?_
        refine wpAny_pure ?_
        dsimp only
        rw [if_neg (by simp)]
        refine wpAny_pure ?_
        have two : ∀ d, 0 < d → (d - 1) / 2 = pos → d = 2 * pos + 1 ∨ d = 2 * pos + 1 + 1 := fun d d0 e => by omega
        cases hl : lt l r with
        | true =>
          rw [if_neg (by simp)]
          refine wpAny_bind ?_
          refine wpAny_bind (wpAny_bind (wpAny_bind (wpAny_load ho ?_)))
          refine wpAny_pure ?_
          refine wpAny_pure ?_
          refine wpAny_bind (wp_at (at1 el) (wpAny_pure ?_))
          refine wpAny_bind (wp_at (at1 ex) (wpAny_pure ?_))
          refine wpAny_updateSeq ho rfl ?_ (by rw [List.size_toArray]; exact hz) (szb _ _)
          refine wpAny_pure ⟨plainId_quiet plain_sift _, ?_⟩
          refine go (2 * pos + 1) l (by omega) (by omega) el fun d u d0 dp e => ?_
          rcases two d d0 dp with rfl | rfl
          · rw [el] at e; cases e
            cases z : lt l l with
            | false => rfl
            | true => have := O.asym _ _ z; rw [z] at this; cases this
          · rw [er] at e; cases e
            exact O.asym _ _ hl
        | false =>
          rw [if_pos (by simp)]
          refine wpAny_bind ?_
          refine wpAny_bind (wpAny_bind (wpAny_bind (wpAny_load ho ?_)))
          refine wpAny_pure ?_
          refine wpAny_pure ?_
          refine wpAny_bind (wp_at (at1 er) (wpAny_pure ?_))
          refine wpAny_bind (wp_at (at1 ex) (wpAny_pure ?_))
          refine wpAny_updateSeq ho rfl ?_ (by rw [List.size_toArray]; exact hz) (szb _ _)
          refine wpAny_pure ⟨plainId_quiet plain_sift _, ?_⟩
          refine go (2 * pos + 1 + 1) r (by omega) (by omega) er fun d u d0 dp e => ?_
          rcases two d d0 dp with rfl | rfl
          · rw [el] at e; cases e
            exact hl
          · rw [er] at e; cases e
            cases z : lt r r with
            | false => rfl
            | true => have := O.asym _ _ z; rw [z] at this; cases this
      · rw [if_neg (by rw [List.size_toArray]; exact rr)]
        refine wpAny_bind ?_
        refine wpAny_bind (wpAny_bind (wpAny_bind (wpAny_load ho ?_)))
        refine wpAny_pure ?_
        refine wpAny_pure ?_
        refine wpAny_bind (wp_at (at1 el) (wpAny_pure ?_))
        refine wpAny_bind (wp_at (at1 ex) (wpAny_pure ?_))
        refine wpAny_updateSeq ho rfl ?_ (by rw [List.size_toArray]; exact hz) (szb _ _)
        refine wpAny_pure ⟨plainId_quiet plain_sift _, ?_⟩
        refine go (2 * pos + 1) l (by omega) (by omega) el fun d u d0 dp e => ?_
        have ld := (List.getElem?_eq_some_iff.mp e).1
        have : d = 2 * pos + 1 := by omega
        subst this
        rw [el] at e; cases e
        cases z : lt l l with
        | false => rfl
        | true => have := O.asym _ _ z; rw [z] at this; cases this
    · rw [if_neg (by rw [List.size_toArray]; exact lf)]
      refine wpAny_pure ⟨plainId_quiet plain_sift _, ?_⟩
      exact sift_up O pos vs n s ho hz hp (hX.leaf (by omega)) hc k
theorem kind_push : builtinKind "_heapq.heappush" = none := by kernel_rfl
theorem args_push (a b : Value) : argsOk "_heapq.heappush" ⟨[a, b], []⟩ := by unfold argsOk; kernel_rfl
theorem kind_pop : builtinKind "_heapq.heappop" = none := by kernel_rfl
theorem args_pop (a : Value) : argsOk "_heapq.heappop" ⟨[a], []⟩ := by unfold argsOk; kernel_rfl
theorem call_fn {id : String} {B : Builtin} {args : List Value} {E Q : Value → Shared → Prop} (kind : builtinKind id = none) (plain : plainId id = true) (entry : entryFor table id = some B) (ok : argsOk id ⟨args, []⟩)
    (g : wpAny (model prog w) A.in1 (B ⟨args, []⟩) (fun fin s' => match fin with | .done f => wants Q E (.ok f) s' | .again c' => c'.quiet = true ∧ codeAny (model prog w) A c' (wants Q E) s') (fun e s' => wants Q E (.error e) s') s) :
    wpAny (model prog w) A (call (.builtin id) args) Q E s := by
  refine wpAny_call (codeAny_call_builtin plain entry ?_)
  simp only [checkBuiltinCall, kind]
  cases hsig : Manifest.signature? id with
  | none => exact wpAny_pure g
  | some sig =>
    simp only [argsOk, hsig] at ok
    have h2 : Bind.checkArgs id sig ⟨args, []⟩ = pure () := ok
    show wpAny _ _ (Bind.checkArgs id sig ⟨args, []⟩) _ _ s
    rw [h2]; exact wpAny_pure g
theorem push_run (O : SrtO.Swo lt) {a : Addr} {y : Value} {vs : List Value} {n : Nat} {Q E : Value → Shared → Prop} (ho : s.heap.get? a = some (seqObj "list" vs.toArray n)) (hz : vs.length + 1 ≤ sizeLine) (hl : HL lt vs) (hc : CmpAt prog w A s a lt (vs ++ [y]))
    (k : ∀ (ws : List Value) (m : Nat) (h' : Heap), h'.get? a = some (seqObj "list" ws.toArray m) → (∀ b o, b ≠ a → s.heap.get? b = some o → h'.get? b = some o) → ws.Perm (vs ++ [y]) → HL lt ws → Q .none { s with heap := h' }) :
    wpAny (model prog w) A (call (.builtin "_heapq.heappush") [.ref a, y]) Q E s := by
  refine call_fn kind_push plain_push entry_push (args_push _ _) ?_
  have ty : s.TypeIs (.ref a) "list" := ⟨_, ho, rfl⟩
  refine wpAny_bind (wpAny_bind (wpAny_pure ?_))
  refine wpAny_bind (wpAny_pure ?_)
  refine wpAny_bind (wpAny_bind (wpAny_isInstance ty PySem.AutoSeq1.sub_list_list ?_))
  refine wpAny_pure ?_
  refine wpAny_pure ?_
  refine wpAny_bind (wpAny_updateSeq ho rfl ?_ (by rw [List.size_toArray]; omega) (by rw [Array.size_push, List.size_toArray]; omega))
  have ho2 := get?_update_seq ho (fun xs => xs.push y)
  rw [List.push_toArray] at ho2
  refine wpAny_bind (wpAny_bind (wpAny_bind (wpAny_load ho2 ?_)))
  refine wpAny_pure ?_
  refine wpAny_pure ?_
  refine wpAny_pure ⟨plainId_quiet plain_sift _, ?_⟩
  have kp : ∀ b o, b ≠ a → s.heap.get? b = some o → (s.heap.update a (Obj.mapSeq fun xs => xs.push y)).get? b = some o := fun b o n e => (Heap.get?_update_ne _ _ _ _ n).trans e
  have ez : (vs ++ [y]).toArray.size - 1 = vs.length := by rw [List.size_toArray, List.length_append]; rfl
  show codeAny (model prog w) A (.builtin "_heapq.heapify.sift" ⟨[.ref a, .bool false, .bool false, rawInt (((vs ++ [y]).toArray.size - 1 : Nat) : Int), rawInt 0, .none, rawInt (-1)], []⟩) _ _
  rw [ez]
  refine sift_up O vs.length (vs ++ [y]) _ _ ho2 (by rw [List.length_append]; exact hz) (by rw [List.length_append]; exact Nat.lt_succ_self _) ?_ (hc.step (fun _ m => m) kp) ?_
  · constructor
    · intro c u v c0 cn e1 e2
      have lc := (List.getElem?_eq_some_iff.mp e1).1
      rw [List.length_append, List.length_singleton] at lc
      rw [List.getElem?_append_left (by omega)] at e1 e2
      exact hl c u v c0 e1 e2
    · intro c u v c0 cp q0 e1 e2
      have lc := (List.getElem?_eq_some_iff.mp e1).1
      rw [List.length_append, List.length_singleton] at lc
      omega
  · intro ws m h' e1 e2 e3 e4
    exact k ws m h' e1 (fun b o n e => e2 b o n (kp b o n e)) e3 e4
theorem pop_run (O : SrtO.Swo lt) {a : Addr} {x : Value} {vs : List Value} {n : Nat} {Q E : Value → Shared → Prop} (ho : s.heap.get? a = some (seqObj "list" (x :: vs).toArray n)) (hz : vs.length + 1 ≤ sizeLine) (hl : HL lt (x :: vs)) (hc : CmpAt prog w A s a lt (x :: vs))
    (k : ∀ (ws : List Value) (m : Nat) (h' : Heap), h'.get? a = some (seqObj "list" ws.toArray m) → (∀ b o, b ≠ a → s.heap.get? b = some o → h'.get? b = some o) → ws.Perm vs → HL lt ws → Q x { s with heap := h' }) :
    wpAny (model prog w) A (call (.builtin "_heapq.heappop") [.ref a]) Q E s := by
  refine call_fn kind_pop plain_pop entry_pop (args_pop _) ?_
  have ty : s.TypeIs (.ref a) "list" := ⟨_, ho, rfl⟩
  refine wpAny_bind (wpAny_bind (wpAny_pure ?_))
  refine wpAny_bind (wpAny_bind (wpAny_isInstance ty PySem.AutoSeq1.sub_list_list ?_))
  refine wpAny_pure ?_
  refine wpAny_pure ?_
  refine wpAny_bind (wpAny_bind (wpAny_bind (wpAny_load ho ?_)))
  refine wpAny_pure ?_
  refine wpAny_pure ?_
  obtain ⟨l, eb⟩ : ∃ l, (x :: vs).toArray.back? = some l := ⟨_, by rw [List.back?_toArray]; exact List.getLast?_eq_some_getLast (by simp)⟩
  rw [eb]
  dsimp only
  refine wpAny_bind (wpAny_updateSeq ho rfl ?_ (by rw [List.size_toArray]; exact hz) (by rw [Array.size_pop, List.size_toArray, List.length_cons]; omega))
  have ho2 := get?_update_seq ho (fun xs => xs.pop)
  rw [List.pop_toArray] at ho2
  have kp : ∀ b o, b ≠ a → s.heap.get? b = some o → (s.heap.update a (Obj.mapSeq fun xs => xs.pop)).get? b = some o := fun b o n e => (Heap.get?_update_ne _ _ _ _ n).trans e
  rw [List.back?_toArray] at eb
  have es : (x :: vs).toArray.size = vs.length + 1 := by rw [List.size_toArray]; rfl
  rw [es]
  by_cases v0 : vs = []
  · subst v0
    cases eb
    rw [if_pos (by rfl)]
    refine wpAny_pure ?_
    exact k [] _ _ ho2 kp (List.Perm.refl _) (fun c u v _ e => by simp at e)
  · have l0 : vs.length ≠ 0 := fun z => v0 (List.length_eq_zero_iff.mp z)
    rw [if_neg (by simpa using v0)]
    refine wpAny_bind (wpAny_pure ?_)
    refine wpAny_bind (wpAny_updateSeq ho2 rfl ?_ (by rw [List.size_toArray, List.length_dropLast, List.length_cons]; omega) (by rw [Array.size_setIfInBounds, List.size_toArray, List.length_dropLast, List.length_cons]; omega))
    have ho3 := get?_update_seq ho2 (fun xs => xs.setIfInBounds 0 l)
    rw [List.setIfInBounds_toArray] at ho3
    have kp2 : ∀ b o, b ≠ a → s.heap.get? b = some o → ((s.heap.update a (Obj.mapSeq fun xs => xs.pop)).update a (Obj.mapSeq fun xs => xs.setIfInBounds 0 l)).get? b = some o := fun b o n e => (Heap.get?_update_ne _ _ _ _ n).trans (kp b o n e)
    refine wpAny_pure ⟨plainId_quiet plain_sift _, ?_⟩
    -- the list that is sifted: the last item in the place of the first
    have ed : (x :: vs).dropLast.set 0 l = l :: vs.dropLast := by
      cases vs with
      | nil => exact absurd rfl v0
      | cons y r => rfl
    have el : vs.getLast? = some l := by
      cases vs with
      | nil => exact absurd rfl v0
      | cons y r => rw [List.getLast?_cons_cons] at eb; exact eb
    have ev : vs = vs.dropLast ++ [l] := by
      have e1 := List.getLast?_eq_some_getLast v0
      rw [el] at e1
      have e2 := List.dropLast_concat_getLast v0
      rw [← Option.some.inj e1] at e2
      exact e2.symm
    rw [ed] at ho3
    have pm : (l :: vs.dropLast).Perm vs := by
      refine List.Perm.trans ?_ (List.Perm.of_eq ev.symm)
      exact (List.perm_append_singleton l vs.dropLast).symm
    have ln : (l :: vs.dropLast).length = vs.length := pm.length_eq
    refine sift_down O _ 0 (l :: vs.dropLast) _ _ rfl ho3 (by rw [ln]; omega) (by rw [ln]; omega) ?_ (hc.step (fun v m => List.mem_cons_of_mem _ (pm.mem_iff.mp m)) kp2) ?_
    · refine ⟨fun c u v c0 cn cp e1 e2 => ?_, fun c u v c0 cp q0 => absurd q0 (Nat.lt_irrefl _)⟩
      have lc := (List.getElem?_eq_some_iff.mp e1).1
      rw [ln] at lc
      have tr : ∀ j, 0 < j → j < vs.length → (l :: vs.dropLast)[j]? = (x :: vs)[j]? := fun j j0 jl => by
        cases j with
        | zero => omega
        | succ j =>
          rw [List.getElem?_cons_succ, List.getElem?_cons_succ]
          conv => rhs; rw [ev]
          rw [List.getElem?_append_left (by rw [List.length_dropLast]; omega)]
      rw [tr c c0 lc] at e1
      rw [tr _ (by omega) (by omega)] at e2
      exact hl c u v c0 e1 e2
    · intro ws m h' e1 e2 e3 e4
      exact k ws m h' e1 (fun b o n e => e2 b o n (kp2 b o n e)) (e3.trans pm) e4
theorem lexLt_swo : SrtO.Swo HT.lexLt := by
  have asym : ∀ xs ys : List Int, HT.lexLt xs ys = true → HT.lexLt ys xs = false := by
    intro xs
    induction xs with
    | nil => intro ys h; cases ys <;> first | rfl | cases h
    | cons x xs ih =>
      intro ys h
      cases ys with
      | nil => cases h
      | cons y ys =>
        rw [HT.lexLt_cons] at h ⊢
        by_cases e : x = y
        · subst e
          rw [if_pos rfl] at h ⊢
          exact ih _ h
        · rw [if_neg e] at h
          rw [if_neg (fun z => e z.symm)]
          exact decide_eq_false (by have := of_decide_eq_true h; omega)
  refine ⟨asym, ?_⟩
  intro xs
  induction xs with
  | nil => intro ys zs h1 h2; cases zs with
    | nil => rfl
    | cons z zs => rfl
  | cons x xs ih =>
    intro ys zs h1 h2
    cases ys with
    | nil => cases h1
    | cons y ys =>
      cases zs with
      | nil => cases h2
      | cons z zs =>
        rw [HT.lexLt_cons] at h1 h2 ⊢
        by_cases e : y = x
        · subst e
          rw [if_pos rfl] at h1
          by_cases e2 : z = y
          · subst e2
            rw [if_pos rfl] at h2 ⊢
            exact ih _ _ h1 h2
          · rw [if_neg e2] at h2 ⊢
            exact h2
        · rw [if_neg e] at h1
          have a1 := of_decide_eq_false h1
          by_cases e2 : z = y
          · subst e2
            rw [if_neg e]
            exact h1
          · rw [if_neg e2] at h2
            have a2 := of_decide_eq_false h2
            rw [if_neg (by omega)]
            exact decide_eq_false (by omega)
end
end HQ
namespace OQ
open PySem L2 PySem.Spec PyProof.Rows
section
variable {X : Cx}
/-- x is a tuple of these ints -/
def KeyT (H : Hp) (x : V) (ns : List Int) : Prop := ∃ t, x = .ref t ∧ H t = some (.tup (ns.map V.int))
def rHPush : List V → Hp → VK → Prop := fun vs H Q => ∃ (a : Addr) (y : V) (xs : List V) (key : V → List Int), vs = [.ref a, y] ∧ H a = some (.lst xs) ∧ (∀ x ∈ xs, KeyT H x (key x)) ∧ KeyT H y (key y) ∧ HQ.HL (fun u v => HT.lexLt (key u) (key v)) xs ∧ xs.length + 1 ≤ sizeLine ∧
  ∀ zs : List V, zs.Perm (xs ++ [y]) → HQ.HL (fun u v => HT.lexLt (key u) (key v)) zs → Q .non (upd H a (.lst zs))
def rHPop : List V → Hp → VK → Prop := fun vs H Q => ∃ (a : Addr) (x : V) (xs : List V) (key : V → List Int), vs = [.ref a] ∧ H a = some (.lst (x :: xs)) ∧ (∀ u ∈ x :: xs, KeyT H u (key u)) ∧ HQ.HL (fun u v => HT.lexLt (key u) (key v)) (x :: xs) ∧
  ∀ zs : List V, zs.Perm xs → HQ.HL (fun u v => HT.lexLt (key u) (key v)) zs → Q x (upd H a (.lst zs))
theorem hl_map {key : V → List Int} {us : List Value} : HQ.HL (fun u v => HT.lexLt (key u) (key v)) (us.map backV) ↔ HQ.HL (fun u v => HT.lexLt (key (backV u)) (key (backV v))) us := by
  constructor
  · intro h c u v c0 e1 e2
    exact h c _ _ c0 (by rw [List.getElem?_map, e1]; rfl) (by rw [List.getElem?_map, e2]; rfl)
  · intro h c u v c0 e1 e2
    rw [List.getElem?_map] at e1 e2
    cases h1 : us[c]? with
    | none => rw [h1] at e1; cases e1
    | some u' =>
      cases h2 : us[(c - 1) / 2]? with
      | none => rw [h2] at e2; cases e2
      | some v' =>
        rw [h1] at e1; rw [h2] at e2
        cases e1; cases e2
        exact h c _ _ c0 h1 h2
theorem cmp_of {pins : List (Addr × Obj)} {σ : L2.St} {H : Hp} {s : Shared} {a : Addr} {xs : List V} {its : List Value} {key : V → List Int} (hu : X.A.units + 64 < cLine) (I : Inv X pins σ H s) (ha : ∀ t ns, H t = some (.tup ns) → t ≠ a) (hk : ∀ x ∈ xs, KeyT H x (key x)) (e1 : xs = its.map backV) (e2 : ∀ u ∈ its, ∃ t, u = Value.ref t) :
    HQ.CmpAt X.prog X.w X.A s a (fun u v => HT.lexLt (key (backV u)) (key (backV v))) its := by
  intro h' kp u v hu' hv' Q E q
  have at_ : ∀ u ∈ its, ∃ t items, u = .ref t ∧ IsTup h' t items ∧ IntsAre items.toList (key (backV u)) := by
    intro u hu
    obtain ⟨t, rfl⟩ := e2 u hu
    obtain ⟨t', e, ht⟩ := hk (backV (.ref t)) (by rw [e1]; exact List.mem_map.mpr ⟨_, hu, rfl⟩)
    cases e
    obtain ⟨_, its2, r2, o, ho, hc, n, hd⟩ := I.hok _ _ ht
    exact ⟨t, its2.toArray, rfl, ⟨o, kp t o (ha t _ ht) ho, hc, n, hd⟩, by simpa using r2.ints⟩
  obtain ⟨t, i1, rfl, t1, n1⟩ := at_ u hu'
  obtain ⟨b, i2, rfl, t2, n2⟩ := at_ v hv'
  exact HT.lt_tupInts t1 t2 n1 n2 (by show X.A.units + 1 < cLine; omega) q
theorem cr_hpush (hu : X.A.units + 64 < cLine) : CallR X (.builtin "_heapq.heappush") rHPush := by
  intro pins s σ H vs us Q I r h
  obtain ⟨a, y, xs, key, rfl, ha, hk, hy, hl, hz, q⟩ := h
  obtain ⟨v, rfl, r1⟩ : ∃ v, us = [.ref a, v] ∧ RelV y v := by
    cases r with
    | cons r0 r1 => cases r0; cases r1 with | cons r1 r2 => cases r2; exact ⟨_, rfl, r1⟩
  obtain ⟨ty, rfl, hty⟩ := id hy
  cases r1
  obtain ⟨hz', its, n, rv, hob⟩ := I.hok a _ ha
  obtain ⟨e1, e2⟩ := refs_back rv fun x m => by
    obtain ⟨t, e, _⟩ := hk x m
    exact ⟨t, e⟩
  have hta : ∀ t ns, H t = some (.tup ns) → t ≠ a := fun t ns e z => by subst z; rw [ha] at e; cases e
  have hkk : ∀ x ∈ xs ++ [V.ref ty], KeyT H x (key x) := fun x m => by
    rcases List.mem_append.mp m with m | m
    · exact hk x m
    · rw [List.mem_singleton.mp m]; exact hy
  have rlen := rv.length
  refine HQ.push_run (lt := fun u v => HT.lexLt (key (backV u)) (key (backV v))) ⟨fun x y => HQ.lexLt_swo.asym _ _, fun x y z => HQ.lexLt_swo.tr _ _ _⟩ hob (by rw [← rlen]; exact hz) (hl_map.mp (by rw [← e1]; exact hl)) (cmp_of hu I hta hkk (by rw [List.map_append, ← e1]; rfl) (fun u m => ?_)) ?_
  · rcases List.mem_append.mp m with m | m
    · exact e2 u m
    · exact ⟨ty, List.mem_singleton.mp m⟩
  · intro ws m h' g1 g2 g3 g4
    have ep : (ws.map backV).Perm (xs ++ [V.ref ty]) := by
      have := g3.map backV
      rw [List.map_append, ← e1] at this
      exact this
    have wr : ∀ u ∈ ws, ∃ t, u = Value.ref t := fun u hu => by
      rcases List.mem_append.mp (g3.mem_iff.mp hu) with m | m
      · exact e2 u m
      · exact ⟨ty, List.mem_singleton.mp m⟩
    have rw' : Vals (ws.map backV) ws := by
      clear g1 g3 g4 ep
      induction ws with
      | nil => exact .nil
      | cons u ws ih =>
        obtain ⟨t, rfl⟩ := wr u List.mem_cons_self
        exact .cons rfl (ih fun u hu => wr u (List.mem_cons_of_mem _ hu))
    refine ⟨.non, upd H a (.lst (ws.map backV)), I.write (e := a) (t' := s.toks) (by rw [ha]; trivial) (.inl rfl) (fun b u hb hu => g2 b u hb hu) ⟨_, g1⟩ ⟨?_, ws, m, rw', g1⟩, rfl, q _ ep (hl_map.mpr g4)⟩
    rw [ep.length_eq, List.length_append]
    exact hz
theorem cr_hpop (hu : X.A.units + 64 < cLine) : CallR X (.builtin "_heapq.heappop") rHPop := by
  intro pins s σ H vs us Q I r h
  obtain ⟨a, x, xs, key, rfl, ha, hk, hl, q⟩ := h
  rw [Vals.ref1 r]
  obtain ⟨hz, its, n, rv, hob⟩ := I.hok a _ ha
  obtain ⟨e1, e2⟩ := refs_back rv fun x m => by
    obtain ⟨t, e, _⟩ := hk x m
    exact ⟨t, e⟩
  have hta : ∀ t ns, H t = some (.tup ns) → t ≠ a := fun t ns e z => by subst z; rw [ha] at e; cases e
  cases its with
  | nil => cases e1
  | cons u us' =>
    obtain ⟨ex, exs⟩ := List.cons.inj e1
    have rlen := rv.length
    refine HQ.pop_run (lt := fun u v => HT.lexLt (key (backV u)) (key (backV v))) ⟨fun x y => HQ.lexLt_swo.asym _ _, fun x y z => HQ.lexLt_swo.tr _ _ _⟩ hob (by rw [List.length_cons, List.length_cons] at rlen; rw [List.length_cons] at hz; omega) (hl_map.mp (by rw [← e1]; exact hl)) (cmp_of hu I hta hk e1 e2) ?_
    intro ws m h' g1 g2 g3 g4
    have ep : (ws.map backV).Perm xs := by
      have := g3.map backV
      rw [← exs] at this
      exact this
    have wr : ∀ u ∈ ws, ∃ t, u = Value.ref t := fun v hv => e2 v (List.mem_cons_of_mem _ (g3.mem_iff.mp hv))
    have rw' : Vals (ws.map backV) ws := by
      clear g1 g3 g4 ep
      induction ws with
      | nil => exact .nil
      | cons u ws ih =>
        obtain ⟨t, rfl⟩ := wr u List.mem_cons_self
        exact .cons rfl (ih fun u hu => wr u (List.mem_cons_of_mem _ hu))
    refine ⟨x, upd H a (.lst (ws.map backV)), I.write (e := a) (t' := s.toks) (by rw [ha]; trivial) (.inl rfl) (fun b u hb hu => g2 b u hb hu) ⟨_, g1⟩ ⟨?_, ws, m, rw', g1⟩, ?_, q _ ep (hl_map.mpr g4)⟩
    · rw [ep.length_eq]
      rw [List.length_cons] at hz
      omega
    · obtain ⟨t, rfl⟩ := e2 u List.mem_cons_self
      rw [ex]; rfl
end
end OQ

/-! ### calm ways: turns and steps -/
namespace CM
/-- from s, come by the way w, to g over the spots p, by t turns and n steps -/
inductive Wy (E : Nat → Nat → Prop) (g : Nat) : Nat → Nat → Nat → Bool → List Nat → Prop
  | zero : Wy E g 0 0 g true []
  | step {t n s m : Nat} {w : Bool} {p : List Nat} : E s m → Wy E g t n m (decide (s < m)) p → Wy E g (t + (if decide (s < m) = w then 0 else 1)) (n + 1) s w (m :: p)
def Cs (E : Nat → Nat → Prop) (g t n s : Nat) (w : Bool) : Prop := ∃ p, Wy E g t n s w p
theorem Cs.zero {E : Nat → Nat → Prop} {g : Nat} : Cs E g 0 0 g true := ⟨[], .zero⟩
theorem Cs.step {E : Nat → Nat → Prop} {g t n s m : Nat} {w : Bool} (e : E s m) (c : Cs E g t n m (decide (s < m))) : Cs E g (t + (if decide (s < m) = w then 0 else 1)) (n + 1) s w := let ⟨p, h⟩ := c; ⟨m :: p, .step e h⟩
abbrev Cit := (Nat × Nat) × (Nat × Bool)
def le2 (a b : Nat × Nat) : Prop := a.1 < b.1 ∨ (a.1 = b.1 ∧ a.2 ≤ b.2)
theorem le2.rfl' {a : Nat × Nat} : le2 a a := .inr ⟨rfl, Nat.le_refl _⟩
theorem le2.trans {a b c : Nat × Nat} (h : le2 a b) (k : le2 b c) : le2 a c := by unfold le2 at *; omega
theorem le2.add {a b : Nat × Nat} (h : le2 a b) (x : Nat) : le2 (a.1 + x, a.2 + 1) (b.1 + x, b.2 + 1) := by unfold le2 at *; dsimp only; omega
theorem le2.up {a b : Nat × Nat} (h : le2 a b) (x : Nat) : le2 a (b.1 + x, b.2 + 1) := by unfold le2 at *; dsimp only; omega
theorem le2.anti {a b : Nat × Nat} (h : le2 a b) (k : le2 b a) : a = b := by unfold le2 at *; exact Prod.ext (by omega) (by omega)
structure Dj (E : Nat → Nat → Prop) (g : Nat) (ps qs : List Cit) : Prop where
  qc : ∀ q ∈ qs, Cs E g q.1.1 q.1.2 q.2.1 q.2.2
  pc : ∀ p ∈ ps, Cs E g p.1.1 p.1.2 p.2.1 p.2.2
  mn : ∀ p ∈ ps, ∀ t n, Cs E g t n p.2.1 p.2.2 → le2 p.1 (t, n)
  pr : ∀ p ∈ ps, ∀ s w, E s p.2.1 → decide (s < p.2.1) = p.2.2 → (∃ p' ∈ ps, p'.2 = (s, w)) ∨ ((p.1.1 + (if p.2.2 = w then 0 else 1), p.1.2 + 1), (s, w)) ∈ qs
  sd : (∃ p ∈ ps, p.2 = (g, true)) ∨ ((0, 0), (g, true)) ∈ qs
  nd : (ps.map (·.2)).Nodup
  nb : ∀ q, q ∈ ps ∨ q ∈ qs → q.1.2 ≤ ps.length
section
variable {E : Nat → Nat → Prop} {g : Nat}
theorem Dj.zero : Dj E g [] [((0, 0), (g, true))] :=
  ⟨fun q m => by rw [List.mem_singleton.mp m]; exact .zero, (fun _ m => nomatch m), (fun _ m => nomatch m), (fun _ m => nomatch m), .inr (List.mem_singleton.mpr rfl), List.nodup_nil, fun q m => by
    rcases m with m | m
    · cases m
    · rw [List.mem_singleton.mp m]; exact Nat.zero_le _⟩
theorem Dj.perm {ps qs rs : List Cit} (h : Dj E g ps qs) (e : ∀ q, q ∈ rs ↔ q ∈ qs) : Dj E g ps rs :=
  ⟨fun q m => h.qc q ((e q).mp m), h.pc, h.mn, fun p m s w es ew => (h.pr p m s w es ew).imp id (e _).mpr, h.sd.imp id (e _).mpr, h.nd, fun q m => h.nb q (m.imp id (e q).mp)⟩
theorem Dj.front {ps qs : List Cit} (h : Dj E g ps qs) {t n s : Nat} {w : Bool} {p : List Nat} (c : Wy E g t n s w p) (u : ¬ ∃ p ∈ ps, p.2 = (s, w)) : ∃ q ∈ qs, le2 q.1 (t, n) := by
  induction c with
  | zero =>
    rcases h.sd with z | z
    · exact (u z).elim
    · exact ⟨_, z, le2.rfl'⟩
  | @step t n s m w p e c ih =>
    by_cases k : ∃ p ∈ ps, p.2 = (m, decide (s < m))
    · obtain ⟨p0, m0, e0⟩ := k
      have a1 := h.mn p0 m0 t n (by rw [e0]; exact ⟨p, c⟩)
      rcases h.pr p0 m0 s w (by rw [e0]; exact e) (by rw [e0]) with z | z
      · exact (u z).elim
      · refine ⟨_, z, ?_⟩
        rw [e0]
        exact a1.add _
    · obtain ⟨q, mq, lq⟩ := ih k
      exact ⟨q, mq, lq.up _⟩
theorem Dj.skip {ps qs : List Cit} {q : Cit} (h : Dj E g ps (q :: qs)) (k : ∃ p ∈ ps, p.2 = q.2) : Dj E g ps qs :=
  ⟨fun x m => h.qc x (List.mem_cons_of_mem _ m), h.pc, h.mn, fun p m s w es ew => by
    rcases h.pr p m s w es ew with z | z
    · exact .inl z
    · rcases List.mem_cons.mp z with z | z
      · obtain ⟨p', m', e'⟩ := k
        exact .inl ⟨p', m', by rw [e', ← z]⟩
      · exact .inr z, by
    rcases h.sd with z | z
    · exact .inl z
    · rcases List.mem_cons.mp z with z | z
      · obtain ⟨p', m', e'⟩ := k
        exact .inl ⟨p', m', by rw [e', ← z]⟩
      · exact .inr z, h.nd, fun q m => h.nb q (m.imp id (List.mem_cons_of_mem _))⟩
/-- what is put into the queue behind the item q, for the spots of a row -/
def pushes (q : Cit) (row : List Nat) : List Cit := row.flatMap fun e => if decide (e < q.2.1) = q.2.2 then [((q.1.1, q.1.2 + 1), (e, q.2.2)), ((q.1.1 + 1, q.1.2 + 1), (e, !q.2.2))] else []
theorem mem_pushes {q x : Cit} {row : List Nat} : x ∈ pushes q row ↔ ∃ e ∈ row, decide (e < q.2.1) = q.2.2 ∧ (x = ((q.1.1, q.1.2 + 1), (e, q.2.2)) ∨ x = ((q.1.1 + 1, q.1.2 + 1), (e, !q.2.2))) := by
  unfold pushes
  rw [List.mem_flatMap]
  constructor
  · rintro ⟨e, m, k⟩
    by_cases c : decide (e < q.2.1) = q.2.2
    · rw [if_pos c] at k
      refine ⟨e, m, c, ?_⟩
      rcases List.mem_cons.mp k with k | k
      · exact .inl k
      · exact .inr (List.mem_singleton.mp k)
    · rw [if_neg c] at k; cases k
  · rintro ⟨e, m, c, k⟩
    refine ⟨e, m, ?_⟩
    rw [if_pos c]
    rcases k with rfl | rfl
    · exact List.mem_cons_self
    · exact List.mem_cons_of_mem _ List.mem_cons_self
theorem pushes_snoc (q : Cit) (row : List Nat) (e : Nat) : pushes q (row ++ [e]) = pushes q row ++ (if decide (e < q.2.1) = q.2.2 then [((q.1.1, q.1.2 + 1), (e, q.2.2)), ((q.1.1 + 1, q.1.2 + 1), (e, !q.2.2))] else []) := by
  unfold pushes
  rw [List.flatMap_append, List.flatMap_cons, List.flatMap_nil, List.append_nil]
theorem pushes_len (q : Cit) (row : List Nat) : (pushes q row).length ≤ 2 * row.length := by
  induction row with
  | nil => exact Nat.le_refl _
  | cons e r ih =>
    unfold pushes at *
    rw [List.flatMap_cons, List.length_append, List.length_cons]
    have : (if decide (e < q.2.1) = q.2.2 then [((q.1.1, q.1.2 + 1), (e, q.2.2)), ((q.1.1 + 1, q.1.2 + 1), (e, !q.2.2))] else ([] : List Cit)).length ≤ 2 := by
      split <;> simp
    omega
theorem Dj.new {ps qs : List Cit} {q : Cit} {row : List Nat} (h : Dj E g ps (q :: qs)) (u : ¬ ∃ p ∈ ps, p.2 = q.2) (least : ∀ x ∈ q :: qs, le2 q.1 x.1) (mem : ∀ e, e ∈ row ↔ E e q.2.1) : Dj E g (ps ++ [q]) (qs ++ pushes q row) := by
  have hq := h.qc q List.mem_cons_self
  have old : ∀ p ∈ ps ++ [q], p ∈ ps ∨ p = q := fun p m => by
    rcases List.mem_append.mp m with m | m
    · exact .inl m
    · exact .inr (List.mem_singleton.mp m)
  have inq : q ∈ ps ++ [q] := List.mem_append_right _ (List.mem_singleton.mpr rfl)
  constructor
  · intro x m
    rcases List.mem_append.mp m with m | m
    · exact h.qc x (List.mem_cons_of_mem _ m)
    · obtain ⟨e, me, de, k⟩ := mem_pushes.mp m
      have ee := (mem e).mp me
      have c1 : ∀ w, Cs E g (q.1.1 + (if q.2.2 = w then 0 else 1)) (q.1.2 + 1) e w := fun w => by
        have := Cs.step (w := w) ee (g := g) (t := q.1.1) (n := q.1.2) (by rw [de]; exact hq)
        rwa [de] at this
      rcases k with rfl | rfl
      · have := c1 q.2.2
        rwa [if_pos rfl] at this
      · have := c1 (!q.2.2)
        rwa [if_neg (by cases q.2.2 <;> decide)] at this
  · intro p m
    rcases old p m with m | rfl
    · exact h.pc p m
    · exact hq
  · intro p m t n c
    rcases old p m with m | rfl
    · exact h.mn p m t n c
    · obtain ⟨pp, cw⟩ := c
      obtain ⟨x, mx, lx⟩ := h.front cw u
      exact (least x mx).trans lx
  · intro p m s w es ew
    rcases old p m with m | rfl
    · rcases h.pr p m s w es ew with ⟨p', m', e'⟩ | z
      · exact .inl ⟨p', List.mem_append_left _ m', e'⟩
      · rcases List.mem_cons.mp z with z | z
        · exact .inl ⟨q, inq, by rw [← z]⟩
        · exact .inr (List.mem_append_left _ z)
    · refine .inr (List.mem_append_right _ (mem_pushes.mpr ⟨s, (mem s).mpr es, ew, ?_⟩))
      by_cases c : p.2.2 = w
      · subst c
        rw [if_pos rfl]
        exact .inl rfl
      · have : w = !p.2.2 := by cases hw : w <;> cases hp : p.2.2 <;> simp_all
        rw [if_neg c, this]
        exact .inr rfl
  · rcases h.sd with ⟨p', m', e'⟩ | z
    · exact .inl ⟨p', List.mem_append_left _ m', e'⟩
    · rcases List.mem_cons.mp z with z | z
      · exact .inl ⟨q, inq, by rw [← z]⟩
      · exact .inr (List.mem_append_left _ z)
  · rw [List.map_append]
    refine List.nodup_append.mpr ⟨h.nd, by simp, ?_⟩
    intro a ma b mb e
    obtain ⟨p, mp, rfl⟩ := List.mem_map.mp ma
    rw [List.map_singleton, List.mem_singleton] at mb
    exact u ⟨p, mp, by rw [e, mb]⟩
  · intro x m
    have lq := h.nb q (.inr List.mem_cons_self)
    rw [List.length_append, List.length_singleton]
    rcases m with m | m
    · rcases old x m with m | rfl
      · have := h.nb x (.inl m); omega
      · omega
    · rcases List.mem_append.mp m with m | m
      · have := h.nb x (.inr (List.mem_cons_of_mem _ m)); omega
      · obtain ⟨e, _, _, k⟩ := mem_pushes.mp m
        rcases k with rfl | rfl
        · dsimp only; omega
        · dsimp only; omega
/-- all is settled -/
structure Al (E : Nat → Nat → Prop) (g : Nat) (ps : List Cit) : Prop where
  pc : ∀ p ∈ ps, Cs E g p.1.1 p.1.2 p.2.1 p.2.2
  mn : ∀ p ∈ ps, ∀ t n, Cs E g t n p.2.1 p.2.2 → le2 p.1 (t, n)
  all : ∀ t n s w, Cs E g t n s w → ∃ p ∈ ps, p.2 = (s, w)
  nb : ∀ p ∈ ps, p.1.2 ≤ 2 * (g + 1)
/-- how many can be settled -/
theorem Dj.len {ps qs : List Cit} (h : Dj E g ps qs) (b : ∀ t n s w, Cs E g t n s w → s ≤ g) : ps.length ≤ 2 * (g + 1) := by
  have := WW.nodup_len (2 * (g + 1)) (ps.map fun p => 2 * p.2.1 + (if p.2.2 = true then 1 else 0)) ?_ ?_
  · rwa [List.length_map] at this
  · have nd := h.nd
    unfold List.Nodup at nd ⊢
    rw [List.pairwise_map] at nd ⊢
    refine nd.imp fun {a b} ne z => ne ?_
    have e1 : a.2.1 = b.2.1 := by split at z <;> split at z <;> omega
    have e2 : a.2.2 = b.2.2 := by
      cases ha : a.2.2 <;> cases hb : b.2.2 <;> simp_all <;> omega
    exact Prod.ext e1 e2
  · intro x m
    obtain ⟨p, mp, rfl⟩ := List.mem_map.mp m
    have := b _ _ _ _ (h.pc p mp)
    split <;> omega
theorem Dj.al {ps : List Cit} (h : Dj E g ps []) (b : ∀ t n s w, Cs E g t n s w → s ≤ g) : Al E g ps :=
  ⟨h.pc, h.mn, fun t n s w ⟨p, c⟩ => Classical.byContradiction fun u => (by obtain ⟨q, m, _⟩ := h.front c u; cases m), fun p m => Nat.le_trans (h.nb p (.inl m)) (h.len b)⟩
/-! the calmest way -/
/-- the best from s, come by w: fewest turns, then fewest steps, then the least spots -/
structure Best (E : Nat → Nat → Prop) (g t n s : Nat) (w : Bool) (p : List Nat) : Prop where
  wy : Wy E g t n s w p
  mn : ∀ t' n', Cs E g t' n' s w → le2 (t, n) (t', n')
  ls : ∀ q, Wy E g t n s w q → WW.lx q p = false
theorem Wy.at0 {s n t : Nat} {w : Bool} {p : List Nat} (h : Wy E g t n s w p) (z : n = 0) : p = [] ∧ s = g ∧ t = 0 ∧ w = true := by
  cases h with
  | zero => exact ⟨rfl, rfl, rfl, rfl⟩
  | step => cases z
theorem Best.zero : Best E g 0 0 g true [] := ⟨.zero, fun t n _ => by unfold le2; dsimp only; omega, fun q h => by rw [(h.at0 rfl).1]; rfl⟩
theorem Wy.uncons {t n s : Nat} {w : Bool} {p : List Nat} (h : Wy E g t n s w p) (ne : s ≠ g) : ∃ t' n' m p', p = m :: p' ∧ E s m ∧ Wy E g t' n' m (decide (s < m)) p' ∧ t = t' + (if decide (s < m) = w then 0 else 1) ∧ n = n' + 1 := by
  cases h with
  | zero => exact absurd rfl ne
  | step e c => exact ⟨_, _, _, _, rfl, e, c, rfl, rfl⟩
/-- the step of the greedy way: m is the least spot by which the best is told -/
theorem Best.step {t n s m tm nm : Nat} {w : Bool} {p : List Nat} (ne : s ≠ g) (e : E s m) (ht : t = tm + (if decide (s < m) = w then 0 else 1)) (hn : n = nm + 1) (mn : ∀ t' n', Cs E g t' n' s w → le2 (t, n) (t', n'))
    (least : ∀ m' t' n', E s m' → Cs E g t' n' m' (decide (s < m')) → (∀ t'' n'', Cs E g t'' n'' m' (decide (s < m')) → le2 (t', n') (t'', n'')) → t = t' + (if decide (s < m') = w then 0 else 1) → n = n' + 1 → m ≤ m')
    (b : Best E g tm nm m (decide (s < m)) p) : Best E g t n s w (m :: p) := by
  refine ⟨by rw [ht, hn]; exact .step e b.wy, mn, fun q hq => ?_⟩
  obtain ⟨t', n', m', p', rfl, e', c', h1, h2⟩ := hq.uncons ne
  -- what is told for m' is the best there
  have bm : ∀ t'' n'', Cs E g t'' n'' m' (decide (s < m')) → le2 (t', n') (t'', n'') := fun t'' n'' c => by
    have := mn _ _ (Cs.step (w := w) e' c)
    unfold le2 at this ⊢
    dsimp only at this ⊢
    omega
  have le := least m' t' n' e' ⟨p', c'⟩ bm h1 h2
  rw [WW.lx_cons]
  by_cases c : m' = m
  · subst c
    rw [if_pos rfl]
    have e1 : t' = tm := by omega
    have e2 : n' = nm := by omega
    subst e1 e2
    exact b.ls p' c'
  · rw [if_neg c]
    exact decide_eq_false (by omega)
/-- where a way begins there is one for each way come by -/
theorem Cs.of_rc (sy : ∀ u v, E u v → E v u) (le : ∀ u v, E u v → u ≤ g ∧ v ≤ g ∧ u ≠ v) : ∀ {r s : Nat}, WW.Wk E g r s → s ≠ g → ∀ w, ∃ t n, Cs E g t n s w
  | 0, _, h, ne, _ => absurd h ne
  | r + 1, s, ⟨u, h, e⟩, ne, w => by
    have es := sy _ _ e
    obtain ⟨l1, l2, l3⟩ := le _ _ es
    by_cases c : u = g
    · subst c
      have d : decide (s < u) = true := decide_eq_true (by omega)
      exact ⟨_, _, Cs.step (t := 0) (n := 0) (m := u) es (by rw [d]; exact .zero)⟩
    · obtain ⟨t, n, k⟩ := Cs.of_rc sy le h c (decide (s < u))
      exact ⟨_, _, Cs.step es k⟩
theorem Wy.rc {t n s : Nat} {w : Bool} {p : List Nat} (h : Wy E g t n s w p) : WW.Rc E s g := by
  induction h with
  | zero => exact WW.Rc.refl
  | step e _ ih => exact (WW.Rc.one e).trans ih
theorem Wy.len {t n s : Nat} {w : Bool} {p : List Nat} (h : Wy E g t n s w p) : p.length = n := by
  induction h with
  | zero => rfl
  | step _ _ ih => rw [List.length_cons, ih]
theorem Best.uniq {t n t' n' s : Nat} {w : Bool} {p q : List Nat} (a : Best E g t n s w p) (b : Best E g t' n' s w q) : p = q := by
  have e := (a.mn _ _ ⟨q, b.wy⟩).anti (b.mn _ _ ⟨p, a.wy⟩)
  obtain ⟨rfl, rfl⟩ := Prod.mk.inj e
  exact WW.lx_tri (a.wy.len.trans b.wy.len.symm) (b.ls _ a.wy) (a.ls _ b.wy)
end
end CM

/-! ### zip of two tuples walked, the number of unlike ints of a tuple -/
namespace OQ
open PySem L2 PySem.Spec PyProof.Rows
theorem walk_zipT {K : PySem.W.Frag} {a b : Addr} {xs ys : List V} {n : Nat} (hn : n = min xs.length ys.length) : Walk (RZ.ItzT K a b) n (fun H => SqT K H a xs ∧ SqT K H b ys) (YPair (fun i => xs[i]?) (fun i => ys[i]?)) := by
  subst hn
  refine ⟨fun i _ hi q => ?_, fun _ q => ⟨xs, ys, q.1, q.2, by omega⟩, fun i H v H' _ q y => ?_⟩
  · have h1 : i < xs.length := by omega
    have h2 : i < ys.length := by omega
    exact ⟨xs, ys, xs[i], ys[i], q.1, q.2, by simp [h1], by simp [h2]⟩
  · obtain ⟨T, x, z, h1, h2, h3, h4, h5⟩ := y
    exact ⟨T, x, z, h1, h2, h3, h4 xs q.1, h5 ys q.2⟩
theorem card_set {ks : List Int} {ns : List Int} (nd : ks.Nodup) (mem : ∀ k, k ∈ ks ↔ k ∈ ns) : ks.length ≤ ns.length ∧ (ks.length = ns.length ↔ ns.Nodup) := by
  have sub : ∀ {l m : List Int}, l.Nodup → (∀ k, k ∈ l → k ∈ m) → l.length ≤ m.length := by
    intro l
    induction l with
    | nil => intro m _ _; exact Nat.zero_le _
    | cons x l ih =>
      intro m nd h
      obtain ⟨n1, n2⟩ := List.nodup_cons.mp nd
      have mx := h x List.mem_cons_self
      have p := List.perm_cons_erase mx
      have := ih n2 (m := m.erase x) (fun k mk => by
        rcases List.mem_cons.mp (p.mem_iff.mp (h k (List.mem_cons_of_mem _ mk))) with rfl | z
        · exact absurd mk n1
        · exact z)
      have := p.length_eq
      rw [List.length_cons] at this ⊢
      omega
  refine ⟨sub nd fun k m => (mem k).mp m, ?_, fun n => Nat.le_antisymm (sub nd fun k m => (mem k).mp m) (sub n fun k m => (mem k).mpr m)⟩
  intro e
  -- if one stood twice, without it there would be fewer
  have : ∀ (l : List Int) (ks : List Int), ks.Nodup → (∀ k, k ∈ ks → k ∈ l) → ks.length = l.length → l.Nodup := by
    intro l
    induction l with
    | nil => intro _ _ _ _; exact List.nodup_nil
    | cons x l ih =>
      intro ks nd h e
      by_cases mx : x ∈ ks
      · have p := List.perm_cons_erase mx
        have nd2 : (x :: ks.erase x).Nodup := p.nodup_iff.mp nd
        obtain ⟨n1, n2⟩ := List.nodup_cons.mp nd2
        have pl := p.length_eq
        rw [List.length_cons] at pl e
        have sb : ∀ k, k ∈ ks.erase x → k ∈ l := fun k mk => by
          rcases List.mem_cons.mp (h k (p.mem_iff.mpr (List.mem_cons_of_mem _ mk))) with rfl | z
          · exact absurd mk n1
          · exact z
        have nl := ih _ n2 sb (by omega)
        refine List.nodup_cons.mpr ⟨fun ml => ?_, nl⟩
        -- x in l: then ks.erase x within l without x
        have p2 := List.perm_cons_erase ml
        have := sub n2 (m := l.erase x) (fun k mk => by
          rcases List.mem_cons.mp (p2.mem_iff.mp (sb k mk)) with rfl | z
          · exact absurd mk n1
          · exact z)
        have := p2.length_eq
        rw [List.length_cons] at this
        omega
      · have := sub nd (m := l) (fun k mk => by
          rcases List.mem_cons.mp (h k mk) with rfl | z
          · exact absurd mk mx
          · exact z)
        rw [List.length_cons] at e
        omega
  exact this ns ks nd (fun k m => (mem k).mp m) e
def tLenSetT (K : PySem.W.Frag) (ta : TE) : TE := fun σ H Q => ta σ H fun x H1 => ∃ (l : Addr) (ns : List Int), x = .ref l ∧ SqT K H1 l (ns.map V.int) ∧ ns.length ≤ 1000 ∧ ∀ c : Nat, c ≤ ns.length → (c = ns.length ↔ ns.Nodup) → Q (.int (c : Nat)) H1
theorem pe_lenSetT {X : Cx} {a : Expr} {ta : TE} {p p2 q pos : Pos} (hg : Gl X "len") (hm : X.mg "len" = none) (hg2 : Gl X "set") (hm2 : X.mg "set" = none) (ha : PE X a ta) (hc : X.calm = true := by rfl)
    (na : starEach [a] X.env = (false, eval a X.env) :: starEach [] X.env := by rfl) : PE X (.Call (.Name "len" p) [.Call (.Name "set" p2) [a] [] q] [] pos) (tLenSetT X.K ta) := by
  refine ⟨fun pins s σ H Q I h => ?_⟩
  refine Call_ (ld_blt I hg hm boot_len ?_)
  refine PyProof.Rows.callWith_builtin1 (PyProof.Rows.args_cons ?_ rfl) rfl rfl
  refine Call_ (ld_blt I hg2 hm2 boot_set ?_)
  refine PyProof.Rows.callWith_type1 (PyProof.Rows.args_cons (thn (ha.run pins s σ H _ I h) fun v s1 ⟨x, H1, I1, r1, q1⟩ => PyProof.Rows.args_nil ?_) na) na rfl
  obtain ⟨l, ns, rfl, hq, hl, q1⟩ := q1
  cases r1
  obtain ⟨its, r, pl, hz⟩ := I1.tuple hq
  refine L2.call_set_tupI ns (I1.ok.hd hc) pl (by simpa using r.ints) (by unfold scanBound; omega) fun h' tk c hS hc' hk => ?_
  refine PyProof.Rows.args_nil ?_
  obtain ⟨o, es, ep, t, ho, hex, hd, _, hnd, hmem, hsc, hf, hn, _⟩ := hS
  have I2 : Inv X pins σ H1 { s1 with heap := h', toks := tk } := I1.kept hk
  obtain ⟨c1, c2⟩ := card_set hnd (fun k => (hmem k).symm.trans (decide_eq_true_iff))
  rw [List.length_map, Array.length_toList, hn] at c1 c2
  exact call_len_set ho hex hd hf (by rw [hn]; omega) ⟨.int (c : Nat), H1, I2.tok _, ⟨_, by rw [hn]⟩, q1 c c1 c2⟩
/-- one clause of a comprehension with two -/
theorem c2_it {J : It} {n : Nat} {G : Hp → Prop} {Y : Nat → Hp → V → Hp → Prop} (w : Walk J n G Y) {g : TG} {tt : TT} {vs : List Nat} {σ : L2.St} {H0 : Hp} {Qd : Hp → Prop} {B : (Hp → Prop) → L2.St → Hp → Prop} (Pv : Nat → Hp → Prop) (h0 : Pv 0 H0) (hG : ∀ i H, i ≤ n → Pv i H → G H)
    (hs : ∀ i x H H', i < n → Pv i H → Y i H x H' → g x (wipe σ vs) H' fun σ2 H2 => wipe σ2 vs = wipe σ vs ∧ tt σ2 H2 fun b H3 => if b = true then B (Pv (i + 1)) σ2 H3 else Pv (i + 1) H3) (hd : ∀ H, Pv n H → Qd H) :
    ∃ W : Nat → Nat → Hp → Prop, (∃ m, W 0 m H0) ∧ ∀ i m H, W i m H →
      (J.stop i H ∧ Qd H) ∨ (J.go i H ∧ ∃ Nx : Hp → Prop, (∀ H', Nx H' → ∃ m', m' < m ∧ W (i + 1) m' H') ∧ ∀ x H', J.yld i H x H' → g x (wipe σ vs) H' fun σ2 H2 => wipe σ2 vs = wipe σ vs ∧ tt σ2 H2 fun b H3 =>
        if b = true then B Nx σ2 H3 else Nx H3) := by
  refine ⟨fun i m H => m = n - i ∧ i ≤ n ∧ Pv i H, ⟨n, by simp, Nat.zero_le _, h0⟩, ?_⟩
  rintro i m H ⟨rfl, hi, p⟩
  have q := hG i H hi p
  by_cases hlt : i < n
  · exact .inr ⟨w.goes i H hlt q, Pv (i + 1), fun H' p' => ⟨n - (i + 1), by omega, rfl, hlt, p'⟩, fun x H' y => hs i x H H' hlt p (w.yields i H x H' hlt q y)⟩
  · have e : i = n := by omega
    subst e
    exact .inl ⟨w.stops H q, hd H p⟩
theorem slAK {X : Cx} (K : PySem.W.Frag) (h : X.K = K := by rfl) : SlR X (rSlA K) := h ▸ sl_tupA
end OQ

/-! ### ways without a spot twice -/
namespace CM
theorem par (x w d : Bool) : (if w = d then 0 else 1 : Nat) ≤ (if x = d then 0 else 1) + (if x = w then 0 else 1) := by cases x <;> cases w <;> cases d <;> decide
theorem par' (x w d : Bool) : (if x = d then 0 else 1 : Nat) ≤ (if x = w then 0 else 1) + (if w = d then 0 else 1) := by cases x <;> cases w <;> cases d <;> decide
section
variable {E : Nat → Nat → Prop} {g : Nat}
/-- the same spots, come by another way -/
theorem Wy.other {t n s : Nat} {w : Bool} {p : List Nat} (h : Wy E g t n s w p) (ne : s ≠ g) (w' : Bool) : ∃ t', Wy E g t' n s w' p ∧ t' ≤ t + (if w = w' then 0 else 1) := by
  obtain ⟨t0, n0, m, p', rfl, e, c, rfl, rfl⟩ := h.uncons ne
  refine ⟨_, .step e c, ?_⟩
  rw [Nat.add_assoc]
  exact Nat.add_le_add_left (par' (decide (s < m)) w w') t0
/-- the rest of a way from a spot on it -/
theorem Wy.rest {t n s : Nat} {w : Bool} {p : List Nat} (h : Wy E g t n s w p) : ∀ x, x ∈ p → ∃ t2 n2 d p2, Wy E g t2 n2 x d p2 ∧ n2 < n ∧ t2 + (if w = d then 0 else 1) ≤ t := by
  induction h with
  | zero => intro x m; cases m
  | @step t n s m w p e c ih =>
    intro x mx
    rcases List.mem_cons.mp mx with rfl | mx
    · exact ⟨t, n, _, p, c, Nat.lt_succ_self _, by
        by_cases h : decide (s < x) = w
        · rw [if_pos h, if_pos h.symm]; exact Nat.le_refl _
        · rw [if_neg h, if_neg (fun z => h z.symm)]; exact Nat.le_refl _⟩
    · obtain ⟨t2, n2, d, p2, h1, h2, h3⟩ := ih x mx
      refine ⟨t2, n2, d, p2, h1, Nat.lt_succ_of_lt h2, ?_⟩
      exact Nat.le_trans (Nat.add_le_add_left (par (decide (s < m)) w d) t2) (by rw [← Nat.add_assoc]; exact Nat.add_le_add_right h3 _)
/-- the best way goes to no spot twice -/
theorem Wy.nodup (le : ∀ u v, E u v → u ≤ g ∧ v ≤ g ∧ u ≠ v) {t n s : Nat} {w : Bool} {p : List Nat} (h : Wy E g t n s w p) (mn : ∀ t' n', Cs E g t' n' s w → le2 (t, n) (t', n')) (ne : s ≠ g) : (s :: p).Nodup := by
  induction h with
  | zero => exact absurd rfl ne
  | @step t n s m w p e c ih =>
    have here : s ∉ m :: p := fun ms => by
      obtain ⟨t2, n2, d, p2, h1, h2, h3⟩ := (Wy.step (w := w) e c).rest s ms
      obtain ⟨t3, h4, h5⟩ := h1.other ne w
      have := mn _ _ ⟨p2, h4⟩
      unfold le2 at this
      dsimp only at this
      have e1 : (if d = w then 0 else 1) = (if w = d then 0 else 1 : Nat) := by
        by_cases z : d = w
        · rw [if_pos z, if_pos z.symm]
        · rw [if_neg z, if_neg (fun y => z y.symm)]
      rw [e1] at h5
      omega
    have bm : ∀ t'' n'', Cs E g t'' n'' m (decide (s < m)) → le2 (t, n) (t'', n'') := fun t'' n'' k => by
      have := mn _ _ (Cs.step (w := w) e k)
      unfold le2 at this ⊢
      dsimp only at this ⊢
      omega
    refine List.nodup_cons.mpr ⟨here, ?_⟩
    by_cases mg : m = g
    · subst mg
      have hd : decide (s < m) = true := decide_eq_true (by have := le _ _ e; omega)
      have : n = 0 := by
        have := bm 0 0 (by rw [hd]; exact .zero)
        unfold le2 at this
        dsimp only at this
        omega
      obtain ⟨rfl, _⟩ := c.at0 this
      simp
    · exact ih bm mg
/-- the steps of a way -/
theorem Wy.chain {t n s : Nat} {w : Bool} {p : List Nat} (h : Wy E g t n s w p) : ∀ (i u v : Nat), (s :: p)[i]? = some u → (s :: p)[i + 1]? = some v → E u v := by
  induction h with
  | zero => intro i u v _ e; cases i <;> cases e
  | @step t n s m w p e c ih =>
    intro i u v e1 e2
    cases i with
    | zero => cases e1; cases e2; exact e
    | succ i => exact ih i u v e1 e2
theorem Wy.last {t n s : Nat} {w : Bool} {p : List Nat} (h : Wy E g t n s w p) : (s :: p)[n]? = some g := by
  induction h with
  | zero => rfl
  | step _ _ ih => exact ih
end
end CM
namespace WW
theorem IsP.chain {E : Nat → Nat → Prop} {g : Nat} : ∀ {r : Nat} {p : List Nat} {v : Nat}, IsP E g r p v → ∀ (i a b : Nat), p[i]? = some a → p[i + 1]? = some b → E a b
  | 0, _, _, ⟨rfl, rfl⟩, i, a, b, _, e2 => by cases i <;> cases e2
  | r + 1, _, v, ⟨q, u, h, e, rfl⟩, i, a, b, e1, e2 => by
    have ql := h.len
    have il := (List.getElem?_eq_some_iff.mp e2).1
    rw [List.length_append, List.length_singleton] at il
    by_cases c : i + 1 < q.length
    · rw [List.getElem?_append_left c] at e2
      rw [List.getElem?_append_left (by omega)] at e1
      exact h.chain i a b e1 e2
    · have : i = r := by omega
      subst this
      rw [List.getElem?_append_left (by omega), h.last] at e1
      rw [List.getElem?_append_right (by omega), show i + 1 - q.length = 0 from by omega] at e2
      cases e1; cases e2
      exact e
theorem IsP.first {E : Nat → Nat → Prop} {g r : Nat} {p : List Nat} {v : Nat} (h : IsP E g r p v) : p[0]? = some g := by
  obtain ⟨u, e1, e2, _⟩ := h.part 0 (Nat.zero_le _)
  have := e2.2
  rw [e1, this]
/-- a shortest way goes to no spot twice -/
theorem IsP.nodup {E : Nat → Nat → Prop} {g r : Nat} {p : List Nat} {v : Nat} (h : IsP E g r p v) (d : Ds E g r v) : p.Nodup := by
  have pl := h.len
  unfold List.Nodup
  rw [List.pairwise_iff_getElem]
  intro i j hi hj ij e
  obtain ⟨a, a1, a2, _⟩ := h.part i (by omega)
  obtain ⟨b, b1, _, b3⟩ := h.part j (by omega)
  rw [List.getElem?_eq_getElem hi] at a1
  rw [List.getElem?_eq_getElem hj] at b1
  have ab : a = b := by rw [← Option.some.inj a1, ← Option.some.inj b1]; exact e
  subst ab
  exact d.2 (i + (r - j)) (by omega) (a2.wk.trans b3)
end WW

/-! ### dicts from numbers to objects -/
namespace WW
open PySem L2
/-- keys ks in order, with these objects -/
structure Dn (kvs : List (Key × V)) (ks : List Nat) (val : Nat → Option Addr) : Prop where
  keys : kvs.map (·.1) = ks.map fun (k : Nat) => (Sum.inl (k : Int) : Key)
  nd : ks.Nodup
  vl : ∀ v : Nat, valV kvs (Sum.inl (v : Int)) = (val v).map V.ref
  mem : ∀ v, v ∈ ks ↔ (val v).isSome = true
theorem Dn.nil : Dn [] [] (fun _ => none) := ⟨rfl, List.nodup_nil, fun _ => rfl, fun _ => ⟨fun z => absurd z List.not_mem_nil, fun z => by cases z⟩⟩
theorem Dn.len {kvs : List (Key × V)} {ks : List Nat} {val : Nat → Option Addr} (h : Dn kvs ks val) : kvs.length = ks.length := by
  have := congrArg List.length h.keys
  rwa [List.length_map, List.length_map] at this
theorem Dn.key {kvs : List (Key × V)} {ks : List Nat} {val : Nat → Option Addr} (h : Dn kvs ks val) {i : Nat} {k : Key} {v : V} (e : kvs[i]? = some (k, v)) : ∃ n, ks[i]? = some n ∧ k = Sum.inl (n : Int) := by
  have := congrArg (fun l => l[i]?) h.keys
  simp only [List.getElem?_map, e, Option.map_some] at this
  cases z : ks[i]? with
  | none => rw [z] at this; cases this
  | some n => rw [z] at this; exact ⟨n, rfl, Option.some.inj this⟩
theorem Dn.listed {kvs : List (Key × V)} {ks : List Nat} {val : Nat → Option Addr} (h : Dn kvs ks val) : (kvs.map fun kv => kV kv.1) = Ns ks := by
  have : (kvs.map fun kv => kV kv.1) = (kvs.map (·.1)).map kV := by rw [List.map_map]; rfl
  rw [this, h.keys, List.map_map]
  rfl
theorem Dn.put {kvs : List (Key × V)} {ks : List Nat} {val : Nat → Option Addr} (h : Dn kvs ks val) (v : Nat) (t : Addr) :
    ∃ ks', Dn (putK kvs (Sum.inl (v : Int)) (.ref t)) ks' (fun w => if w = v then some t else val w) ∧ (∀ w, w ∈ ks' ↔ w = v ∨ w ∈ ks) ∧ (val v = none → ks' = ks ++ [v]) ∧ (val v ≠ none → ks' = ks) := by
  have vals : ∀ w : Nat, valV (putK kvs (Sum.inl (v : Int)) (.ref t)) (Sum.inl (w : Int)) = (if w = v then some t else val w).map V.ref := fun w => by
    rw [valV_put]
    by_cases c : w = v
    · subst c; rw [if_pos rfl, if_pos rfl]; rfl
    · rw [if_neg (fun z => c (by have := Sum.inl.inj z; omega)), if_neg c, h.vl]
  cases e : val v with
  | none =>
    have en : valV kvs (Sum.inl (v : Int)) = none := by rw [h.vl, e]; rfl
    have nm : v ∉ ks := fun m => by have := (h.mem v).mp m; rw [e] at this; cases this
    refine ⟨ks ++ [v], ⟨?_, nodup_snoc h.nd nm, vals, fun w => ?_⟩, fun w => by rw [List.mem_append, List.mem_singleton]; exact Or.comm, fun _ => rfl, fun z => absurd rfl z⟩
    · rw [putK_new _ en, List.map_append, h.keys, List.map_append]; rfl
    · rw [List.mem_append, List.mem_singleton, h.mem]
      by_cases c : w = v
      · subst c; simp
      · rw [if_neg c]; simp [c]
  | some a =>
    have es : (kvs.any fun kv => decide (kv.1 = (Sum.inl (v : Int) : Key))) = true := by rw [valV_any, h.vl, e]; rfl
    have m : v ∈ ks := (h.mem v).mpr (by rw [e]; rfl)
    refine ⟨ks, ⟨?_, h.nd, vals, fun w => ?_⟩, fun w => ⟨.inr, fun z => z.elim (fun z => z.symm ▸ m) id⟩, (fun z => nomatch z), fun _ => rfl⟩
    · unfold putK
      rw [if_pos es, List.map_map, ← h.keys]
      refine List.map_congr_left fun kv _ => ?_
      show (if kv.1 = Sum.inl (v : Int) then (kv.1, V.ref t) else kv).1 = kv.1
      split <;> rfl
    · by_cases c : w = v
      · subst c; rw [if_pos rfl]; exact ⟨fun _ => rfl, fun _ => m⟩
      · rw [if_neg c]; exact h.mem w
end WW

/-! ### rows of numbers, compared -/
namespace OQ
open PySem L2 PySem.Spec PyProof.Rows
def Tn (p : List Nat) : List PyData := p.map fun (j : Nat) => .int (j : Int)
theorem Tn_all {K : PySem.W.Frag} {H : Hp} : ∀ p : List Nat, DpAll K H (WW.Ns p) (Tn p)
  | [] => .nil
  | j :: p => .cons (.int _) (Tn_all p)
theorem Tn_lay : ∀ p : List Nat, PyData.canLayAll0 (Tn p) = true ∧ PyData.depthAll (Tn p) = 0
  | [] => ⟨by rw [Tn, List.map_nil, PyData.canLayAll0], by rw [Tn, List.map_nil, PyData.depthAll]⟩
  | j :: p => by
    obtain ⟨h1, h2⟩ := Tn_lay p
    have e : Tn (j :: p) = .int (j : Int) :: Tn p := rfl
    rw [e, PyData.canLayAll0, PyData.canLay0, PyData.depthAll, PyData.depth, h1, h2]
    exact ⟨rfl, rfl⟩
theorem Tn_shaped (p : List Nat) : SeqAt.shaped (.tuple (Tn p)) = true := by
  obtain ⟨h1, h2⟩ := Tn_lay p
  unfold SeqAt.shaped; rw [PyData.canLay0, PyData.depth, h1, h2]; rfl
theorem Tn_eqv : ∀ p : List Nat, PyData.eqvAll (Tn p) (Tn p) = true
  | [] => by rw [Tn, List.map_nil, PyData.eqvAll]
  | j :: p => by
    have e : Tn (j :: p) = .int (j : Int) :: Tn p := rfl
    rw [e, PyData.eqvAll, PyData.eqv, Tn_eqv p]
    simp
/-- nothing, or the same way -/
def SameW (H : Hp) (v u : V) : Prop := (v = .non ∧ u = .non) ∨ ∃ t s p, v = .ref t ∧ u = .ref s ∧ H t = some (.tup (WW.Ns p)) ∧ H s = some (.tup (WW.Ns p))
theorem SameW.eq {K : PySem.W.Frag} {H : Hp} {Q : VK} {v u : V} (h : SameW H v u) (k : Q (.bl true) H) : rEqD K v u H Q := by
  rcases h with ⟨rfl, rfl⟩ | ⟨t, s, p, rfl, rfl, et, es⟩
  · exact ⟨_, _, .non, .non, rfl, rfl, by rw [PyData.eqv]; exact k⟩
  · exact ⟨_, _, .tup (SqT.of et) (Tn_all p), .tup (SqT.of es) (Tn_all p), Tn_shaped p, Tn_shaped p, by rw [PyData.eqv, Tn_eqv]; exact k⟩
theorem SameW.ne {K : PySem.W.Frag} {H : Hp} {Q : VK} {v u : V} (h : SameW H v u) (k : Q (.bl false) H) : rNeD K v u H Q := by
  rcases h with ⟨rfl, rfl⟩ | ⟨t, s, p, rfl, rfl, et, es⟩
  · exact ⟨_, _, .non, .non, rfl, rfl, by rw [PyData.eqv]; exact k⟩
  · exact ⟨_, _, .tup (SqT.of et) (Tn_all p), .tup (SqT.of es) (Tn_all p), Tn_shaped p, Tn_shaped p, by rw [PyData.eqv, Tn_eqv]; exact k⟩
end OQ

/-! ### rounds of the law's own ways -/
namespace WW
open PySem L2
/-- after r rounds: the spots at most r steps away, with the least of their shortest ways -/
structure Ro (E : Nat → Nat → Prop) (H : Hp) (d : Addr) (r : Nat) (val : Nat → Option Addr) (L : Nat → List Nat) (ks : List Nat) : Prop where
  dk : ∃ kvs, H d = some (.dK kvs) ∧ Dn kvs ks val
  tp : ∀ v t, val v = some t → H t = some (.tup (Ns (L v)))
  dom : ∀ v, (val v).isSome = true ↔ ∃ s, s ≤ r ∧ Ds E 0 s v
  lst : ∀ v s, s ≤ r → Ds E 0 s v → Lst E 0 s (L v) v
/-- what the round has found so far; Sn: the links that were looked at -/
structure La (H : Hp) (d : Addr) (val : Nat → Option Addr) (L : Nat → List Nat) (Sn : Nat → Nat → Prop) (vl2 : Nat → Option Addr) (M : Nat → List Nat) (ks : List Nat) : Prop where
  dk : ∃ kvs, H d = some (.dK kvs) ∧ Dn kvs ks vl2
  tp : ∀ v t, vl2 v = some t → H t = some (.tup (Ns (M v)))
  own : ∀ v, (vl2 v).isSome = true → val v = none ∧ (∃ u, Sn u v ∧ M v = L u ++ [v]) ∧ ∀ u, Sn u v → lx (L u ++ [v]) (M v) = false
  all : ∀ u v, Sn u v → val v = none → (vl2 v).isSome = true
def Tu (H H' : Hp) : Prop := ∀ t p, H t = some (.tup p) → H' t = some (.tup p)
theorem Ro.move {E : Nat → Nat → Prop} {H H' : Hp} {d : Addr} {r : Nat} {val : Nat → Option Addr} {L : Nat → List Nat} {ks : List Nat} (h : Ro E H d r val L ks) (e : H' d = H d) (t : Tu H H') : Ro E H' d r val L ks :=
  ⟨by rw [e]; exact h.dk, fun v q z => t _ _ (h.tp v q z), h.dom, h.lst⟩
theorem La.move {H H' : Hp} {d : Addr} {val : Nat → Option Addr} {L : Nat → List Nat} {Sn : Nat → Nat → Prop} {vl2 : Nat → Option Addr} {M : Nat → List Nat} {ks : List Nat} (h : La H d val L Sn vl2 M ks) (e : H' d = H d) (t : Tu H H') : La H' d val L Sn vl2 M ks :=
  ⟨by rw [e]; exact h.dk, fun v q z => t _ _ (h.tp v q z), h.own, h.all⟩
theorem La.iff {H : Hp} {d : Addr} {val : Nat → Option Addr} {L : Nat → List Nat} {Sn Sm : Nat → Nat → Prop} {vl2 : Nat → Option Addr} {M : Nat → List Nat} {ks : List Nat} (h : La H d val L Sn vl2 M ks) (e : ∀ u v, Sm u v ↔ Sn u v) : La H d val L Sm vl2 M ks := by
  have : Sm = Sn := funext fun u => funext fun v => propext (e u v)
  rw [this]; exact h
theorem La.nil {H : Hp} {d : Addr} {val : Nat → Option Addr} {L : Nat → List Nat} (e : H d = some (.dK [])) : La H d val L (fun _ _ => False) (fun _ => none) (fun _ => []) [] :=
  ⟨⟨_, e, Dn.nil⟩, fun _ _ z => (by cases z), fun _ z => (by cases z), fun _ _ z => (z : False).elim⟩
/-- a spot that was led to before -/
theorem La.old {H : Hp} {d : Addr} {val : Nat → Option Addr} {L : Nat → List Nat} {Sn : Nat → Nat → Prop} {vl2 : Nat → Option Addr} {M : Nat → List Nat} {ks : List Nat} (h : La H d val L Sn vl2 M ks) {u0 v0 : Nat} (o : val v0 ≠ none) :
    La H d val L (fun u v => Sn u v ∨ (u = u0 ∧ v = v0)) vl2 M ks := by
  refine ⟨h.dk, h.tp, fun v z => ?_, fun u v z n => ?_⟩
  · obtain ⟨n, ⟨u, su, e⟩, l⟩ := h.own v z
    refine ⟨n, ⟨u, .inl su, e⟩, fun u' z' => ?_⟩
    rcases z' with z' | ⟨_, rfl⟩
    · exact l u' z'
    · exact absurd n o
  · rcases z with z | ⟨_, rfl⟩
    · exact h.all u v z n
    · exact absurd n o
/-- no less a way -/
theorem La.keep {H : Hp} {d : Addr} {val : Nat → Option Addr} {L : Nat → List Nat} {Sn : Nat → Nat → Prop} {vl2 : Nat → Option Addr} {M : Nat → List Nat} {ks : List Nat} (h : La H d val L Sn vl2 M ks) {u0 v0 : Nat} (o : (vl2 v0).isSome = true)
    (c : lx (L u0 ++ [v0]) (M v0) = false) : La H d val L (fun u v => Sn u v ∨ (u = u0 ∧ v = v0)) vl2 M ks := by
  refine ⟨h.dk, h.tp, fun v z => ?_, fun u v z n => ?_⟩
  · obtain ⟨n, ⟨u, su, e⟩, l⟩ := h.own v z
    refine ⟨n, ⟨u, .inl su, e⟩, fun u' z' => ?_⟩
    rcases z' with z' | ⟨rfl, rfl⟩
    · exact l u' z'
    · exact c
  · rcases z with z | ⟨_, rfl⟩
    · exact h.all u v z n
    · exact o
/-- a new spot, or a less way -/
theorem La.put {H H' : Hp} {d t : Addr} {val : Nat → Option Addr} {L : Nat → List Nat} {Sn : Nat → Nat → Prop} {vl2 : Nat → Option Addr} {M : Nat → List Nat} {ks : List Nat} {kvs : List (Key × V)} (h : La H d val L Sn vl2 M ks) {u0 v0 r : Nat} (n0 : val v0 = none)
    (len : ∀ u v, Sn u v → (L u).length = r) (l0 : (L u0).length = r) (c : vl2 v0 = none ∨ lx (L u0 ++ [v0]) (M v0) = true) (dn : Dn kvs ks vl2) (ht : Tu H H') (et : H' t = some (.tup (Ns (L u0 ++ [v0])))) (ed : H' d = some (.dK (putK kvs (Sum.inl (v0 : Int)) (.ref t)))) :
    ∃ vl3 M3 ks3, La H' d val L (fun u v => Sn u v ∨ (u = u0 ∧ v = v0)) vl3 M3 ks3 ∧ (∀ w, w ∈ ks3 → w = v0 ∨ w ∈ ks) := by
  obtain ⟨ks', dn', mem, _⟩ := dn.put v0 t
  refine ⟨_, fun w => if w = v0 then L u0 ++ [v0] else M w, ks', ⟨⟨_, ed, dn'⟩, fun v q z => ?_, fun v z => ?_, fun u v z n => ?_⟩, fun w m => (mem w).mp m⟩
  · by_cases e : v = v0
    · subst e
      simp only [if_pos rfl] at z ⊢
      cases z; exact et
    · simp only [if_neg e] at z ⊢
      exact ht _ _ (h.tp v q z)
  · by_cases e : v = v0
    · subst e
      simp only [if_pos rfl] at z ⊢
      refine ⟨n0, ⟨u0, .inr ⟨rfl, by trivial⟩, rfl⟩, fun u' z' => ?_⟩
      rcases z' with z' | ⟨rfl, _⟩
      · rcases c with c | c
        · have := h.all u' v z' n0
          rw [c] at this; cases this
        · have o : (vl2 v).isSome = true := h.all u' v z' n0
          obtain ⟨_, ⟨u1, s1, e1⟩, l⟩ := h.own v o
          exact lx_le (by rw [e1]; simp [l0, len u1 v s1]) (by rw [e1]; simp [len u' v z', len u1 v s1]) (lx_asym c) (l u' z')
      · exact lx_irr _
    · simp only [if_neg e] at z ⊢
      obtain ⟨n, ⟨u, su, e1⟩, l⟩ := h.own v z
      refine ⟨n, ⟨u, .inl su, e1⟩, fun u' z' => ?_⟩
      rcases z' with z' | ⟨_, e'⟩
      · exact l u' z'
      · exact absurd e' e
  · by_cases e : v = v0
    · subst e; simp only [if_pos rfl]; rfl
    · simp only [if_neg e]
      rcases z with z | ⟨_, e'⟩
      · exact h.all u v z n
      · exact absurd e' e
/-- what the round has found are the spots one step further -/
theorem La.end_ {E : Nat → Nat → Prop} {H : Hp} {d d2 : Addr} {r : Nat} {val : Nat → Option Addr} {L : Nat → List Nat} {ks : List Nat} (hr : Ro E H d r val L ks) {Sn : Nat → Nat → Prop} {vl2 : Nat → Option Addr} {M : Nat → List Nat} {ks2 : List Nat}
    (h : La H d2 val L Sn vl2 M ks2) (sn : ∀ u v, Sn u v ↔ Ds E 0 r u ∧ E u v) :
    (∀ v, v ∈ ks2 ↔ Ds E 0 (r + 1) v) ∧ (∀ v, v ∈ ks2 → Lst E 0 (r + 1) (M v) v) := by
  obtain ⟨kvs, _, dn⟩ := h.dk
  have far : ∀ v, val v = none → ∀ s, s ≤ r → ¬ Ds E 0 s v := fun v n s hs k => by
    have := (hr.dom v).mpr ⟨s, hs, k⟩
    rw [n] at this; cases this
  have iff : ∀ v, v ∈ ks2 ↔ Ds E 0 (r + 1) v := fun v => by
    rw [dn.mem]
    constructor
    · intro z
      obtain ⟨n, ⟨u, su, _⟩, _⟩ := h.own v z
      obtain ⟨du, e⟩ := (sn u v).mp su
      rcases du.step e with k | ⟨s, hs, k⟩
      · exact k
      · exact absurd k (far v n s hs)
    · intro k
      obtain ⟨u, du, e⟩ := k.back
      refine h.all u v ((sn u v).mpr ⟨du, e⟩) ?_
      cases z : val v with
      | none => rfl
      | some t =>
        obtain ⟨s, hs, k'⟩ := (hr.dom v).mp (by rw [z]; rfl)
        have := k.uniq k'
        omega
  refine ⟨iff, fun v m => ?_⟩
  obtain ⟨n, ⟨u, su, e⟩, l⟩ := h.own v ((dn.mem v).mp m)
  obtain ⟨du, eu⟩ := (sn u v).mp su
  exact Lst.step ((iff v).mp m) (fun u du => hr.lst u r (Nat.le_refl _) du) ⟨u, du, eu, e⟩ (fun u' d' e' => l u' ((sn u' v).mpr ⟨d', e'⟩))
/-- the next round -/
theorem Ro.next {E : Nat → Nat → Prop} {H H' : Hp} {d d2 : Addr} {r : Nat} {val : Nat → Option Addr} {L : Nat → List Nat} {ks ks3 : List Nat} (hr : Ro E H d r val L ks) {Sn : Nat → Nat → Prop} {vl2 : Nat → Option Addr} {M : Nat → List Nat} {ks2 : List Nat}
    (h : La H d2 val L Sn vl2 M ks2) (sn : ∀ u v, Sn u v ↔ Ds E 0 r u ∧ E u v) (ht : Tu H H') {kvs : List (Key × V)} (ed : H' d = some (.dK kvs)) (dn : Dn kvs ks3 (fun v => if v ∈ ks2 then vl2 v else val v)) :
    Ro E H' d (r + 1) (fun v => if v ∈ ks2 then vl2 v else val v) (fun v => if v ∈ ks2 then M v else L v) ks3 := by
  obtain ⟨iff, ls⟩ := La.end_ hr h sn
  obtain ⟨kvs2, _, dn2⟩ := h.dk
  refine ⟨⟨_, ed, dn⟩, fun v t z => ?_, fun v => ?_, fun v s hs k => ?_⟩
  · by_cases m : v ∈ ks2
    · simp only [if_pos m] at z ⊢; exact ht _ _ (h.tp v t z)
    · simp only [if_neg m] at z ⊢; exact ht _ _ (hr.tp v t z)
  · by_cases m : v ∈ ks2
    · simp only [if_pos m]
      exact ⟨fun _ => ⟨r + 1, Nat.le_refl _, (iff v).mp m⟩, fun _ => (dn2.mem v).mp m⟩
    · simp only [if_neg m]
      rw [hr.dom]
      constructor
      · rintro ⟨s, hs, k⟩; exact ⟨s, by omega, k⟩
      · rintro ⟨s, hs, k⟩
        refine ⟨s, ?_, k⟩
        by_cases c : s = r + 1
        · subst c; exact absurd ((iff v).mpr k) m
        · omega
  · by_cases m : v ∈ ks2
    · simp only [if_pos m]
      rw [k.uniq ((iff v).mp m)]; exact ls v m
    · simp only [if_neg m]
      refine hr.lst v s ?_ k
      by_cases c : s = r + 1
      · subst c; exact absurd ((iff v).mpr k) m
      · omega
end WW

local macro_rules | `(tactic| walk_at "txN") => `(tactic| first | assumption | omega | (simp only [List.length_append, List.length_cons, List.length_nil, List.length_drop, List.length_take] at *; omega))
local macro_rules | `(tactic| walk_at "tx1") => `(tactic| first
  | (with_reducible refine RD.d_break ?_)
  | (with_reducible refine RD.d_eqW ?_)
  | (with_reducible refine RD.d_neW ?_)
  | ((with_reducible (refine' RD.d_lenW ?n ?k)); (case n => walk_at "txN"))
  | ((with_reducible (refine' RD.d_addS ?n ?k)); (case n => walk_at "txN")))
local macro_rules | `(tactic| walk_at "tx") => `(tactic| repeat (first | walk_at "tx1" | walk_at "rd1" | walk_at "rd2"))

namespace Toy
open PySem L2
def top (i : Nat) : Stmt := PySem.Challenge.pw_watchedways_k13_rules_of_zigzags.main.body.getD i (.Pass ⟨0, 0, 0, 0⟩)
abbrev s_is_integer : Stmt := top 10
theorem sc_is_integer : FnScope ["thing"] ["thing"] (defScope s_is_integer) := ⟨rfl, rfl, rfl, by decide +kernel, rfl, by decide +kernel, by decide +kernel⟩
abbrev s_is_row : Stmt := top 11
theorem sc_is_row : FnScope ["thing"] ["thing"] (defScope s_is_row) := ⟨rfl, rfl, rfl, by decide +kernel, rfl, by decide +kernel, by decide +kernel⟩
abbrev s_is_word : Stmt := top 15
theorem sc_is_word : FnScope ["thing"] ["thing"] (defScope s_is_word) := ⟨rfl, rfl, rfl, by decide +kernel, rfl, by decide +kernel, by decide +kernel⟩
abbrev s_is_watch : Stmt := top 16
theorem sc_is_watch : FnScope ["thing"] ["thing"] (defScope s_is_watch) := ⟨rfl, rfl, rfl, by decide +kernel, rfl, by decide +kernel, by decide +kernel⟩
abbrev s_has_letters : Stmt := top 17
theorem sc_has_letters : FnScope ["thing", "most", "letter"] ["thing", "most"] (defScope s_has_letters) := ⟨rfl, rfl, rfl, by decide +kernel, rfl, by decide +kernel, by decide +kernel⟩
abbrev s_check_word : Stmt := top 18
theorem sc_check_word : FnScope ["word"] ["word"] (defScope s_check_word) := ⟨rfl, rfl, rfl, by decide +kernel, rfl, by decide +kernel, by decide +kernel⟩
abbrev s_Book__init : Stmt := inClass (top 21) 0
theorem sc_Book__init : FnScope ["self", "watches", "wrong"] ["self", "watches"] (defScope s_Book__init) := ⟨rfl, rfl, rfl, by decide +kernel, rfl, by decide +kernel, by decide +kernel⟩
abbrev s_Book_has : Stmt := inClass (top 21) 2
theorem sc_Book_has : FnScope ["self", "thing"] ["self", "thing"] (defScope s_Book_has) := ⟨rfl, rfl, rfl, by decide +kernel, rfl, by decide +kernel, by decide +kernel⟩
abbrev s_wrong_watch : Stmt := top 22
theorem sc_wrong_watch : FnScope ["watches", "at", "watch"] ["watches"] (defScope s_wrong_watch) := ⟨rfl, rfl, rfl, by decide +kernel, rfl, by decide +kernel, by decide +kernel⟩
abbrev s_check_book : Stmt := top 23
theorem sc_check_book : FnScope ["book"] ["book"] (defScope s_check_book) := ⟨rfl, rfl, rfl, by decide +kernel, rfl, by decide +kernel, by decide +kernel⟩
abbrev s_check_asked : Stmt := top 24
theorem sc_check_asked : FnScope ["book", "word"] ["book", "word"] (defScope s_check_asked) := ⟨rfl, rfl, rfl, by decide +kernel, rfl, by decide +kernel, by decide +kernel⟩
abbrev s_is_step : Stmt := top 29
theorem sc_is_step : FnScope ["thing"] ["thing"] (defScope s_is_step) := ⟨rfl, rfl, rfl, by decide +kernel, rfl, by decide +kernel, by decide +kernel⟩
abbrev s_is_any_rule : Stmt := top 30
theorem sc_is_any_rule : FnScope ["thing", "item"] ["thing"] (defScope s_is_any_rule) := ⟨rfl, rfl, rfl, by decide +kernel, rfl, by decide +kernel, by decide +kernel⟩
abbrev s_check_rule : Stmt := top 31
theorem sc_check_rule : FnScope ["rule"] ["rule"] (defScope s_check_rule) := ⟨rfl, rfl, rfl, by decide +kernel, rfl, by decide +kernel, by decide +kernel⟩
abbrev s_spots_along : Stmt := top 32
theorem sc_spots_along : FnScope ["word", "rule", "spots", "kind", "watch", "here", "there", "low", "high"] ["word", "rule"] (defScope s_spots_along) := ⟨rfl, rfl, rfl, by decide +kernel, rfl, by decide +kernel, by decide +kernel⟩
abbrev s_steps_along : Stmt := top 33
theorem sc_steps_along : FnScope ["word", "spots", "here", "there"] ["word", "spots"] (defScope s_steps_along) := ⟨rfl, rfl, rfl, by decide +kernel, rfl, by decide +kernel, by decide +kernel⟩
abbrev s_step_between : Stmt := top 34
theorem sc_step_between : FnScope ["word", "here", "there"] ["word", "here", "there"] (defScope s_step_between) := ⟨rfl, rfl, rfl, by decide +kernel, rfl, by decide +kernel, by decide +kernel⟩
abbrev s_links_of : Stmt := top 38
theorem sc_links_of : FnScope ["book", "word"] ["book", "word"] (defScope s_links_of) := ⟨rfl, rfl, rfl, by decide +kernel, rfl, by decide +kernel, by decide +kernel⟩
abbrev s_links_through : Stmt := top 39
theorem sc_links_through : FnScope ["pieces", "word", "links", "_", "piece", "low", "high", "spots"] ["pieces", "word"] (defScope s_links_through) := ⟨rfl, rfl, rfl, by decide +kernel, rfl, by decide +kernel, by decide +kernel⟩
abbrev s_steps_to : Stmt := top 40
theorem sc_steps_to : FnScope ["links", "goal", "steps", "ring", "farther", "spot", "mate"] ["links", "goal"] (defScope s_steps_to) := ⟨rfl, rfl, rfl, by decide +kernel, rfl, by decide +kernel, by decide +kernel⟩
abbrev s_fewest_walk : Stmt := top 41
theorem sc_fewest_walk : FnScope ["book", "word", "links", "steps", "walk", "here", "nearer", "spot"] ["book", "word"] (defScope s_fewest_walk) := ⟨rfl, rfl, rfl, by decide +kernel, rfl, by decide +kernel, by decide +kernel⟩
abbrev s_calmest_walk : Stmt := top 42
theorem sc_calmest_walk : FnScope ["book", "word", "links", "costs", "here", "way", "walk"] ["book", "word"] (defScope s_calmest_walk) := ⟨rfl, rfl, rfl, by decide +kernel, rfl, by decide +kernel, by decide +kernel⟩
abbrev s_costs_to : Stmt := top 43
theorem sc_costs_to : FnScope ["links", "goal", "costs", "queue", "turns", "steps", "spot", "way", "earlier"] ["links", "goal"] (defScope s_costs_to) := ⟨rfl, rfl, rfl, by decide +kernel, rfl, by decide +kernel, by decide +kernel⟩
abbrev s_calmest_step : Stmt := top 44
theorem sc_calmest_step : FnScope ["links", "costs", "here", "way", "good", "spot", "onward", "turns", "steps", "turned"] ["links", "costs", "here", "way"] (defScope s_calmest_step) := ⟨rfl, rfl, rfl, by decide +kernel, rfl, by decide +kernel, by decide +kernel⟩
abbrev s_way_between : Stmt := top 45
theorem sc_way_between : FnScope ["here", "there"] ["here", "there"] (defScope s_way_between) := ⟨rfl, rfl, rfl, by decide +kernel, rfl, by decide +kernel, by decide +kernel⟩
abbrev s_zigzag : Stmt := top 47
theorem sc_zigzag : FnScope ["book", "word"] ["book", "word"] (defScope s_zigzag) := ⟨rfl, rfl, rfl, by decide +kernel, rfl, by decide +kernel, by decide +kernel⟩
abbrev s_calmest : Stmt := top 48
theorem sc_calmest : FnScope ["book", "word"] ["book", "word"] (defScope s_calmest) := ⟨rfl, rfl, rfl, by decide +kernel, rfl, by decide +kernel, by decide +kernel⟩
abbrev s_is_zigzag : Stmt := top 49
theorem sc_is_zigzag : FnScope ["book", "word", "thing", "item", "links", "here", "there"] ["book", "word", "thing"] (defScope s_is_zigzag) := ⟨rfl, rfl, rfl, by decide +kernel, rfl, by decide +kernel, by decide +kernel⟩
abbrev s_is_spot : Stmt := top 50
theorem sc_is_spot : FnScope ["word", "thing"] ["word", "thing"] (defScope s_is_spot) := ⟨rfl, rfl, rfl, by decide +kernel, rfl, by decide +kernel, by decide +kernel⟩
abbrev s_followed : Stmt := top 52
theorem sc_followed : FnScope ["word", "rule"] ["word", "rule"] (defScope s_followed) := ⟨rfl, rfl, rfl, by decide +kernel, rfl, by decide +kernel, by decide +kernel⟩
abbrev s_rule_of : Stmt := top 53
theorem sc_rule_of : FnScope ["book", "word", "zigzag"] ["book", "word", "zigzag"] (defScope s_rule_of) := ⟨rfl, rfl, rfl, by decide +kernel, rfl, by decide +kernel, by decide +kernel⟩
abbrev s_rule : Stmt := top 54
theorem sc_rule : FnScope ["book", "word", "walk"] ["book", "word"] (defScope s_rule) := ⟨rfl, rfl, rfl, by decide +kernel, rfl, by decide +kernel, by decide +kernel⟩
abbrev s_calm_rule : Stmt := top 55
theorem sc_calm_rule : FnScope ["book", "word", "walk"] ["book", "word"] (defScope s_calm_rule) := ⟨rfl, rfl, rfl, by decide +kernel, rfl, by decide +kernel, by decide +kernel⟩
abbrev s_is_rule : Stmt := top 56
theorem sc_is_rule : FnScope ["book", "word", "thing", "_", "watch"] ["book", "word", "thing"] (defScope s_is_rule) := ⟨rfl, rfl, rfl, by decide +kernel, rfl, by decide +kernel, by decide +kernel⟩
abbrev s_law_tape : Stmt := top 58
theorem sc_law_tape : FnScope ["script"] ["script"] (defScope s_law_tape) := ⟨rfl, rfl, rfl, by decide +kernel, rfl, by decide +kernel, by decide +kernel⟩
abbrev s_law_pick : Stmt := top 59
theorem sc_law_pick : FnScope ["tape", "size", "digit", "cell", "mixed"] ["tape", "size"] (defScope s_law_pick) := ⟨rfl, rfl, rfl, by decide +kernel, rfl, by decide +kernel, by decide +kernel⟩
abbrev s_law_flag : Stmt := top 60
theorem sc_law_flag : FnScope ["told", "due"] ["told", "due"] (defScope s_law_flag) := ⟨rfl, rfl, rfl, by decide +kernel, rfl, by decide +kernel, by decide +kernel⟩
abbrev s_law_letters : Stmt := top 61
theorem sc_law_letters : FnScope ["tape", "many", "start", "step", "k"] ["tape", "many"] (defScope s_law_letters) := ⟨rfl, rfl, rfl, by decide +kernel, rfl, by decide +kernel, by decide +kernel⟩
abbrev s_law_word : Stmt := top 62
theorem sc_law_word : FnScope ["tape", "most", "size", "kind", "letters", "part", "k"] ["tape", "most"] (defScope s_law_word) := ⟨rfl, rfl, rfl, by decide +kernel, rfl, by decide +kernel, by decide +kernel⟩
abbrev s_law_watch : Stmt := top 63
theorem sc_law_watch : FnScope ["tape", "word", "most", "size", "at", "k"] ["tape", "word", "most"] (defScope s_law_watch) := ⟨rfl, rfl, rfl, by decide +kernel, rfl, by decide +kernel, by decide +kernel⟩
abbrev s_law_watches : Stmt := top 64
theorem sc_law_watches : FnScope ["tape", "word", "many", "most", "found", "low", "high", "piece", "k", "watch"] ["tape", "word", "many", "most"] (defScope s_law_watches) := ⟨rfl, rfl, rfl, by decide +kernel, rfl, by decide +kernel, by decide +kernel⟩
abbrev s_law_near : Stmt := top 65
theorem sc_law_near : FnScope ["watches", "word", "spot", "found", "other"] ["watches", "word", "spot"] (defScope s_law_near) := ⟨rfl, rfl, rfl, by decide +kernel, rfl, by decide +kernel, by decide +kernel⟩
abbrev s_law_zigzags : Stmt := top 66
theorem sc_law_zigzags : FnScope ["watches", "word", "found", "ways", "step", "later", "way", "spot"] ["watches", "word"] (defScope s_law_zigzags) := ⟨rfl, rfl, rfl, by decide +kernel, rfl, by decide +kernel, by decide +kernel⟩
abbrev s_law_steps : Stmt := top 67
theorem sc_law_steps : FnScope ["word", "spots", "steps", "k"] ["word", "spots"] (defScope s_law_steps) := ⟨rfl, rfl, rfl, by decide +kernel, rfl, by decide +kernel, by decide +kernel⟩
abbrev s_law_right : Stmt := top 68
theorem sc_law_right : FnScope ["book", "word", "way", "told"] ["book", "word", "way", "told"] (defScope s_law_right) := ⟨rfl, rfl, rfl, by decide +kernel, rfl, by decide +kernel, by decide +kernel⟩
abbrev s_law : Stmt := top 69
theorem sc_law : FnScope ["script", "tape", "word", "book", "watches", "ways", "way"] ["script"] (defScope s_law) := ⟨rfl, rfl, rfl, by decide +kernel, rfl, by decide +kernel, by decide +kernel⟩
structure Top (K : PySem.W.Frag) (mg : Str → Option Value) where
  C_Book : Addr
  cl_Book : Cls K C_Book
  g_Book : mg "Book" = some (.ref C_Book)
  na_Book_watches : NoAttr K C_Book "watches"
  f_is_integer : Addr
  fd_is_integer : FuncData
  F_is_integer : Fun K "is_integer" "is_integer" s_is_integer f_is_integer fd_is_integer
  b_is_integer : Binds K fd_is_integer ["thing"] []
  g_is_integer : mg "is_integer" = some (.ref f_is_integer)
  f_is_row : Addr
  fd_is_row : FuncData
  F_is_row : Fun K "is_row" "is_row" s_is_row f_is_row fd_is_row
  b_is_row : Binds K fd_is_row ["thing"] []
  g_is_row : mg "is_row" = some (.ref f_is_row)
  f_is_word : Addr
  fd_is_word : FuncData
  F_is_word : Fun K "is_word" "is_word" s_is_word f_is_word fd_is_word
  b_is_word : Binds K fd_is_word ["thing"] []
  g_is_word : mg "is_word" = some (.ref f_is_word)
  f_is_watch : Addr
  fd_is_watch : FuncData
  F_is_watch : Fun K "is_watch" "is_watch" s_is_watch f_is_watch fd_is_watch
  b_is_watch : Binds K fd_is_watch ["thing"] []
  g_is_watch : mg "is_watch" = some (.ref f_is_watch)
  f_has_letters : Addr
  fd_has_letters : FuncData
  F_has_letters : Fun K "has_letters" "has_letters" s_has_letters f_has_letters fd_has_letters
  b_has_letters : Binds K fd_has_letters ["thing", "most"] []
  g_has_letters : mg "has_letters" = some (.ref f_has_letters)
  f_check_word : Addr
  fd_check_word : FuncData
  F_check_word : Fun K "check_word" "check_word" s_check_word f_check_word fd_check_word
  b_check_word : Binds K fd_check_word ["word"] []
  g_check_word : mg "check_word" = some (.ref f_check_word)
  f_Book__init : Addr
  fd_Book__init : FuncData
  F_Book__init : Fun K "__init__" "Book.__init__" s_Book__init f_Book__init fd_Book__init
  b_Book__init : Binds K fd_Book__init ["self", "watches"] []
  M_Book : Mk K C_Book f_Book__init
  f_Book_has : Addr
  fd_Book_has : FuncData
  F_Book_has : Fun K "has" "Book.has" s_Book_has f_Book_has fd_Book_has
  b_Book_has : Binds K fd_Book_has ["self", "thing"] []
  m_Book_has : Meth K C_Book "has" f_Book_has
  f_wrong_watch : Addr
  fd_wrong_watch : FuncData
  F_wrong_watch : Fun K "wrong_watch" "wrong_watch" s_wrong_watch f_wrong_watch fd_wrong_watch
  b_wrong_watch : Binds K fd_wrong_watch ["watches"] []
  g_wrong_watch : mg "wrong_watch" = some (.ref f_wrong_watch)
  f_check_book : Addr
  fd_check_book : FuncData
  F_check_book : Fun K "check_book" "check_book" s_check_book f_check_book fd_check_book
  b_check_book : Binds K fd_check_book ["book"] []
  g_check_book : mg "check_book" = some (.ref f_check_book)
  f_check_asked : Addr
  fd_check_asked : FuncData
  F_check_asked : Fun K "check_asked" "check_asked" s_check_asked f_check_asked fd_check_asked
  b_check_asked : Binds K fd_check_asked ["book", "word"] []
  g_check_asked : mg "check_asked" = some (.ref f_check_asked)
  f_is_step : Addr
  fd_is_step : FuncData
  F_is_step : Fun K "is_step" "is_step" s_is_step f_is_step fd_is_step
  b_is_step : Binds K fd_is_step ["thing"] []
  g_is_step : mg "is_step" = some (.ref f_is_step)
  f_is_any_rule : Addr
  fd_is_any_rule : FuncData
  F_is_any_rule : Fun K "is_any_rule" "is_any_rule" s_is_any_rule f_is_any_rule fd_is_any_rule
  b_is_any_rule : Binds K fd_is_any_rule ["thing"] []
  g_is_any_rule : mg "is_any_rule" = some (.ref f_is_any_rule)
  f_check_rule : Addr
  fd_check_rule : FuncData
  F_check_rule : Fun K "check_rule" "check_rule" s_check_rule f_check_rule fd_check_rule
  b_check_rule : Binds K fd_check_rule ["rule"] []
  g_check_rule : mg "check_rule" = some (.ref f_check_rule)
  f_spots_along : Addr
  fd_spots_along : FuncData
  F_spots_along : Fun K "spots_along" "spots_along" s_spots_along f_spots_along fd_spots_along
  b_spots_along : Binds K fd_spots_along ["word", "rule"] []
  g_spots_along : mg "spots_along" = some (.ref f_spots_along)
  f_steps_along : Addr
  fd_steps_along : FuncData
  F_steps_along : Fun K "steps_along" "steps_along" s_steps_along f_steps_along fd_steps_along
  b_steps_along : Binds K fd_steps_along ["word", "spots"] []
  g_steps_along : mg "steps_along" = some (.ref f_steps_along)
  f_step_between : Addr
  fd_step_between : FuncData
  F_step_between : Fun K "step_between" "step_between" s_step_between f_step_between fd_step_between
  b_step_between : Binds K fd_step_between ["word", "here", "there"] []
  g_step_between : mg "step_between" = some (.ref f_step_between)
  f_links_of : Addr
  fd_links_of : FuncData
  F_links_of : Fun K "links_of" "links_of" s_links_of f_links_of fd_links_of
  b_links_of : Binds K fd_links_of ["book", "word"] []
  g_links_of : mg "links_of" = some (.ref f_links_of)
  f_links_through : Addr
  fd_links_through : FuncData
  F_links_through : Fun K "links_through" "links_through" s_links_through f_links_through fd_links_through
  b_links_through : Binds K fd_links_through ["pieces", "word"] []
  g_links_through : mg "links_through" = some (.ref f_links_through)
  f_steps_to : Addr
  fd_steps_to : FuncData
  F_steps_to : Fun K "steps_to" "steps_to" s_steps_to f_steps_to fd_steps_to
  b_steps_to : Binds K fd_steps_to ["links", "goal"] []
  g_steps_to : mg "steps_to" = some (.ref f_steps_to)
  f_fewest_walk : Addr
  fd_fewest_walk : FuncData
  F_fewest_walk : Fun K "fewest_walk" "fewest_walk" s_fewest_walk f_fewest_walk fd_fewest_walk
  b_fewest_walk : Binds K fd_fewest_walk ["book", "word"] []
  g_fewest_walk : mg "fewest_walk" = some (.ref f_fewest_walk)
  f_calmest_walk : Addr
  fd_calmest_walk : FuncData
  F_calmest_walk : Fun K "calmest_walk" "calmest_walk" s_calmest_walk f_calmest_walk fd_calmest_walk
  b_calmest_walk : Binds K fd_calmest_walk ["book", "word"] []
  g_calmest_walk : mg "calmest_walk" = some (.ref f_calmest_walk)
  f_costs_to : Addr
  fd_costs_to : FuncData
  F_costs_to : Fun K "costs_to" "costs_to" s_costs_to f_costs_to fd_costs_to
  b_costs_to : Binds K fd_costs_to ["links", "goal"] []
  g_costs_to : mg "costs_to" = some (.ref f_costs_to)
  f_calmest_step : Addr
  fd_calmest_step : FuncData
  F_calmest_step : Fun K "calmest_step" "calmest_step" s_calmest_step f_calmest_step fd_calmest_step
  b_calmest_step : Binds K fd_calmest_step ["links", "costs", "here", "way"] []
  g_calmest_step : mg "calmest_step" = some (.ref f_calmest_step)
  f_way_between : Addr
  fd_way_between : FuncData
  F_way_between : Fun K "way_between" "way_between" s_way_between f_way_between fd_way_between
  b_way_between : Binds K fd_way_between ["here", "there"] []
  g_way_between : mg "way_between" = some (.ref f_way_between)
  f_zigzag : Addr
  fd_zigzag : FuncData
  F_zigzag : Fun K "zigzag" "zigzag" s_zigzag f_zigzag fd_zigzag
  b_zigzag : Binds K fd_zigzag ["book", "word"] []
  g_zigzag : mg "zigzag" = some (.ref f_zigzag)
  f_calmest : Addr
  fd_calmest : FuncData
  F_calmest : Fun K "calmest" "calmest" s_calmest f_calmest fd_calmest
  b_calmest : Binds K fd_calmest ["book", "word"] []
  g_calmest : mg "calmest" = some (.ref f_calmest)
  f_is_zigzag : Addr
  fd_is_zigzag : FuncData
  F_is_zigzag : Fun K "is_zigzag" "is_zigzag" s_is_zigzag f_is_zigzag fd_is_zigzag
  b_is_zigzag : Binds K fd_is_zigzag ["book", "word", "thing"] []
  g_is_zigzag : mg "is_zigzag" = some (.ref f_is_zigzag)
  f_is_spot : Addr
  fd_is_spot : FuncData
  F_is_spot : Fun K "is_spot" "is_spot" s_is_spot f_is_spot fd_is_spot
  b_is_spot : Binds K fd_is_spot ["word", "thing"] []
  g_is_spot : mg "is_spot" = some (.ref f_is_spot)
  f_followed : Addr
  fd_followed : FuncData
  F_followed : Fun K "followed" "followed" s_followed f_followed fd_followed
  b_followed : Binds K fd_followed ["word", "rule"] []
  g_followed : mg "followed" = some (.ref f_followed)
  f_rule_of : Addr
  fd_rule_of : FuncData
  F_rule_of : Fun K "rule_of" "rule_of" s_rule_of f_rule_of fd_rule_of
  b_rule_of : Binds K fd_rule_of ["book", "word", "zigzag"] []
  g_rule_of : mg "rule_of" = some (.ref f_rule_of)
  f_rule : Addr
  fd_rule : FuncData
  F_rule : Fun K "rule" "rule" s_rule f_rule fd_rule
  b_rule : Binds K fd_rule ["book", "word"] []
  g_rule : mg "rule" = some (.ref f_rule)
  f_calm_rule : Addr
  fd_calm_rule : FuncData
  F_calm_rule : Fun K "calm_rule" "calm_rule" s_calm_rule f_calm_rule fd_calm_rule
  b_calm_rule : Binds K fd_calm_rule ["book", "word"] []
  g_calm_rule : mg "calm_rule" = some (.ref f_calm_rule)
  f_is_rule : Addr
  fd_is_rule : FuncData
  F_is_rule : Fun K "is_rule" "is_rule" s_is_rule f_is_rule fd_is_rule
  b_is_rule : Binds K fd_is_rule ["book", "word", "thing"] []
  g_is_rule : mg "is_rule" = some (.ref f_is_rule)
  f_law_tape : Addr
  fd_law_tape : FuncData
  F_law_tape : Fun K "_law_tape" "_law_tape" s_law_tape f_law_tape fd_law_tape
  b_law_tape : Binds K fd_law_tape ["script"] []
  g_law_tape : mg "_law_tape" = some (.ref f_law_tape)
  f_law_pick : Addr
  fd_law_pick : FuncData
  F_law_pick : Fun K "_law_pick" "_law_pick" s_law_pick f_law_pick fd_law_pick
  b_law_pick : Binds K fd_law_pick ["tape", "size"] []
  g_law_pick : mg "_law_pick" = some (.ref f_law_pick)
  f_law_flag : Addr
  fd_law_flag : FuncData
  F_law_flag : Fun K "_law_flag" "_law_flag" s_law_flag f_law_flag fd_law_flag
  b_law_flag : Binds K fd_law_flag ["told", "due"] []
  g_law_flag : mg "_law_flag" = some (.ref f_law_flag)
  f_law_letters : Addr
  fd_law_letters : FuncData
  F_law_letters : Fun K "_law_letters" "_law_letters" s_law_letters f_law_letters fd_law_letters
  b_law_letters : Binds K fd_law_letters ["tape", "many"] []
  g_law_letters : mg "_law_letters" = some (.ref f_law_letters)
  f_law_word : Addr
  fd_law_word : FuncData
  F_law_word : Fun K "_law_word" "_law_word" s_law_word f_law_word fd_law_word
  b_law_word : Binds K fd_law_word ["tape", "most"] []
  g_law_word : mg "_law_word" = some (.ref f_law_word)
  f_law_watch : Addr
  fd_law_watch : FuncData
  F_law_watch : Fun K "_law_watch" "_law_watch" s_law_watch f_law_watch fd_law_watch
  b_law_watch : Binds K fd_law_watch ["tape", "word", "most"] []
  g_law_watch : mg "_law_watch" = some (.ref f_law_watch)
  f_law_watches : Addr
  fd_law_watches : FuncData
  F_law_watches : Fun K "_law_watches" "_law_watches" s_law_watches f_law_watches fd_law_watches
  b_law_watches : Binds K fd_law_watches ["tape", "word", "many", "most"] []
  g_law_watches : mg "_law_watches" = some (.ref f_law_watches)
  f_law_near : Addr
  fd_law_near : FuncData
  F_law_near : Fun K "_law_near" "_law_near" s_law_near f_law_near fd_law_near
  b_law_near : Binds K fd_law_near ["watches", "word", "spot"] []
  g_law_near : mg "_law_near" = some (.ref f_law_near)
  f_law_zigzags : Addr
  fd_law_zigzags : FuncData
  F_law_zigzags : Fun K "_law_zigzags" "_law_zigzags" s_law_zigzags f_law_zigzags fd_law_zigzags
  b_law_zigzags : Binds K fd_law_zigzags ["watches", "word"] []
  g_law_zigzags : mg "_law_zigzags" = some (.ref f_law_zigzags)
  f_law_steps : Addr
  fd_law_steps : FuncData
  F_law_steps : Fun K "_law_steps" "_law_steps" s_law_steps f_law_steps fd_law_steps
  b_law_steps : Binds K fd_law_steps ["word", "spots"] []
  g_law_steps : mg "_law_steps" = some (.ref f_law_steps)
  f_law_right : Addr
  fd_law_right : FuncData
  F_law_right : Fun K "_law_right" "_law_right" s_law_right f_law_right fd_law_right
  b_law_right : Binds K fd_law_right ["book", "word", "way", "told"] []
  g_law_right : mg "_law_right" = some (.ref f_law_right)
  f_law : Addr
  fd_law : FuncData
  F_law : Fun K "law" "law" s_law f_law fd_law
  b_law : Binds K fd_law ["script"] []
  g_law : mg "law" = some (.ref f_law)
  n_all : mg "all" = none
  n_bool : mg "bool" = none
  n_enumerate : mg "enumerate" = none
  n_int : mg "int" = none
  n_isinstance : mg "isinstance" = none
  n_len : mg "len" = none
  n_list : mg "list" = none
  n_max : mg "max" = none
  n_min : mg "min" = none
  n_range : mg "range" = none
  n_sorted : mg "sorted" = none
  n_str : mg "str" = none
  n_tuple : mg "tuple" = none
  n_zip : mg "zip" = none
  n_set : mg "set" = none
  k_MOST_LETTERS : PySem.Tok
  g_MOST_LETTERS : mg "MOST_LETTERS" = some (.int 40 k_MOST_LETTERS)
  k_MOST_WATCH_LETTERS : PySem.Tok
  g_MOST_WATCH_LETTERS : mg "MOST_WATCH_LETTERS" = some (.int 12 k_MOST_WATCH_LETTERS)
  k_MOST_WATCHES : PySem.Tok
  g_MOST_WATCHES : mg "MOST_WATCHES" = some (.int 12 k_MOST_WATCHES)
  hnO : PySem.W.specialIn K (.builtin "object.__class__") "__get__" = some (some (.builtin "getset_descriptor.__get__"))
  htO : PySem.W.takesIn K (.builtin "object.__class__") = some true
  ha_Book : PySem.W.findIn K (.ref C_Book) "__class__" = some (some (.builtin "object.__class__"))
  hm_Book : PySem.W.mroIn K C_Book (.type "object") = some true
  kBB : PySem.W.kitOne K (.ref C_Book) (.ref C_Book) = some true
  k_MOST_STEPS : PySem.Tok
  g_MOST_STEPS : mg "MOST_STEPS" = some (.int 80 k_MOST_STEPS)
  k_UP : PySem.Tok
  g_UP : mg "UP" = some (.int 1 k_UP)
  k_DOWN : PySem.Tok
  g_DOWN : mg "DOWN" = some (.int (-1) k_DOWN)
  k_ON : PySem.Tok
  g_ON : mg "ON" = some (.str (Str.ofString "on") k_ON)
  k_BACK : PySem.Tok
  g_BACK : mg "BACK" = some (.str (Str.ofString "back") k_BACK)
  g_heappush : mg "heappush" = some (.builtin "_heapq.heappush")
  g_heappop : mg "heappop" = some (.builtin "_heapq.heappop")
/-! ### the head -/
def faH0 : List He.Fa := [.glo "Book", .glo "is_integer", .glo "is_row", .glo "is_word", .glo "is_watch", .glo "has_letters", .glo "check_word", .glo "wrong_watch", .glo "check_book", .glo "check_asked", .glo "is_step", .glo "is_any_rule", .glo "check_rule", .glo "spots_along", .glo "steps_along", .glo "step_between", .glo "links_of", .glo "links_through", .glo "steps_to", .glo "fewest_walk", .glo "calmest_walk", .glo "costs_to", .glo "calmest_step", .glo "way_between", .glo "zigzag", .glo "calmest", .glo "is_zigzag", .glo "is_spot", .glo "followed", .glo "rule_of"]
def faH1 : List He.Fa := [.glo "rule", .glo "calm_rule", .glo "is_rule", .glo "_law_tape", .glo "_law_pick", .glo "_law_flag", .glo "_law_letters", .glo "_law_word", .glo "_law_watch", .glo "_law_watches", .glo "_law_near", .glo "_law_zigzags", .glo "_law_steps", .glo "_law_right", .glo "law", .free "all", .free "bool", .free "enumerate", .free "int", .free "isinstance", .free "len", .free "list", .free "max", .free "min", .free "range", .free "sorted", .free "str", .free "tuple", .free "zip", .free "set"]
def faH2 : List He.Fa := [.int "MOST_LETTERS" 40, .int "MOST_WATCH_LETTERS" 12, .int "MOST_WATCHES" 12, .int "MOST_STEPS" 80, .int "UP" 1, .int "DOWN" (-1), .str "ON" "on", .str "BACK" "back", .cls "Book", .noat "Book" "watches", .meth "Book" "has", .mkr "Book"]
def faH : List He.Fa := faH0 ++ faH1 ++ faH2
def dH_is_integer : He.DefD := ⟨("is_integer", none), "is_integer", "is_integer", defArgs s_is_integer, defBody s_is_integer, defScope s_is_integer, [], []⟩
def dH_is_row : He.DefD := ⟨("is_row", none), "is_row", "is_row", defArgs s_is_row, defBody s_is_row, defScope s_is_row, [], []⟩
def dH_is_word : He.DefD := ⟨("is_word", none), "is_word", "is_word", defArgs s_is_word, defBody s_is_word, defScope s_is_word, [], []⟩
def dH_is_watch : He.DefD := ⟨("is_watch", none), "is_watch", "is_watch", defArgs s_is_watch, defBody s_is_watch, defScope s_is_watch, [], []⟩
def dH_has_letters : He.DefD := ⟨("has_letters", none), "has_letters", "has_letters", defArgs s_has_letters, defBody s_has_letters, defScope s_has_letters, [], []⟩
def dH_check_word : He.DefD := ⟨("check_word", none), "check_word", "check_word", defArgs s_check_word, defBody s_check_word, defScope s_check_word, [], []⟩
def dH_Book__init : He.DefD := ⟨("Book", some "__init__"), "__init__", "Book.__init__", defArgs s_Book__init, defBody s_Book__init, defScope s_Book__init, [], []⟩
def dH_Book_has : He.DefD := ⟨("Book", some "has"), "has", "Book.has", defArgs s_Book_has, defBody s_Book_has, defScope s_Book_has, [], []⟩
def dH_wrong_watch : He.DefD := ⟨("wrong_watch", none), "wrong_watch", "wrong_watch", defArgs s_wrong_watch, defBody s_wrong_watch, defScope s_wrong_watch, [], []⟩
def dH_check_book : He.DefD := ⟨("check_book", none), "check_book", "check_book", defArgs s_check_book, defBody s_check_book, defScope s_check_book, [], []⟩
def dH_check_asked : He.DefD := ⟨("check_asked", none), "check_asked", "check_asked", defArgs s_check_asked, defBody s_check_asked, defScope s_check_asked, [], []⟩
def dH_is_step : He.DefD := ⟨("is_step", none), "is_step", "is_step", defArgs s_is_step, defBody s_is_step, defScope s_is_step, [], []⟩
def dH_is_any_rule : He.DefD := ⟨("is_any_rule", none), "is_any_rule", "is_any_rule", defArgs s_is_any_rule, defBody s_is_any_rule, defScope s_is_any_rule, [], []⟩
def dH_check_rule : He.DefD := ⟨("check_rule", none), "check_rule", "check_rule", defArgs s_check_rule, defBody s_check_rule, defScope s_check_rule, [], []⟩
def dH_spots_along : He.DefD := ⟨("spots_along", none), "spots_along", "spots_along", defArgs s_spots_along, defBody s_spots_along, defScope s_spots_along, [], []⟩
def dH_steps_along : He.DefD := ⟨("steps_along", none), "steps_along", "steps_along", defArgs s_steps_along, defBody s_steps_along, defScope s_steps_along, [], []⟩
def dH_step_between : He.DefD := ⟨("step_between", none), "step_between", "step_between", defArgs s_step_between, defBody s_step_between, defScope s_step_between, [], []⟩
def dH_links_of : He.DefD := ⟨("links_of", none), "links_of", "links_of", defArgs s_links_of, defBody s_links_of, defScope s_links_of, [], []⟩
def dH_links_through : He.DefD := ⟨("links_through", none), "links_through", "links_through", defArgs s_links_through, defBody s_links_through, defScope s_links_through, [], []⟩
def dH_steps_to : He.DefD := ⟨("steps_to", none), "steps_to", "steps_to", defArgs s_steps_to, defBody s_steps_to, defScope s_steps_to, [], []⟩
def dH_fewest_walk : He.DefD := ⟨("fewest_walk", none), "fewest_walk", "fewest_walk", defArgs s_fewest_walk, defBody s_fewest_walk, defScope s_fewest_walk, [], []⟩
def dH_calmest_walk : He.DefD := ⟨("calmest_walk", none), "calmest_walk", "calmest_walk", defArgs s_calmest_walk, defBody s_calmest_walk, defScope s_calmest_walk, [], []⟩
def dH_costs_to : He.DefD := ⟨("costs_to", none), "costs_to", "costs_to", defArgs s_costs_to, defBody s_costs_to, defScope s_costs_to, [], []⟩
def dH_calmest_step : He.DefD := ⟨("calmest_step", none), "calmest_step", "calmest_step", defArgs s_calmest_step, defBody s_calmest_step, defScope s_calmest_step, [], []⟩
def dH_way_between : He.DefD := ⟨("way_between", none), "way_between", "way_between", defArgs s_way_between, defBody s_way_between, defScope s_way_between, [], []⟩
def dH_zigzag : He.DefD := ⟨("zigzag", none), "zigzag", "zigzag", defArgs s_zigzag, defBody s_zigzag, defScope s_zigzag, [], []⟩
def dH_calmest : He.DefD := ⟨("calmest", none), "calmest", "calmest", defArgs s_calmest, defBody s_calmest, defScope s_calmest, [], []⟩
def dH_is_zigzag : He.DefD := ⟨("is_zigzag", none), "is_zigzag", "is_zigzag", defArgs s_is_zigzag, defBody s_is_zigzag, defScope s_is_zigzag, [], []⟩
def dH_is_spot : He.DefD := ⟨("is_spot", none), "is_spot", "is_spot", defArgs s_is_spot, defBody s_is_spot, defScope s_is_spot, [], []⟩
def dH_followed : He.DefD := ⟨("followed", none), "followed", "followed", defArgs s_followed, defBody s_followed, defScope s_followed, [], []⟩
def dH_rule_of : He.DefD := ⟨("rule_of", none), "rule_of", "rule_of", defArgs s_rule_of, defBody s_rule_of, defScope s_rule_of, [], []⟩
def dH_rule : He.DefD := ⟨("rule", none), "rule", "rule", defArgs s_rule, defBody s_rule, defScope s_rule, [], []⟩
def dH_calm_rule : He.DefD := ⟨("calm_rule", none), "calm_rule", "calm_rule", defArgs s_calm_rule, defBody s_calm_rule, defScope s_calm_rule, [], []⟩
def dH_is_rule : He.DefD := ⟨("is_rule", none), "is_rule", "is_rule", defArgs s_is_rule, defBody s_is_rule, defScope s_is_rule, [], []⟩
def dH_law_tape : He.DefD := ⟨("_law_tape", none), "_law_tape", "_law_tape", defArgs s_law_tape, defBody s_law_tape, defScope s_law_tape, [], []⟩
def dH_law_pick : He.DefD := ⟨("_law_pick", none), "_law_pick", "_law_pick", defArgs s_law_pick, defBody s_law_pick, defScope s_law_pick, [], []⟩
def dH_law_flag : He.DefD := ⟨("_law_flag", none), "_law_flag", "_law_flag", defArgs s_law_flag, defBody s_law_flag, defScope s_law_flag, [], []⟩
def dH_law_letters : He.DefD := ⟨("_law_letters", none), "_law_letters", "_law_letters", defArgs s_law_letters, defBody s_law_letters, defScope s_law_letters, [], []⟩
def dH_law_word : He.DefD := ⟨("_law_word", none), "_law_word", "_law_word", defArgs s_law_word, defBody s_law_word, defScope s_law_word, [], []⟩
def dH_law_watch : He.DefD := ⟨("_law_watch", none), "_law_watch", "_law_watch", defArgs s_law_watch, defBody s_law_watch, defScope s_law_watch, [], []⟩
def dH_law_watches : He.DefD := ⟨("_law_watches", none), "_law_watches", "_law_watches", defArgs s_law_watches, defBody s_law_watches, defScope s_law_watches, [], []⟩
def dH_law_near : He.DefD := ⟨("_law_near", none), "_law_near", "_law_near", defArgs s_law_near, defBody s_law_near, defScope s_law_near, [], []⟩
def dH_law_zigzags : He.DefD := ⟨("_law_zigzags", none), "_law_zigzags", "_law_zigzags", defArgs s_law_zigzags, defBody s_law_zigzags, defScope s_law_zigzags, [], []⟩
def dH_law_steps : He.DefD := ⟨("_law_steps", none), "_law_steps", "_law_steps", defArgs s_law_steps, defBody s_law_steps, defScope s_law_steps, [], []⟩
def dH_law_right : He.DefD := ⟨("_law_right", none), "_law_right", "_law_right", defArgs s_law_right, defBody s_law_right, defScope s_law_right, [], []⟩
def dH_law : He.DefD := ⟨("law", none), "law", "law", defArgs s_law, defBody s_law, defScope s_law, [], []⟩
def fnH0 : List He.DefD := [dH_is_integer, dH_is_row, dH_is_word, dH_is_watch, dH_has_letters, dH_check_word, dH_Book__init, dH_Book_has, dH_wrong_watch, dH_check_book, dH_check_asked, dH_is_step, dH_is_any_rule, dH_check_rule, dH_spots_along, dH_steps_along, dH_step_between, dH_links_of, dH_links_through, dH_steps_to, dH_fewest_walk, dH_calmest_walk, dH_costs_to, dH_calmest_step, dH_way_between]
def fnH1 : List He.DefD := [dH_zigzag, dH_calmest, dH_is_zigzag, dH_is_spot, dH_followed, dH_rule_of, dH_rule, dH_calm_rule, dH_is_rule, dH_law_tape, dH_law_pick, dH_law_flag, dH_law_letters, dH_law_word, dH_law_watch, dH_law_watches, dH_law_near, dH_law_zigzags, dH_law_steps, dH_law_right, dH_law]
def fnH : List He.DefD := fnH0 ++ fnH1
def x_hnO (K : PySem.W.Frag) : Bool := OQ.isB (PySem.W.specialIn K (.builtin "object.__class__") "__get__") (some (.builtin "getset_descriptor.__get__"))
def x_htO (K : PySem.W.Frag) : Bool := decide (PySem.W.takesIn K (.builtin "object.__class__") = some true)
def x_haBook (K : PySem.W.Frag) : Bool := OQ.isB (PySem.W.findIn K (.ref (He.ga K "Book")) "__class__") (some (.builtin "object.__class__"))
def x_hmBook (K : PySem.W.Frag) : Bool := decide (PySem.W.mroIn K (He.ga K "Book") (.type "object") = some true)
def x_heappush (K : PySem.W.Frag) : Bool := OQ.isB (PySem.W.nsIn K mainGlobals "heappush") (some (.builtin "_heapq.heappush"))
def x_heappop (K : PySem.W.Frag) : Bool := OQ.isB (PySem.W.nsIn K mainGlobals "heappop") (some (.builtin "_heapq.heappop"))
def exH (K : PySem.W.Frag) : Bool := x_hnO K && (x_htO K && (x_haBook K && (x_hmBook K && (x_heappush K && (x_heappop K)))))
def asH : List Addr := [2, 3, 16, 15, 22, 21, 27, 26, 33, 32, 66, 65, 79, 78, 91, 90, 103, 102, 115, 114, 127, 126, 214, 213, 49, 48, 63, 62, 136, 135, 143, 142, 150, 149, 157, 156, 162, 161, 169, 168, 183, 182, 190, 189, 197, 196, 204, 203, 211, 210, 225, 224, 232, 231, 239, 238, 246, 245, 251, 250, 258, 257, 265, 264, 270, 269, 277, 276, 284, 283, 289, 288, 296, 295, 301, 300, 308, 307, 315, 314, 322, 321, 329, 328, 336, 335, 343, 342, 348, 347, 355, 354, 362, 361, 369, 368, 376, 375, 383, 382, 388, 387, 395, 394, 402, 401, 409, 408, 414, 413, 419, 418, 424, 423, 431, 430, 438, 437, 443, 442, 450, 449, 457, 456, 464, 463]
abbrev hk : PySem.W.Hook := HG.hookL asH faH fnH exH
def ob : PySem.W.SharedT → He.AlD × Bool := HG.obL asH faH fnH exH

/-! ### the states -/
def looseH0 : List Str := ["_wall", "WayError", "BadWord", "BadWatches", "BadBook", "BadRule", "BadZigzag", "is_integer", "is_row", "MOST_LETTERS", "MOST_WATCH_LETTERS", "is_word", "is_watch", "has_letters", "check_word", "MOST_WATCHES", "Book", "wrong_watch", "check_book", "check_asked", "ON", "BACK", "MOST_STEPS", "is_step", "is_any_rule", "check_rule", "spots_along", "steps_along", "step_between", "UP"]
def looseH1 : List Str := ["DOWN", "links_of", "links_through", "steps_to", "fewest_walk", "calmest_walk", "costs_to", "calmest_step", "way_between", "zigzag", "calmest", "is_zigzag", "is_spot", "followed", "rule_of", "rule", "calm_rule", "is_rule", "_law_tape", "_law_pick", "_law_flag", "_law_letters", "_law_word", "_law_watch", "_law_watches", "_law_near", "_law_zigzags", "_law_steps", "_law_right"]
def looseH : List Str := looseH0 ++ looseH1
noncomputable section
namespace HX
open PySem PySem.W PySem.Calls PyProof.Rows HandSHeadRun HG
def ns (x : String) : Str := Str.ofString x
def sv (x : String) (t : Tok) : Value := .str (Str.ofString x) t
def en (P : Params) (x : String) (t : Tok) (v : Value) : DictEntry := ⟨PyData.keyHash P (Str.ofString x), .str (Str.ofString x) t, v⟩
def subS (s : Stmt) (j : Nat) : Stmt := match s with
  | .ClassDef _ _ _ b .. => b.getD j (.Pass ⟨0, 0, 0, 0⟩)
  | _ => .Pass ⟨0, 0, 0, 0⟩
abbrev pp : Program := PySem.Challenge.pw_watchedways_k13_rules_of_zigzags
def lf : Life := {}
def o0_0 (P : Params) : Obj := ⟨(.type "dict"), none, (.dict ⟨[en P "__name__" 1 (sv "builtins" 160), en P "__doc__" 2 (.builtin "builtins.__doc__:str#opaque"), en P "__package__" 3 (.builtin "builtins.__package__:str#opaque"), en P "__loader__" 4 (.builtin "builtins.__loader__:shared#opaque"), en P "__spec__" 5 (.builtin "builtins.__spec__#opaque"), en P "__build_class__" 6 (.builtin "__build_class__"), en P "__import__" 7 (.builtin "__import__"), en P "abs" 8 (.builtin "abs"), en P "all" 9 (.builtin "all"), en P "any" 10 (.builtin "any"), en P "ascii" 11 (.builtin "ascii"), en P "bin" 12 (.builtin "bin"), en P "breakpoint" 13 (.builtin "breakpoint"), en P "callable" 14 (.builtin "callable"), en P "chr" 15 (.builtin "chr"), en P "compile" 16 (.builtin "compile"), en P "delattr" 17 (.builtin "delattr"), en P "dir" 18 (.builtin "dir"), en P "divmod" 19 (.builtin "divmod"), en P "eval" 20 (.builtin "eval"), en P "exec" 21 (.builtin "exec"), en P "format" 22 (.builtin "format"), en P "getattr" 23 (.builtin "getattr"), en P "globals" 24 (.builtin "globals"), en P "hasattr" 25 (.builtin "hasattr"), en P "hash" 26 (.builtin "hash"), en P "hex" 27 (.builtin "hex"), en P "id" 28 (.builtin "id"), en P "input" 29 (.builtin "input"), en P "isinstance" 30 (.builtin "isinstance"), en P "issubclass" 31 (.builtin "issubclass"), en P "iter" 32 (.builtin "iter"), en P "aiter" 33 (.builtin "aiter"), en P "len" 34 (.builtin "len"), en P "locals" 35 (.builtin "locals"), en P "max" 36 (.builtin "max"), en P "min" 37 (.builtin "min"), en P "next" 38 (.builtin "next"), en P "anext" 39 (.builtin "anext"), en P "oct" 40 (.builtin "oct"), en P "ord" 41 (.builtin "ord"), en P "pow" 42 (.builtin "pow"), en P "print" 43 (.builtin "print"), en P "repr" 44 (.builtin "repr"), en P "round" 45 (.builtin "round"), en P "setattr" 46 (.builtin "setattr"), en P "sorted" 47 (.builtin "sorted"), en P "sum" 48 (.builtin "sum"), en P "vars" 49 (.builtin "vars"), en P "None" 50 .none, en P "Ellipsis" 51 .ellipsis, en P "NotImplemented" 52 .notImplemented, en P "False" 53 (.bool false), en P "True" 54 (.bool true), en P "bool" 55 (.type "bool"), en P "memoryview" 56 (.type "memoryview"), en P "bytearray" 57 (.type "bytearray"), en P "bytes" 58 (.type "bytes"), en P "classmethod" 59 (.type "classmethod"), en P "complex" 60 (.type "complex"), en P "dict" 61 (.type "dict"), en P "enumerate" 62 (.type "enumerate"), en P "filter" 63 (.type "filter"), en P "float" 64 (.type "float"), en P "frozenset" 65 (.type "frozenset"), en P "property" 66 (.type "property"), en P "int" 67 (.type "int"), en P "list" 68 (.type "list"), en P "map" 69 (.type "map"), en P "object" 70 (.type "object"), en P "range" 71 (.type "range"), en P "reversed" 72 (.type "reversed"), en P "set" 73 (.type "set"), en P "slice" 74 (.type "slice"), en P "staticmethod" 75 (.type "staticmethod"), en P "str" 76 (.type "str"), en P "super" 77 (.type "super"), en P "tuple" 78 (.type "tuple"), en P "type" 79 (.type "type"), en P "zip" 80 (.type "zip"), en P "__debug__" 81 (.bool true), en P "BaseException" 82 (.type "BaseException"), en P "BaseExceptionGroup" 83 (.type "BaseExceptionGroup"), en P "Exception" 84 (.type "Exception"), en P "GeneratorExit" 85 (.type "GeneratorExit"), en P "KeyboardInterrupt" 86 (.type "KeyboardInterrupt"), en P "SystemExit" 87 (.type "SystemExit"), en P "ArithmeticError" 88 (.type "ArithmeticError"), en P "AssertionError" 89 (.type "AssertionError"), en P "AttributeError" 90 (.type "AttributeError"), en P "BufferError" 91 (.type "BufferError"), en P "EOFError" 92 (.type "EOFError"), en P "ImportError" 93 (.type "ImportError"), en P "LookupError" 94 (.type "LookupError"), en P "MemoryError" 95 (.type "MemoryError"), en P "NameError" 96 (.type "NameError"), en P "OSError" 97 (.type "OSError"), en P "ReferenceError" 98 (.type "ReferenceError"), en P "RuntimeError" 99 (.type "RuntimeError"), en P "StopAsyncIteration" 100 (.type "StopAsyncIteration"), en P "StopIteration" 101 (.type "StopIteration"), en P "SyntaxError" 102 (.type "SyntaxError"), en P "SystemError" 103 (.type "SystemError"), en P "TypeError" 104 (.type "TypeError"), en P "ValueError" 105 (.type "ValueError"), en P "Warning" 106 (.type "Warning"), en P "FloatingPointError" 107 (.type "FloatingPointError"), en P "OverflowError" 108 (.type "OverflowError"), en P "ZeroDivisionError" 109 (.type "ZeroDivisionError"), en P "BytesWarning" 110 (.type "BytesWarning"), en P "DeprecationWarning" 111 (.type "DeprecationWarning"), en P "EncodingWarning" 112 (.type "EncodingWarning"), en P "FutureWarning" 113 (.type "FutureWarning"), en P "ImportWarning" 114 (.type "ImportWarning"), en P "PendingDeprecationWarning" 115 (.type "PendingDeprecationWarning"), en P "ResourceWarning" 116 (.type "ResourceWarning"), en P "RuntimeWarning" 117 (.type "RuntimeWarning"), en P "SyntaxWarning" 118 (.type "SyntaxWarning"), en P "UnicodeWarning" 119 (.type "UnicodeWarning"), en P "UserWarning" 120 (.type "UserWarning"), en P "BlockingIOError" 121 (.type "BlockingIOError"), en P "ChildProcessError" 122 (.type "ChildProcessError"), en P "ConnectionError" 123 (.type "ConnectionError"), en P "FileExistsError" 124 (.type "FileExistsError"), en P "FileNotFoundError" 125 (.type "FileNotFoundError"), en P "InterruptedError" 126 (.type "InterruptedError"), en P "IsADirectoryError" 127 (.type "IsADirectoryError"), en P "NotADirectoryError" 128 (.type "NotADirectoryError"), en P "PermissionError" 129 (.type "PermissionError"), en P "ProcessLookupError" 130 (.type "ProcessLookupError"), en P "TimeoutError" 131 (.type "TimeoutError"), en P "IndentationError" 132 (.type "IndentationError"), en P "_IncompleteInputError" 133 (.type "_IncompleteInputError"), en P "IndexError" 134 (.type "IndexError"), en P "KeyError" 135 (.type "KeyError"), en P "ModuleNotFoundError" 136 (.type "ModuleNotFoundError"), en P "NotImplementedError" 137 (.type "NotImplementedError"), en P "PythonFinalizationError" 138 (.type "PythonFinalizationError"), en P "RecursionError" 139 (.type "RecursionError"), en P "UnboundLocalError" 140 (.type "UnboundLocalError"), en P "UnicodeError" 141 (.type "UnicodeError"), en P "BrokenPipeError" 142 (.type "BrokenPipeError"), en P "ConnectionAbortedError" 143 (.type "ConnectionAbortedError"), en P "ConnectionRefusedError" 144 (.type "ConnectionRefusedError"), en P "ConnectionResetError" 145 (.type "ConnectionResetError"), en P "TabError" 146 (.type "TabError"), en P "UnicodeDecodeError" 147 (.type "UnicodeDecodeError"), en P "UnicodeEncodeError" 148 (.type "UnicodeEncodeError"), en P "UnicodeTranslateError" 149 (.type "UnicodeTranslateError"), en P "ExceptionGroup" 150 (.type "ExceptionGroup"), en P "EnvironmentError" 151 (.type "OSError"), en P "IOError" 152 (.type "OSError"), en P "open" 153 (.builtin "open"), en P "quit" 154 (.builtin "builtins.quit#opaque"), en P "exit" 155 (.builtin "builtins.exit#opaque"), en P "copyright" 156 (.builtin "builtins.copyright#opaque"), en P "credits" 157 (.builtin "builtins.credits#opaque"), en P "license" 158 (.builtin "builtins.license#opaque"), en P "help" 159 (.builtin "builtins.help#opaque")]⟩ 159), ⟨[]⟩⟩
def o1_0 (P : Params) : Obj := ⟨(.type "dict"), none, (.dict ⟨[en P "builtins" 162 (.ref 4), en P "__main__" 163 (.ref 5), en P "_heapq" 285 (.ref 13)]⟩ 3), ⟨[]⟩⟩
def o2_0 (P : Params) : Obj := ⟨.none, none, (.dict ⟨[en P "import.loaded._heapq" 186 (.bool true), en P "class._frozen_importlib_external._LoaderBasics" 191 (.ref 16), en P "watched.import" 207 (.ref 20), en P "class._frozen_importlib_external.FileLoader" 208 (.ref 22), en P "class._frozen_importlib_external.ExtensionFileLoader" 229 (.ref 27), en P "class._frozen_importlib.ModuleSpec" 257 (.ref 33), en P "sys.modules.booked-epoch" 286 (.int (3) 0), en P "import.later-laid._heapq" 304 (.bool true), en P "watched.library" 306 (.ref 38), en P "watched.library-objects" 0 (.str ⟨⟨[13]⟩⟩ 0)]⟩ 10), ⟨[]⟩⟩
def o3_0 (P : Params) : Obj := ⟨(.type "dict"), none, (.dict ⟨[en P "__name__" 165 (sv "__main__" 164), en P "__doc__" 166 .none, en P "__package__" 167 .none, en P "__loader__" 168 (.builtin "__main__.__loader__#opaque"), en P "__spec__" 169 .none, en P "__annotations__" 170 (.ref 6), en P "__builtins__" 171 (.ref 4), en P "__file__" 173 (sv "/claim/cut.py" 172), en P "__cached__" 174 .none, en P "heappop" 312 (.builtin "_heapq.heappop"), en P "heappush" 315 (.builtin "_heapq.heappush")]⟩ 11), ⟨[]⟩⟩
def o4_0 (P : Params) : Obj := ⟨(.type "module"), (some 0), .plain, ⟨[]⟩⟩
def o5_0 (P : Params) : Obj := ⟨(.type "module"), (some 3), .plain, ⟨[]⟩⟩
def o6_0 (P : Params) : Obj := ⟨(.type "dict"), none, (.dict ⟨[]⟩ 0), ⟨[]⟩⟩
def o7_0 (P : Params) : Obj := ⟨(.type "tuple"), none, (.seq ⟨[]⟩ 0), ⟨[]⟩⟩
def o8_0 (P : Params) : Obj := ⟨.none, none, (.fields ⟨[]⟩), ⟨[]⟩⟩
def o9_0 (P : Params) : Obj := ⟨(.type "code"), none, (.fields ⟨[(sv "<module>" 176), (sv "<module>" 177), (sv "/claim/cut.py" 178), (.int (1) 0), (.int (0) 0), (.int (0) 0), (.int (0) 0), (.int (0) 0), (.ref 7), (.bool false), (.int (175) 0), (.ref 8), .none, .none, .none, .none, (.int (179) 0), (.int (1) 0), (sv "/claim/cut.py" 180)]⟩), ⟨[]⟩⟩
def o10_0 (P : Params) : Obj := ⟨(.type "frame"), none, .plain, ⟨[(some (.ref 9)), (some (.ref 3)), (some (.ref 3)), none, (some (sv "__main__" 164)), none, (some (.ref 0))]⟩⟩
def o11_0 (P : Params) : Obj := ⟨(.type "tuple"), none, (.seq ⟨[(sv "heappop" 182), (sv "heappush" 183)]⟩ 0), ⟨[]⟩⟩
def o12_0 (P : Params) : Obj := ⟨(.type "dict"), none, (.dict ⟨[en P "__name__" 288 (sv "_heapq" 287), en P "__doc__" 289 (.builtin "off-the-table:_heapq.__doc__:shared#opaque"), en P "__package__" 291 (sv "" 290), en P "__loader__" 292 (.builtin "off-the-table:_heapq.__loader__:shared#opaque"), en P "__spec__" 293 (.builtin "off-the-table:_heapq.__spec__:shared#opaque"), en P "heappush" 294 (.builtin "_heapq.heappush"), en P "heappushpop" 295 (.builtin "_heapq.heappushpop"), en P "heappop" 296 (.builtin "_heapq.heappop"), en P "heapreplace" 297 (.builtin "_heapq.heapreplace"), en P "heapify" 298 (.builtin "_heapq.heapify"), en P "_heappop_max" 299 (.builtin "_heapq._heappop_max"), en P "_heapify_max" 300 (.builtin "_heapq._heapify_max"), en P "_heapreplace_max" 301 (.builtin "_heapq._heapreplace_max"), en P "__file__" 302 (.str ⟨⟨[47, 110, 105, 120, 47, 115, 116, 111, 114, 101, 47, 119, 106, 49, 102, 53, 54, 113, 107, 121, 52, 112, 109, 106, 99, 55, 108, 48, 114, 54, 98, 54, 108, 55, 119, 104, 110, 110, 119, 55, 104, 112, 54, 45, 112, 121, 116, 104, 111, 110, 51, 45, 51, 46, 49, 51, 46, 49, 53, 47, 108, 105, 98, 47, 112, 121, 116, 104, 111, 110, 51, 46, 49, 51, 47, 108, 105, 98, 45, 100, 121, 110, 108, 111, 97, 100, 47, 95, 104, 101, 97, 112, 113, 46, 99, 112, 121, 116, 104, 111, 110, 45, 51, 49, 51, 45, 120, 56, 54, 95, 54, 52, 45, 108, 105, 110, 117, 120, 45, 103, 110, 117, 46, 115, 111]⟩⟩ 187), en P "__about__" 303 (.builtin "off-the-table:_heapq.__about__:shared#opaque")]⟩ 15), ⟨[]⟩⟩
def o13_0 (P : Params) : Obj := ⟨(.type "module"), (some 12), .plain, ⟨[]⟩⟩
def o14_0 (P : Params) : Obj := ⟨(.type "dict"), none, (.dict ⟨[en P "name" 189 (sv "_heapq" 188), en P "path" 190 (.str ⟨⟨[47, 110, 105, 120, 47, 115, 116, 111, 114, 101, 47, 119, 106, 49, 102, 53, 54, 113, 107, 121, 52, 112, 109, 106, 99, 55, 108, 48, 114, 54, 98, 54, 108, 55, 119, 104, 110, 110, 119, 55, 104, 112, 54, 45, 112, 121, 116, 104, 111, 110, 51, 45, 51, 46, 49, 51, 46, 49, 53, 47, 108, 105, 98, 47, 112, 121, 116, 104, 111, 110, 51, 46, 49, 51, 47, 108, 105, 98, 45, 100, 121, 110, 108, 111, 97, 100, 47, 95, 104, 101, 97, 112, 113, 46, 99, 112, 121, 116, 104, 111, 110, 45, 51, 49, 51, 45, 120, 56, 54, 95, 54, 52, 45, 108, 105, 110, 117, 120, 45, 103, 110, 117, 46, 115, 111]⟩⟩ 187)]⟩ 2), ⟨[]⟩⟩
def o15_0 (P : Params) : Obj := ⟨(.type "dict"), none, (.dict ⟨[en P "__module__" 194 (sv "_frozen_importlib_external" 192), en P "__firstlineno__" 195 (.int (1001) 193), en P "__doc__" 196 (.builtin "_frozen_importlib_external._LoaderBasics.__doc__:str#opaque"), en P "is_package" 197 (.builtin "_frozen_importlib_external._LoaderBasics.is_package#opaque"), en P "create_module" 198 (.builtin "_frozen_importlib_external._LoaderBasics.create_module#opaque"), en P "exec_module" 199 (.builtin "_frozen_importlib_external._LoaderBasics.exec_module#opaque"), en P "load_module" 200 (.builtin "_frozen_importlib_external._LoaderBasics.load_module#opaque"), en P "__static_attributes__" 201 (.ref 17), en P "__dict__" 203 (.ref 18), en P "__weakref__" 205 (.ref 19)]⟩ 10), ⟨[]⟩⟩
def o16_0 (P : Params) : Obj := ⟨(.type "type"), none, (.cls ⟨(ns "_LoaderBasics"), [(.type "object")], [(.ref 16), (.type "object")], 15, (ns "_LoaderBasics"), true, [], [(.ref 27)], false, none, false⟩), ⟨[]⟩⟩
def o17_0 (P : Params) : Obj := ⟨(.type "tuple"), none, (.seq ⟨[]⟩ 0), ⟨[]⟩⟩
def o18_0 (P : Params) : Obj := ⟨(.type "getset_descriptor"), none, (.fields ⟨[(sv "__dict__" 202), (.ref 16), (.builtin "function.__dict__"), (.builtin "function.__dict__#set")]⟩), ⟨[]⟩⟩
def o19_0 (P : Params) : Obj := ⟨(.type "getset_descriptor"), none, (.fields ⟨[(sv "__weakref__" 204), (.ref 16), (.builtin "ExceptionGroup.__weakref__"), .none]⟩), ⟨[]⟩⟩
def o20_0 (P : Params) : Obj := ⟨.none, none, (.seq ⟨[(.int (15) 0), (.str ⟨⟨[6, 194, 10, 95, 95, 109, 111, 100, 117, 108, 101, 95, 95, 6, 192, 26, 95, 102, 114, 111, 122, 101, 110, 95, 105, 109, 112, 111, 114, 116, 108, 105, 98, 95, 101, 120, 116, 101, 114, 110, 97, 108, 6, 195, 15, 95, 95, 102, 105, 114, 115, 116, 108, 105, 110, 101, 110, 111, 95, 95, 4, 193, 0, 1001, 6, 196, 7, 95, 95, 100, 111, 99, 95, 95, 9, 59, 95, 102, 114, 111, 122, 101, 110, 95, 105, 109, 112, 111, 114, 116, 108, 105, 98, 95, 101, 120, 116, 101, 114, 110, 97, 108, 46, 95, 76, 111, 97, 100, 101, 114, 66, 97, 115, 105, 99, 115, 46, 95, 95, 100, 111, 99, 95, 95, 58, 115, 116, 114, 35, 111, 112, 97, 113, 117, 101, 6, 197, 10, 105, 115, 95, 112, 97, 99, 107, 97, 103, 101, 9, 58, 95, 102, 114, 111, 122, 101, 110, 95, 105, 109, 112, 111, 114, 116, 108, 105, 98, 95, 101, 120, 116, 101, 114, 110, 97, 108, 46, 95, 76, 111, 97, 100, 101, 114, 66, 97, 115, 105, 99, 115, 46, 105, 115, 95, 112, 97, 99, 107, 97, 103, 101, 35, 111, 112, 97, 113, 117, 101, 6, 198, 13, 99, 114, 101, 97, 116, 101, 95, 109, 111, 100, 117, 108, 101, 9, 61, 95, 102, 114, 111, 122, 101, 110, 95, 105, 109, 112, 111, 114, 116, 108, 105, 98, 95, 101, 120, 116, 101, 114, 110, 97, 108, 46, 95, 76, 111, 97, 100, 101, 114, 66, 97, 115, 105, 99, 115, 46, 99, 114, 101, 97, 116, 101, 95, 109, 111, 100, 117, 108, 101, 35, 111, 112, 97, 113, 117, 101, 6, 199, 11, 101, 120, 101, 99, 95, 109, 111, 100, 117, 108, 101, 9, 59, 95, 102, 114, 111, 122, 101, 110, 95, 105, 109, 112, 111, 114, 116, 108, 105, 98, 95, 101, 120, 116, 101, 114, 110, 97, 108, 46, 95, 76, 111, 97, 100, 101, 114, 66, 97, 115, 105, 99, 115, 46, 101, 120, 101, 99, 95, 109, 111, 100, 117, 108, 101, 35, 111, 112, 97, 113, 117, 101, 6, 200, 11, 108, 111, 97, 100, 95, 109, 111, 100, 117, 108, 101, 9, 59, 95, 102, 114, 111, 122, 101, 110, 95, 105, 109, 112, 111, 114, 116, 108, 105, 98, 95, 101, 120, 116, 101, 114, 110, 97, 108, 46, 95, 76, 111, 97, 100, 101, 114, 66, 97, 115, 105, 99, 115, 46, 108, 111, 97, 100, 95, 109, 111, 100, 117, 108, 101, 35, 111, 112, 97, 113, 117, 101, 6, 201, 21, 95, 95, 115, 116, 97, 116, 105, 99, 95, 97, 116, 116, 114, 105, 98, 117, 116, 101, 115, 95, 95, 4, 0, 0, 17, 6, 203, 8, 95, 95, 100, 105, 99, 116, 95, 95, 4, 0, 0, 18, 6, 205, 11, 95, 95, 119, 101, 97, 107, 114, 101, 102, 95, 95, 4, 0, 0, 19]⟩⟩ 0), (.bool true), (.bool true), (sv "" 206), (.int (21) 0), (.str ⟨⟨[6, 213, 10, 95, 95, 109, 111, 100, 117, 108, 101, 95, 95, 6, 209, 26, 95, 102, 114, 111, 122, 101, 110, 95, 105, 109, 112, 111, 114, 116, 108, 105, 98, 95, 101, 120, 116, 101, 114, 110, 97, 108, 6, 214, 15, 95, 95, 102, 105, 114, 115, 116, 108, 105, 110, 101, 110, 111, 95, 95, 4, 210, 0, 1176, 6, 215, 7, 95, 95, 100, 111, 99, 95, 95, 9, 56, 95, 102, 114, 111, 122, 101, 110, 95, 105, 109, 112, 111, 114, 116, 108, 105, 98, 95, 101, 120, 116, 101, 114, 110, 97, 108, 46, 70, 105, 108, 101, 76, 111, 97, 100, 101, 114, 46, 95, 95, 100, 111, 99, 95, 95, 58, 115, 116, 114, 35, 111, 112, 97, 113, 117, 101, 6, 216, 8, 95, 95, 105, 110, 105, 116, 95, 95, 9, 53, 95, 102, 114, 111, 122, 101, 110, 95, 105, 109, 112, 111, 114, 116, 108, 105, 98, 95, 101, 120, 116, 101, 114, 110, 97, 108, 46, 70, 105, 108, 101, 76, 111, 97, 100, 101, 114, 46, 95, 95, 105, 110, 105, 116, 95, 95, 35, 111, 112, 97, 113, 117, 101, 6, 217, 6, 95, 95, 101, 113, 95, 95, 9, 51, 95, 102, 114, 111, 122, 101, 110, 95, 105, 109, 112, 111, 114, 116, 108, 105, 98, 95, 101, 120, 116, 101, 114, 110, 97, 108, 46, 70, 105, 108, 101, 76, 111, 97, 100, 101, 114, 46, 95, 95, 101, 113, 95, 95, 35, 111, 112, 97, 113, 117, 101, 6, 218, 8, 95, 95, 104, 97, 115, 104, 95, 95, 9, 53, 95, 102, 114, 111, 122, 101, 110, 95, 105, 109, 112, 111, 114, 116, 108, 105, 98, 95, 101, 120, 116, 101, 114, 110, 97, 108, 46, 70, 105, 108, 101, 76, 111, 97, 100, 101, 114, 46, 95, 95, 104, 97, 115, 104, 95, 95, 35, 111, 112, 97, 113, 117, 101, 6, 219, 11, 108, 111, 97, 100, 95, 109, 111, 100, 117, 108, 101, 9, 56, 95, 102, 114, 111, 122, 101, 110, 95, 105, 109, 112, 111, 114, 116, 108, 105, 98, 95, 101, 120, 116, 101, 114, 110, 97, 108, 46, 70, 105, 108, 101, 76, 111, 97, 100, 101, 114, 46, 108, 111, 97, 100, 95, 109, 111, 100, 117, 108, 101, 35, 111, 112, 97, 113, 117, 101, 6, 220, 12, 103, 101, 116, 95, 102, 105, 108, 101, 110, 97, 109, 101, 9, 57, 95, 102, 114, 111, 122, 101, 110, 95, 105, 109, 112, 111, 114, 116, 108, 105, 98, 95, 101, 120, 116, 101, 114, 110, 97, 108, 46, 70, 105, 108, 101, 76, 111, 97, 100, 101, 114, 46, 103, 101, 116, 95, 102, 105, 108, 101, 110, 97, 109, 101, 35, 111, 112, 97, 113, 117, 101, 6, 221, 8, 103, 101, 116, 95, 100, 97, 116, 97, 9, 53, 95, 102, 114, 111, 122, 101, 110, 95, 105, 109, 112, 111, 114, 116, 108, 105, 98, 95, 101, 120, 116, 101, 114, 110, 97, 108, 46, 70, 105, 108, 101, 76, 111, 97, 100, 101, 114, 46, 103, 101, 116, 95, 100, 97, 116, 97, 35, 111, 112, 97, 113, 117, 101, 6, 222, 19, 103, 101, 116, 95, 114, 101, 115, 111, 117, 114, 99, 101, 95, 114, 101, 97, 100, 101, 114, 9, 64, 95, 102, 114, 111, 122, 101, 110, 95, 105, 109, 112, 111, 114, 116, 108, 105, 98, 95, 101, 120, 116, 101, 114, 110, 97, 108, 46, 70, 105, 108, 101, 76, 111, 97, 100, 101, 114, 46, 103, 101, 116, 95, 114, 101, 115, 111, 117, 114, 99, 101, 95, 114, 101, 97, 100, 101, 114, 35, 111, 112, 97, 113, 117, 101, 6, 223, 21, 95, 95, 115, 116, 97, 116, 105, 99, 95, 97, 116, 116, 114, 105, 98, 117, 116, 101, 115, 95, 95, 4, 0, 0, 23, 6, 225, 8, 95, 95, 100, 105, 99, 116, 95, 95, 4, 0, 0, 24, 6, 227, 11, 95, 95, 119, 101, 97, 107, 114, 101, 102, 95, 95, 4, 0, 0, 25]⟩⟩ 0), (.bool true), (.bool true), (sv "" 228), (.int (26) 0), (.str ⟨⟨[6, 234, 10, 95, 95, 109, 111, 100, 117, 108, 101, 95, 95, 6, 230, 26, 95, 102, 114, 111, 122, 101, 110, 95, 105, 109, 112, 111, 114, 116, 108, 105, 98, 95, 101, 120, 116, 101, 114, 110, 97, 108, 6, 235, 15, 95, 95, 102, 105, 114, 115, 116, 108, 105, 110, 101, 110, 111, 95, 95, 4, 231, 0, 1296, 6, 236, 7, 95, 95, 100, 111, 99, 95, 95, 9, 65, 95, 102, 114, 111, 122, 101, 110, 95, 105, 109, 112, 111, 114, 116, 108, 105, 98, 95, 101, 120, 116, 101, 114, 110, 97, 108, 46, 69, 120, 116, 101, 110, 115, 105, 111, 110, 70, 105, 108, 101, 76, 111, 97, 100, 101, 114, 46, 95, 95, 100, 111, 99, 95, 95, 58, 115, 116, 114, 35, 111, 112, 97, 113, 117, 101, 6, 237, 8, 95, 95, 105, 110, 105, 116, 95, 95, 9, 62, 95, 102, 114, 111, 122, 101, 110, 95, 105, 109, 112, 111, 114, 116, 108, 105, 98, 95, 101, 120, 116, 101, 114, 110, 97, 108, 46, 69, 120, 116, 101, 110, 115, 105, 111, 110, 70, 105, 108, 101, 76, 111, 97, 100, 101, 114, 46, 95, 95, 105, 110, 105, 116, 95, 95, 35, 111, 112, 97, 113, 117, 101, 6, 238, 6, 95, 95, 101, 113, 95, 95, 9, 60, 95, 102, 114, 111, 122, 101, 110, 95, 105, 109, 112, 111, 114, 116, 108, 105, 98, 95, 101, 120, 116, 101, 114, 110, 97, 108, 46, 69, 120, 116, 101, 110, 115, 105, 111, 110, 70, 105, 108, 101, 76, 111, 97, 100, 101, 114, 46, 95, 95, 101, 113, 95, 95, 35, 111, 112, 97, 113, 117, 101, 6, 239, 8, 95, 95, 104, 97, 115, 104, 95, 95, 9, 62, 95, 102, 114, 111, 122, 101, 110, 95, 105, 109, 112, 111, 114, 116, 108, 105, 98, 95, 101, 120, 116, 101, 114, 110, 97, 108, 46, 69, 120, 116, 101, 110, 115, 105, 111, 110, 70, 105, 108, 101, 76, 111, 97, 100, 101, 114, 46, 95, 95, 104, 97, 115, 104, 95, 95, 35, 111, 112, 97, 113, 117, 101, 6, 240, 13, 99, 114, 101, 97, 116, 101, 95, 109, 111, 100, 117, 108, 101, 9, 67, 95, 102, 114, 111, 122, 101, 110, 95, 105, 109, 112, 111, 114, 116, 108, 105, 98, 95, 101, 120, 116, 101, 114, 110, 97, 108, 46, 69, 120, 116, 101, 110, 115, 105, 111, 110, 70, 105, 108, 101, 76, 111, 97, 100, 101, 114, 46, 99, 114, 101, 97, 116, 101, 95, 109, 111, 100, 117, 108, 101, 35, 111, 112, 97, 113, 117, 101, 6, 241, 11, 101, 120, 101, 99, 95, 109, 111, 100, 117, 108, 101, 9, 65, 95, 102, 114, 111, 122, 101, 110, 95, 105, 109, 112, 111, 114, 116, 108, 105, 98, 95, 101, 120, 116, 101, 114, 110, 97, 108, 46, 69, 120, 116, 101, 110, 115, 105, 111, 110, 70, 105, 108, 101, 76, 111, 97, 100, 101, 114, 46, 101, 120, 101, 99, 95, 109, 111, 100, 117, 108, 101, 35, 111, 112, 97, 113, 117, 101, 6, 242, 10, 105, 115, 95, 112, 97, 99, 107, 97, 103, 101, 9, 64, 95, 102, 114, 111, 122, 101, 110, 95, 105, 109, 112, 111, 114, 116, 108, 105, 98, 95, 101, 120, 116, 101, 114, 110, 97, 108, 46, 69, 120, 116, 101, 110, 115, 105, 111, 110, 70, 105, 108, 101, 76, 111, 97, 100, 101, 114, 46, 105, 115, 95, 112, 97, 99, 107, 97, 103, 101, 35, 111, 112, 97, 113, 117, 101, 6, 243, 8, 103, 101, 116, 95, 99, 111, 100, 101, 9, 62, 95, 102, 114, 111, 122, 101, 110, 95, 105, 109, 112, 111, 114, 116, 108, 105, 98, 95, 101, 120, 116, 101, 114, 110, 97, 108, 46, 69, 120, 116, 101, 110, 115, 105, 111, 110, 70, 105, 108, 101, 76, 111, 97, 100, 101, 114, 46, 103, 101, 116, 95, 99, 111, 100, 101, 35, 111, 112, 97, 113, 117, 101, 6, 244, 10, 103, 101, 116, 95, 115, 111, 117, 114, 99, 101, 9, 64, 95, 102, 114, 111, 122, 101, 110, 95, 105, 109, 112, 111, 114, 116, 108, 105, 98, 95, 101, 120, 116, 101, 114, 110, 97, 108, 46, 69, 120, 116, 101, 110, 115, 105, 111, 110, 70, 105, 108, 101, 76, 111, 97, 100, 101, 114, 46, 103, 101, 116, 95, 115, 111, 117, 114, 99, 101, 35, 111, 112, 97, 113, 117, 101, 6, 245, 12, 103, 101, 116, 95, 102, 105, 108, 101, 110, 97, 109, 101, 9, 66, 95, 102, 114, 111, 122, 101, 110, 95, 105, 109, 112, 111, 114, 116, 108, 105, 98, 95, 101, 120, 116, 101, 114, 110, 97, 108, 46, 69, 120, 116, 101, 110, 115, 105, 111, 110, 70, 105, 108, 101, 76, 111, 97, 100, 101, 114, 46, 103, 101, 116, 95, 102, 105, 108, 101, 110, 97, 109, 101, 35, 111, 112, 97, 113, 117, 101, 6, 246, 21, 95, 95, 115, 116, 97, 116, 105, 99, 95, 97, 116, 116, 114, 105, 98, 117, 116, 101, 115, 95, 95, 4, 0, 0, 28]⟩⟩ 0), (.bool true), (.bool true), (sv "" 247), (.int (32) 0), (.str ⟨⟨[6, 268, 10, 95, 95, 109, 111, 100, 117, 108, 101, 95, 95, 6, 258, 17, 95, 102, 114, 111, 122, 101, 110, 95, 105, 109, 112, 111, 114, 116, 108, 105, 98, 6, 269, 15, 95, 95, 102, 105, 114, 115, 116, 108, 105, 110, 101, 110, 111, 95, 95, 4, 259, 0, 562, 6, 270, 7, 95, 95, 100, 111, 99, 95, 95, 9, 47, 95, 102, 114, 111, 122, 101, 110, 95, 105, 109, 112, 111, 114, 116, 108, 105, 98, 46, 77, 111, 100, 117, 108, 101, 83, 112, 101, 99, 46, 95, 95, 100, 111, 99, 95, 95, 58, 115, 116, 114, 35, 111, 112, 97, 113, 117, 101, 6, 271, 8, 95, 95, 105, 110, 105, 116, 95, 95, 9, 44, 95, 102, 114, 111, 122, 101, 110, 95, 105, 109, 112, 111, 114, 116, 108, 105, 98, 46, 77, 111, 100, 117, 108, 101, 83, 112, 101, 99, 46, 95, 95, 105, 110, 105, 116, 95, 95, 35, 111, 112, 97, 113, 117, 101, 6, 272, 8, 95, 95, 114, 101, 112, 114, 95, 95, 9, 44, 95, 102, 114, 111, 122, 101, 110, 95, 105, 109, 112, 111, 114, 116, 108, 105, 98, 46, 77, 111, 100, 117, 108, 101, 83, 112, 101, 99, 46, 95, 95, 114, 101, 112, 114, 95, 95, 35, 111, 112, 97, 113, 117, 101, 6, 273, 6, 95, 95, 101, 113, 95, 95, 9, 42, 95, 102, 114, 111, 122, 101, 110, 95, 105, 109, 112, 111, 114, 116, 108, 105, 98, 46, 77, 111, 100, 117, 108, 101, 83, 112, 101, 99, 46, 95, 95, 101, 113, 95, 95, 35, 111, 112, 97, 113, 117, 101, 6, 274, 6, 99, 97, 99, 104, 101, 100, 9, 42, 95, 102, 114, 111, 122, 101, 110, 95, 105, 109, 112, 111, 114, 116, 108, 105, 98, 46, 77, 111, 100, 117, 108, 101, 83, 112, 101, 99, 46, 99, 97, 99, 104, 101, 100, 35, 111, 112, 97, 113, 117, 101, 6, 275, 6, 112, 97, 114, 101, 110, 116, 9, 42, 95, 102, 114, 111, 122, 101, 110, 95, 105, 109, 112, 111, 114, 116, 108, 105, 98, 46, 77, 111, 100, 117, 108, 101, 83, 112, 101, 99, 46, 112, 97, 114, 101, 110, 116, 35, 111, 112, 97, 113, 117, 101, 6, 276, 12, 104, 97, 115, 95, 108, 111, 99, 97, 116, 105, 111, 110, 9, 48, 95, 102, 114, 111, 122, 101, 110, 95, 105, 109, 112, 111, 114, 116, 108, 105, 98, 46, 77, 111, 100, 117, 108, 101, 83, 112, 101, 99, 46, 104, 97, 115, 95, 108, 111, 99, 97, 116, 105, 111, 110, 35, 111, 112, 97, 113, 117, 101, 6, 277, 21, 95, 95, 115, 116, 97, 116, 105, 99, 95, 97, 116, 116, 114, 105, 98, 117, 116, 101, 115, 95, 95, 4, 0, 0, 34, 6, 279, 8, 95, 95, 100, 105, 99, 116, 95, 95, 4, 0, 0, 35, 6, 281, 11, 95, 95, 119, 101, 97, 107, 114, 101, 102, 95, 95, 4, 0, 0, 36, 6, 282, 8, 95, 95, 104, 97, 115, 104, 95, 95, 0]⟩⟩ 0), (.bool true), (.bool true), (sv "" 283)]⟩ 3), ⟨[]⟩⟩
def o21_0 (P : Params) : Obj := ⟨(.type "dict"), none, (.dict ⟨[en P "__module__" 213 (sv "_frozen_importlib_external" 209), en P "__firstlineno__" 214 (.int (1176) 210), en P "__doc__" 215 (.builtin "_frozen_importlib_external.FileLoader.__doc__:str#opaque"), en P "__init__" 216 (.builtin "_frozen_importlib_external.FileLoader.__init__#opaque"), en P "__eq__" 217 (.builtin "_frozen_importlib_external.FileLoader.__eq__#opaque"), en P "__hash__" 218 (.builtin "_frozen_importlib_external.FileLoader.__hash__#opaque"), en P "load_module" 219 (.builtin "_frozen_importlib_external.FileLoader.load_module#opaque"), en P "get_filename" 220 (.builtin "_frozen_importlib_external.FileLoader.get_filename#opaque"), en P "get_data" 221 (.builtin "_frozen_importlib_external.FileLoader.get_data#opaque"), en P "get_resource_reader" 222 (.builtin "_frozen_importlib_external.FileLoader.get_resource_reader#opaque"), en P "__static_attributes__" 223 (.ref 23), en P "__dict__" 225 (.ref 24), en P "__weakref__" 227 (.ref 25)]⟩ 13), ⟨[]⟩⟩
def o22_0 (P : Params) : Obj := ⟨(.type "type"), none, (.cls ⟨(ns "FileLoader"), [(.type "object")], [(.ref 22), (.type "object")], 21, (ns "FileLoader"), true, [], [(.ref 27)], false, none, false⟩), ⟨[]⟩⟩
def o23_0 (P : Params) : Obj := ⟨(.type "tuple"), none, (.seq ⟨[(sv "name" 211), (sv "path" 212)]⟩ 0), ⟨[]⟩⟩
def o24_0 (P : Params) : Obj := ⟨(.type "getset_descriptor"), none, (.fields ⟨[(sv "__dict__" 224), (.ref 22), (.builtin "function.__dict__"), (.builtin "function.__dict__#set")]⟩), ⟨[]⟩⟩
def o25_0 (P : Params) : Obj := ⟨(.type "getset_descriptor"), none, (.fields ⟨[(sv "__weakref__" 226), (.ref 22), (.builtin "ExceptionGroup.__weakref__"), .none]⟩), ⟨[]⟩⟩
def o26_0 (P : Params) : Obj := ⟨(.type "dict"), none, (.dict ⟨[en P "__module__" 234 (sv "_frozen_importlib_external" 230), en P "__firstlineno__" 235 (.int (1296) 231), en P "__doc__" 236 (.builtin "_frozen_importlib_external.ExtensionFileLoader.__doc__:str#opaque"), en P "__init__" 237 (.builtin "_frozen_importlib_external.ExtensionFileLoader.__init__#opaque"), en P "__eq__" 238 (.builtin "_frozen_importlib_external.ExtensionFileLoader.__eq__#opaque"), en P "__hash__" 239 (.builtin "_frozen_importlib_external.ExtensionFileLoader.__hash__#opaque"), en P "create_module" 240 (.builtin "_frozen_importlib_external.ExtensionFileLoader.create_module#opaque"), en P "exec_module" 241 (.builtin "_frozen_importlib_external.ExtensionFileLoader.exec_module#opaque"), en P "is_package" 242 (.builtin "_frozen_importlib_external.ExtensionFileLoader.is_package#opaque"), en P "get_code" 243 (.builtin "_frozen_importlib_external.ExtensionFileLoader.get_code#opaque"), en P "get_source" 244 (.builtin "_frozen_importlib_external.ExtensionFileLoader.get_source#opaque"), en P "get_filename" 245 (.builtin "_frozen_importlib_external.ExtensionFileLoader.get_filename#opaque"), en P "__static_attributes__" 246 (.ref 28)]⟩ 13), ⟨[]⟩⟩
def o27_0 (P : Params) : Obj := ⟨(.type "type"), none, (.cls ⟨(ns "ExtensionFileLoader"), [(.ref 22), (.ref 16)], [(.ref 27), (.ref 22), (.ref 16), (.type "object")], 26, (ns "ExtensionFileLoader"), true, [], [], false, none, false⟩), ⟨[]⟩⟩
def o28_0 (P : Params) : Obj := ⟨(.type "tuple"), none, (.seq ⟨[(sv "name" 232), (sv "path" 233)]⟩ 0), ⟨[]⟩⟩
def o29_0 (P : Params) : Obj := ⟨(.ref 27), (some 14), .plain, ⟨[]⟩⟩
def o30_0 (P : Params) : Obj := ⟨(.type "list"), none, (.seq ⟨[]⟩ 0), ⟨[]⟩⟩
def o31_0 (P : Params) : Obj := ⟨(.type "dict"), none, (.dict ⟨[en P "name" 249 (sv "_heapq" 248), en P "loader" 250 (.ref 29), en P "origin" 251 (.str ⟨⟨[47, 110, 105, 120, 47, 115, 116, 111, 114, 101, 47, 119, 106, 49, 102, 53, 54, 113, 107, 121, 52, 112, 109, 106, 99, 55, 108, 48, 114, 54, 98, 54, 108, 55, 119, 104, 110, 110, 119, 55, 104, 112, 54, 45, 112, 121, 116, 104, 111, 110, 51, 45, 51, 46, 49, 51, 46, 49, 53, 47, 108, 105, 98, 47, 112, 121, 116, 104, 111, 110, 51, 46, 49, 51, 47, 108, 105, 98, 45, 100, 121, 110, 108, 111, 97, 100, 47, 95, 104, 101, 97, 112, 113, 46, 99, 112, 121, 116, 104, 111, 110, 45, 51, 49, 51, 45, 120, 56, 54, 95, 54, 52, 45, 108, 105, 110, 117, 120, 45, 103, 110, 117, 46, 115, 111]⟩⟩ 187), en P "loader_state" 252 .none, en P "submodule_search_locations" 253 .none, en P "_uninitialized_submodules" 254 (.ref 30), en P "_set_fileattr" 255 (.bool true), en P "_cached" 256 .none, en P "_initializing" 284 (.bool false)]⟩ 9), ⟨[]⟩⟩
def o32_0 (P : Params) : Obj := ⟨(.type "dict"), none, (.dict ⟨[en P "__module__" 268 (sv "_frozen_importlib" 258), en P "__firstlineno__" 269 (.int (562) 259), en P "__doc__" 270 (.builtin "_frozen_importlib.ModuleSpec.__doc__:str#opaque"), en P "__init__" 271 (.builtin "_frozen_importlib.ModuleSpec.__init__#opaque"), en P "__repr__" 272 (.builtin "_frozen_importlib.ModuleSpec.__repr__#opaque"), en P "__eq__" 273 (.builtin "_frozen_importlib.ModuleSpec.__eq__#opaque"), en P "cached" 274 (.builtin "_frozen_importlib.ModuleSpec.cached#opaque"), en P "parent" 275 (.builtin "_frozen_importlib.ModuleSpec.parent#opaque"), en P "has_location" 276 (.builtin "_frozen_importlib.ModuleSpec.has_location#opaque"), en P "__static_attributes__" 277 (.ref 34), en P "__dict__" 279 (.ref 35), en P "__weakref__" 281 (.ref 36), en P "__hash__" 282 .none]⟩ 13), ⟨[]⟩⟩
def o33_0 (P : Params) : Obj := ⟨(.type "type"), none, (.cls ⟨(ns "ModuleSpec"), [(.type "object")], [(.ref 33), (.type "object")], 32, (ns "ModuleSpec"), true, [], [], false, none, false⟩), ⟨[]⟩⟩
def o34_0 (P : Params) : Obj := ⟨(.type "tuple"), none, (.seq ⟨[(sv "_cached" 260), (sv "_set_fileattr" 261), (sv "_uninitialized_submodules" 262), (sv "loader" 263), (sv "loader_state" 264), (sv "name" 265), (sv "origin" 266), (sv "submodule_search_locations" 267)]⟩ 0), ⟨[]⟩⟩
def o35_0 (P : Params) : Obj := ⟨(.type "getset_descriptor"), none, (.fields ⟨[(sv "__dict__" 278), (.ref 33), (.builtin "function.__dict__"), (.builtin "function.__dict__#set")]⟩), ⟨[]⟩⟩
def o36_0 (P : Params) : Obj := ⟨(.type "getset_descriptor"), none, (.fields ⟨[(sv "__weakref__" 280), (.ref 33), (.builtin "ExceptionGroup.__weakref__"), .none]⟩), ⟨[]⟩⟩
def o37_0 (P : Params) : Obj := ⟨(.ref 33), (some 31), .plain, ⟨[]⟩⟩
def o38_0 (P : Params) : Obj := ⟨.none, none, (.seq ⟨[(.int (12) 0), (.str ⟨⟨[6, 288, 8, 95, 95, 110, 97, 109, 101, 95, 95, 6, 287, 6, 95, 104, 101, 97, 112, 113, 6, 289, 7, 95, 95, 100, 111, 99, 95, 95, 9, 25, 95, 104, 101, 97, 112, 113, 46, 95, 95, 100, 111, 99, 95, 95, 58, 115, 116, 114, 35, 111, 112, 97, 113, 117, 101, 6, 291, 11, 95, 95, 112, 97, 99, 107, 97, 103, 101, 95, 95, 6, 290, 0, 6, 292, 10, 95, 95, 108, 111, 97, 100, 101, 114, 95, 95, 4, 0, 0, 29, 6, 293, 8, 95, 95, 115, 112, 101, 99, 95, 95, 4, 0, 0, 37, 6, 294, 8, 104, 101, 97, 112, 112, 117, 115, 104, 9, 15, 95, 104, 101, 97, 112, 113, 46, 104, 101, 97, 112, 112, 117, 115, 104, 6, 295, 11, 104, 101, 97, 112, 112, 117, 115, 104, 112, 111, 112, 9, 18, 95, 104, 101, 97, 112, 113, 46, 104, 101, 97, 112, 112, 117, 115, 104, 112, 111, 112, 6, 296, 7, 104, 101, 97, 112, 112, 111, 112, 9, 14, 95, 104, 101, 97, 112, 113, 46, 104, 101, 97, 112, 112, 111, 112, 6, 297, 11, 104, 101, 97, 112, 114, 101, 112, 108, 97, 99, 101, 9, 18, 95, 104, 101, 97, 112, 113, 46, 104, 101, 97, 112, 114, 101, 112, 108, 97, 99, 101, 6, 298, 7, 104, 101, 97, 112, 105, 102, 121, 9, 14, 95, 104, 101, 97, 112, 113, 46, 104, 101, 97, 112, 105, 102, 121, 6, 299, 12, 95, 104, 101, 97, 112, 112, 111, 112, 95, 109, 97, 120, 9, 19, 95, 104, 101, 97, 112, 113, 46, 95, 104, 101, 97, 112, 112, 111, 112, 95, 109, 97, 120, 6, 300, 12, 95, 104, 101, 97, 112, 105, 102, 121, 95, 109, 97, 120, 9, 19, 95, 104, 101, 97, 112, 113, 46, 95, 104, 101, 97, 112, 105, 102, 121, 95, 109, 97, 120, 6, 301, 16, 95, 104, 101, 97, 112, 114, 101, 112, 108, 97, 99, 101, 95, 109, 97, 120, 9, 23, 95, 104, 101, 97, 112, 113, 46, 95, 104, 101, 97, 112, 114, 101, 112, 108, 97, 99, 101, 95, 109, 97, 120, 6, 302, 8, 95, 95, 102, 105, 108, 101, 95, 95, 6, 187, 125, 47, 110, 105, 120, 47, 115, 116, 111, 114, 101, 47, 119, 106, 49, 102, 53, 54, 113, 107, 121, 52, 112, 109, 106, 99, 55, 108, 48, 114, 54, 98, 54, 108, 55, 119, 104, 110, 110, 119, 55, 104, 112, 54, 45, 112, 121, 116, 104, 111, 110, 51, 45, 51, 46, 49, 51, 46, 49, 53, 47, 108, 105, 98, 47, 112, 121, 116, 104, 111, 110, 51, 46, 49, 51, 47, 108, 105, 98, 45, 100, 121, 110, 108, 111, 97, 100, 47, 95, 104, 101, 97, 112, 113, 46, 99, 112, 121, 116, 104, 111, 110, 45, 51, 49, 51, 45, 120, 56, 54, 95, 54, 52, 45, 108, 105, 110, 117, 120, 45, 103, 110, 117, 46, 115, 111, 6, 303, 9, 95, 95, 97, 98, 111, 117, 116, 95, 95, 9, 27, 95, 104, 101, 97, 112, 113, 46, 95, 95, 97, 98, 111, 117, 116, 95, 95, 58, 115, 116, 114, 35, 111, 112, 97, 113, 117, 101]⟩⟩ 0), (.bool true), (.bool false), (sv "_heapq" 305)]⟩ 0), ⟨[]⟩⟩
def T0 (P : Params) : BT := (.node (o0_0 P) (.node (o1_0 P) (.node (o3_0 P) (.node (o7_0 P) (.node (o15_0 P) (.node (o31_0 P) .nil .nil) .nil) (.node (o23_0 P) .nil .nil)) (.node (o11_0 P) (.node (o19_0 P) (.node (o35_0 P) .nil .nil) .nil) (.node (o27_0 P) .nil .nil))) (.node (o5_0 P) (.node (o9_0 P) (.node (o17_0 P) (.node (o33_0 P) .nil .nil) .nil) (.node (o25_0 P) .nil .nil)) (.node (o13_0 P) (.node (o21_0 P) (.node (o37_0 P) .nil .nil) .nil) (.node (o29_0 P) .nil .nil)))) (.node (o2_0 P) (.node (o4_0 P) (.node (o8_0 P) (.node (o16_0 P) (.node (o32_0 P) .nil .nil) .nil) (.node (o24_0 P) .nil .nil)) (.node (o12_0 P) (.node (o20_0 P) (.node (o36_0 P) .nil .nil) .nil) (.node (o28_0 P) .nil .nil))) (.node (o6_0 P) (.node (o10_0 P) (.node (o18_0 P) (.node (o34_0 P) .nil .nil) .nil) (.node (o26_0 P) .nil .nil)) (.node (o14_0 P) (.node (o22_0 P) (.node (o38_0 P) .nil .nil) .nil) (.node (o30_0 P) .nil .nil)))))
def X0 (w : World) (os : OsState) : SharedT := ⟨T0 w.params, 39, lf, ⟨[]⟩, ⟨0, 0, 0, 0⟩, 316, os⟩
def o39_1 (P : Params) : Obj := ⟨(.type "tuple"), none, (.seq ⟨[]⟩ 0), ⟨[]⟩⟩
def o40_1 (P : Params) : Obj := ⟨.none, none, (.fields ⟨[]⟩), ⟨[]⟩⟩
def o41_1 (P : Params) : Obj := ⟨(.type "code"), none, (.fields ⟨[(sv "<module>" 317), (sv "<module>" 318), (sv "/claim/cut.py" 319), (.int (1) 0), (.int (0) 0), (.int (0) 0), (.int (0) 0), (.int (0) 0), (.ref 39), (.bool false), (.int (316) 0), (.ref 40), .none, .none, .none, .none, (.int (320) 0), (.int (1) 0), (sv "/claim/cut.py" 321)]⟩), ⟨[]⟩⟩
def o42_1 (P : Params) : Obj := ⟨(.type "frame"), none, .plain, ⟨[(some (.ref 41)), (some (.ref 3)), (some (.ref 3)), none, (some (sv "__main__" 164)), none, (some (.ref 0))]⟩⟩
def T1 (P : Params) : BT := (.node (o0_0 P) (.node (o1_0 P) (.node (o3_0 P) (.node (o7_0 P) (.node (o15_0 P) (.node (o31_0 P) .nil .nil) .nil) (.node (o23_0 P) (.node (o39_1 P) .nil .nil) .nil)) (.node (o11_0 P) (.node (o19_0 P) (.node (o35_0 P) .nil .nil) .nil) (.node (o27_0 P) .nil .nil))) (.node (o5_0 P) (.node (o9_0 P) (.node (o17_0 P) (.node (o33_0 P) .nil .nil) .nil) (.node (o25_0 P) (.node (o41_1 P) .nil .nil) .nil)) (.node (o13_0 P) (.node (o21_0 P) (.node (o37_0 P) .nil .nil) .nil) (.node (o29_0 P) .nil .nil)))) (.node (o2_0 P) (.node (o4_0 P) (.node (o8_0 P) (.node (o16_0 P) (.node (o32_0 P) .nil .nil) .nil) (.node (o24_0 P) (.node (o40_1 P) .nil .nil) .nil)) (.node (o12_0 P) (.node (o20_0 P) (.node (o36_0 P) .nil .nil) .nil) (.node (o28_0 P) .nil .nil))) (.node (o6_0 P) (.node (o10_0 P) (.node (o18_0 P) (.node (o34_0 P) .nil .nil) .nil) (.node (o26_0 P) (.node (o42_1 P) .nil .nil) .nil)) (.node (o14_0 P) (.node (o22_0 P) (.node (o38_0 P) .nil .nil) .nil) (.node (o30_0 P) .nil .nil)))))
def X1 (w : World) (os : OsState) : SharedT := ⟨T1 w.params, 43, lf, ⟨[]⟩, ⟨0, 0, 0, 0⟩, 322, os⟩
def T2 (P : Params) : BT := (.node (o0_0 P) (.node (o1_0 P) (.node (o3_0 P) (.node (o7_0 P) (.node (o15_0 P) (.node (o31_0 P) .nil .nil) .nil) (.node (o23_0 P) (.node (o39_1 P) .nil .nil) .nil)) (.node (o11_0 P) (.node (o19_0 P) (.node (o35_0 P) .nil .nil) .nil) (.node (o27_0 P) .nil .nil))) (.node (o5_0 P) (.node (o9_0 P) (.node (o17_0 P) (.node (o33_0 P) .nil .nil) .nil) (.node (o25_0 P) (.node (o41_1 P) .nil .nil) .nil)) (.node (o13_0 P) (.node (o21_0 P) (.node (o37_0 P) .nil .nil) .nil) (.node (o29_0 P) .nil .nil)))) (.node (o2_0 P) (.node (o4_0 P) (.node (o8_0 P) (.node (o16_0 P) (.node (o32_0 P) .nil .nil) .nil) (.node (o24_0 P) (.node (o40_1 P) .nil .nil) .nil)) (.node (o12_0 P) (.node (o20_0 P) (.node (o36_0 P) .nil .nil) .nil) (.node (o28_0 P) .nil .nil))) (.node (o6_0 P) (.node (o10_0 P) (.node (o18_0 P) (.node (o34_0 P) .nil .nil) .nil) (.node (o26_0 P) (.node (o42_1 P) .nil .nil) .nil)) (.node (o14_0 P) (.node (o22_0 P) (.node (o38_0 P) .nil .nil) .nil) (.node (o30_0 P) .nil .nil)))))
def X2 (w : World) (os : OsState) : SharedT := ⟨T2 w.params, 43, lf, ⟨[]⟩, ⟨0, 0, 0, 0⟩, 322, os⟩
def o3_3 (P : Params) : Obj := ⟨(.type "dict"), none, (.dict ⟨[en P "__name__" 165 (sv "watchedways.walks" 636), en P "__doc__" 166 .none, en P "__package__" 167 .none, en P "__loader__" 168 (.builtin "__main__.__loader__#opaque"), en P "__spec__" 169 .none, en P "__annotations__" 170 (.ref 6), en P "__builtins__" 171 (.ref 4), en P "__file__" 173 (sv "/claim/cut.py" 172), en P "__cached__" 174 .none, en P "heappop" 312 (.builtin "_heapq.heappop"), en P "heappush" 315 (.builtin "_heapq.heappush"), en P "_wall" 328 (.ref 49), en P "WayError" 357 (.ref 66), en P "BadWord" 373 (.ref 79), en P "BadWatches" 389 (.ref 91), en P "BadBook" 405 (.ref 103), en P "BadRule" 421 (.ref 115), en P "BadZigzag" 437 (.ref 127), en P "is_integer" 446 (.ref 136), en P "is_row" 453 (.ref 143), en P "MOST_LETTERS" 457 (.int (40) 456), en P "MOST_WATCH_LETTERS" 459 (.int (12) 458), en P "is_word" 466 (.ref 150), en P "is_watch" 473 (.ref 157), en P "has_letters" 479 (.ref 162), en P "check_word" 486 (.ref 169), en P "MOST_WATCHES" 490 (.int (12) 489), en P "Book" 553 (.ref 214), en P "wrong_watch" 562 (.ref 225), en P "check_book" 569 (.ref 232), en P "check_asked" 577 (.ref 239), en P "ON" 581 (sv "on" 580), en P "BACK" 583 (sv "back" 582), en P "MOST_STEPS" 585 (.int (80) 584), en P "is_step" 592 (.ref 246), en P "is_any_rule" 598 (.ref 251), en P "check_rule" 605 (.ref 258), en P "spots_along" 620 (.ref 265), en P "steps_along" 626 (.ref 270), en P "step_between" 635 (.ref 277), en P "UP" 639 (.int (1) 638), en P "DOWN" 642 (.int (-1) 641), en P "links_of" 650 (.ref 284), en P "links_through" 656 (.ref 289), en P "steps_to" 669 (.ref 296), en P "fewest_walk" 675 (.ref 301), en P "calmest_walk" 688 (.ref 308), en P "costs_to" 703 (.ref 315), en P "calmest_step" 719 (.ref 322), en P "way_between" 727 (.ref 329)]⟩ 50), ⟨[]⟩⟩
def o40_3 (P : Params) : Obj := ⟨.none, none, (.fields ⟨[(.int (2) 0), (.int (0) 0), (.ref 48), (.int (6) 0), (.int (0) 0), (.ref 55), (.int (10) 0), (.int (0) 0), (.ref 75), (.int (12) 0), (.int (0) 0), (.ref 87), (.int (14) 0), (.int (0) 0), (.ref 99), (.int (16) 0), (.int (0) 0), (.ref 111), (.int (18) 0), (.int (0) 0), (.ref 123), (.int (21) 0), (.int (0) 0), (.ref 135), (.int (23) 0), (.int (0) 0), (.ref 142), (.int (28) 0), (.int (0) 0), (.ref 149), (.int (30) 0), (.int (0) 0), (.ref 156), (.int (32) 0), (.int (0) 0), (.ref 161), (.int (36) 0), (.int (0) 0), (.ref 168), (.int (41) 0), (.int (0) 0), (.ref 175), (.int (62) 0), (.int (0) 0), (.ref 224), (.int (67) 0), (.int (0) 0), (.ref 231), (.int (70) 0), (.int (0) 0), (.ref 238), (.int (77) 0), (.int (0) 0), (.ref 245), (.int (79) 0), (.int (0) 0), (.ref 250), (.int (83) 0), (.int (0) 0), (.ref 257), (.int (86) 0), (.int (0) 0), (.ref 264), (.int (96) 0), (.int (0) 0), (.ref 269), (.int (98) 0), (.int (0) 0), (.ref 276), (.int (105) 0), (.int (0) 0), (.ref 283), (.int (107) 0), (.int (0) 0), (.ref 288), (.int (117) 0), (.int (0) 0), (.ref 295), (.int (129) 0), (.int (0) 0), (.ref 300), (.int (140) 0), (.int (0) 0), (.ref 307), (.int (151) 0), (.int (0) 0), (.ref 314), (.int (164) 0), (.int (0) 0), (.ref 321), (.int (174) 0), (.int (0) 0), (.ref 328)]⟩), ⟨[]⟩⟩
def o43_3 (P : Params) : Obj := ⟨(.type "tuple"), none, (.seq ⟨[]⟩ 0), ⟨[]⟩⟩
def o44_3 (P : Params) : Obj := ⟨.none, none, (.fields ⟨[]⟩), ⟨[]⟩⟩
def o45_3 (P : Params) : Obj := ⟨(.type "tuple"), none, (.seq ⟨[(sv "k" 325)]⟩ 0), ⟨[]⟩⟩
def o46_3 (P : Params) : Obj := ⟨(.type "tuple"), none, (.seq ⟨[]⟩ 0), ⟨[]⟩⟩
def o47_3 (P : Params) : Obj := ⟨.none, none, (.func ⟨(ns "_wall"), (ns "_wall"), defArgs (top 1), .stmts (defBody (top 1)), defScope (top 1), 0, [], .none, .none, .none, .none, none, .none, .none, 0⟩), ⟨[]⟩⟩
def o48_3 (P : Params) : Obj := ⟨(.type "code"), none, (.fields ⟨[(sv "_wall" 322), (sv "_wall" 323), (sv "/claim/cut.py" 324), (.int (2) 0), (.int (1) 0), (.int (0) 0), (.int (0) 0), (.int (3) 0), (.ref 43), (.bool true), (.int (316) 0), (.ref 44), .none, (.ref 45), (.ref 46), (.ref 47), (.int (326) 0), (.int (2) 0), (sv "/claim/cut.py" 327)]⟩), ⟨[]⟩⟩
def o49_3 (P : Params) : Obj := ⟨(.type "function"), none, (.func ⟨(ns "_wall"), (ns "_wall"), defArgs (top 1), .stmts (defBody (top 1)), defScope (top 1), 3, [], .none, .none, .none, (sv "__main__" 164), none, (.ref 48), .none, 0⟩), ⟨[]⟩⟩
def o50_3 (P : Params) : Obj := ⟨(.type "tuple"), none, (.seq ⟨[(.type "ValueError")]⟩ 0), ⟨[]⟩⟩
def o51_3 (P : Params) : Obj := ⟨(.type "builtin_function_or_method"), none, (.fields ⟨[(.builtin "type.__prepare__"), (.type "type")]⟩), ⟨[]⟩⟩
def o52_3 (P : Params) : Obj := ⟨(.type "dict"), none, (.dict ⟨[en P "__module__" 338 (sv "watchedways.errors" 329), en P "__qualname__" 340 (sv "WayError" 339), en P "__firstlineno__" 342 (.int (6) 341), en P "__init__" 350 (.ref 63), en P "__static_attributes__" 352 (.ref 64)]⟩ 5), ⟨[]⟩⟩
def o53_3 (P : Params) : Obj := ⟨(.type "tuple"), none, (.seq ⟨[]⟩ 0), ⟨[]⟩⟩
def o54_3 (P : Params) : Obj := ⟨.none, none, (.fields ⟨[(.int (8) 0), (.int (4) 0), (.ref 62)]⟩), ⟨[]⟩⟩
def o55_3 (P : Params) : Obj := ⟨(.type "code"), none, (.fields ⟨[(sv "WayError" 333), (sv "WayError" 334), (sv "/claim/cut.py" 335), (.int (6) 0), (.int (0) 0), (.int (0) 0), (.int (0) 0), (.int (0) 0), (.ref 53), (.bool false), (.int (316) 0), (.ref 54), .none, .none, .none, .none, (.int (336) 0), (.int (6) 0), (sv "/claim/cut.py" 337)]⟩), ⟨[]⟩⟩
def o56_3 (P : Params) : Obj := ⟨(.type "frame"), none, .plain, ⟨[(some (.ref 55)), (some (.ref 3)), (some (.ref 52)), none, (some (sv "watchedways.errors" 329)), none, (some (.ref 0))]⟩⟩
def o57_3 (P : Params) : Obj := ⟨(.type "tuple"), none, (.seq ⟨[]⟩ 0), ⟨[]⟩⟩
def o58_3 (P : Params) : Obj := ⟨.none, none, (.fields ⟨[]⟩), ⟨[]⟩⟩
def o59_3 (P : Params) : Obj := ⟨(.type "tuple"), none, (.seq ⟨[(sv "self" 346), (sv "value" 347)]⟩ 0), ⟨[]⟩⟩
def o60_3 (P : Params) : Obj := ⟨(.type "tuple"), none, (.seq ⟨[]⟩ 0), ⟨[]⟩⟩
def o61_3 (P : Params) : Obj := ⟨.none, none, (.func ⟨(ns "__init__"), (ns "WayError.__init__"), defArgs (subS (top 3) 0), .stmts (defBody (subS (top 3) 0)), defScope (subS (top 3) 0), 0, [], .none, .none, .none, .none, none, .none, .none, 0⟩), ⟨[]⟩⟩
def o62_3 (P : Params) : Obj := ⟨(.type "code"), none, (.fields ⟨[(sv "__init__" 343), (sv "WayError.__init__" 344), (sv "/claim/cut.py" 345), (.int (8) 0), (.int (2) 0), (.int (0) 0), (.int (0) 0), (.int (3) 0), (.ref 57), (.bool true), (.int (316) 0), (.ref 58), .none, (.ref 59), (.ref 60), (.ref 61), (.int (348) 0), (.int (8) 0), (sv "/claim/cut.py" 349)]⟩), ⟨[]⟩⟩
def o63_3 (P : Params) : Obj := ⟨(.type "function"), none, (.func ⟨(ns "__init__"), (ns "WayError.__init__"), defArgs (subS (top 3) 0), .stmts (defBody (subS (top 3) 0)), defScope (subS (top 3) 0), 3, [], .none, .none, .none, (sv "watchedways.errors" 329), none, (.ref 62), .none, 0⟩), ⟨[]⟩⟩
def o64_3 (P : Params) : Obj := ⟨(.type "tuple"), none, (.seq ⟨[(sv "value" 351)]⟩ 0), ⟨[]⟩⟩
def o65_3 (P : Params) : Obj := ⟨(.type "dict"), none, (.dict ⟨[en P "__module__" 338 (sv "watchedways.errors" 329), en P "__firstlineno__" 342 (.int (6) 341), en P "__init__" 350 (.ref 63), en P "__static_attributes__" 352 (.ref 64), en P "__weakref__" 354 (.ref 67), en P "__doc__" 355 .none]⟩ 3), ⟨[]⟩⟩
def o66_3 (P : Params) : Obj := ⟨(.type "type"), none, (.cls ⟨(ns "WayError"), [(.type "ValueError")], [(.ref 66), (.type "ValueError"), (.type "Exception"), (.type "BaseException"), (.type "object")], 65, (ns "WayError"), true, [], [(.ref 79), (.ref 91), (.ref 103), (.ref 115), (.ref 127)], false, none, false⟩), ⟨[(some (.ref 50)), none, (some (sv "WayError" 331)), (some (sv "WayError" 339)), (some (.builtin "ValueError.__new__")), (some (.bool true))]⟩⟩
def o67_3 (P : Params) : Obj := ⟨(.type "getset_descriptor"), none, (.fields ⟨[(sv "__weakref__" 353), (.ref 66), (.builtin "ExceptionGroup.__weakref__"), .none]⟩), ⟨[]⟩⟩
def o68_3 (P : Params) : Obj := ⟨(.type "super"), none, (.fields ⟨[(.ref 66), (.ref 66), (.ref 66)]⟩), ⟨[]⟩⟩
def o69_3 (P : Params) : Obj := ⟨(.type "builtin_function_or_method"), none, (.fields ⟨[(.builtin "object.__init_subclass__"), (.ref 66)]⟩), ⟨[]⟩⟩
def o70_3 (P : Params) : Obj := ⟨(.type "tuple"), none, (.seq ⟨[(.ref 66)]⟩ 0), ⟨[]⟩⟩
def o71_3 (P : Params) : Obj := ⟨(.type "builtin_function_or_method"), none, (.fields ⟨[(.builtin "type.__prepare__"), (.type "type")]⟩), ⟨[]⟩⟩
def o72_3 (P : Params) : Obj := ⟨(.type "dict"), none, (.dict ⟨[en P "__module__" 365 (sv "watchedways.errors" 329), en P "__qualname__" 367 (sv "BadWord" 366), en P "__firstlineno__" 369 (.int (10) 368), en P "__static_attributes__" 370 (.ref 77)]⟩ 4), ⟨[]⟩⟩
def o73_3 (P : Params) : Obj := ⟨(.type "tuple"), none, (.seq ⟨[]⟩ 0), ⟨[]⟩⟩
def o74_3 (P : Params) : Obj := ⟨.none, none, (.fields ⟨[]⟩), ⟨[]⟩⟩
def o75_3 (P : Params) : Obj := ⟨(.type "code"), none, (.fields ⟨[(sv "BadWord" 360), (sv "BadWord" 361), (sv "/claim/cut.py" 362), (.int (10) 0), (.int (0) 0), (.int (0) 0), (.int (0) 0), (.int (0) 0), (.ref 73), (.bool false), (.int (316) 0), (.ref 74), .none, .none, .none, .none, (.int (363) 0), (.int (10) 0), (sv "/claim/cut.py" 364)]⟩), ⟨[]⟩⟩
def o76_3 (P : Params) : Obj := ⟨(.type "frame"), none, .plain, ⟨[(some (.ref 75)), (some (.ref 3)), (some (.ref 72)), none, (some (sv "watchedways.errors" 329)), none, (some (.ref 0))]⟩⟩
def o77_3 (P : Params) : Obj := ⟨(.type "tuple"), none, (.seq ⟨[]⟩ 0), ⟨[]⟩⟩
def o78_3 (P : Params) : Obj := ⟨(.type "dict"), none, (.dict ⟨[en P "__module__" 365 (sv "watchedways.errors" 329), en P "__firstlineno__" 369 (.int (10) 368), en P "__static_attributes__" 370 (.ref 77), en P "__doc__" 371 .none]⟩ 2), ⟨[]⟩⟩
def o79_3 (P : Params) : Obj := ⟨(.type "type"), none, (.cls ⟨(ns "BadWord"), [(.ref 66)], [(.ref 79), (.ref 66), (.type "ValueError"), (.type "Exception"), (.type "BaseException"), (.type "object")], 78, (ns "BadWord"), true, [], [], false, none, false⟩), ⟨[(some (.ref 70)), none, (some (sv "BadWord" 358)), (some (sv "BadWord" 366)), (some (.builtin "ValueError.__new__")), (some (.bool true))]⟩⟩
def o80_3 (P : Params) : Obj := ⟨(.type "super"), none, (.fields ⟨[(.ref 79), (.ref 79), (.ref 79)]⟩), ⟨[]⟩⟩
def o81_3 (P : Params) : Obj := ⟨(.type "builtin_function_or_method"), none, (.fields ⟨[(.builtin "object.__init_subclass__"), (.ref 79)]⟩), ⟨[]⟩⟩
def o82_3 (P : Params) : Obj := ⟨(.type "tuple"), none, (.seq ⟨[(.ref 66)]⟩ 0), ⟨[]⟩⟩
def o83_3 (P : Params) : Obj := ⟨(.type "builtin_function_or_method"), none, (.fields ⟨[(.builtin "type.__prepare__"), (.type "type")]⟩), ⟨[]⟩⟩
def o84_3 (P : Params) : Obj := ⟨(.type "dict"), none, (.dict ⟨[en P "__module__" 381 (sv "watchedways.errors" 329), en P "__qualname__" 383 (sv "BadWatches" 382), en P "__firstlineno__" 385 (.int (12) 384), en P "__static_attributes__" 386 (.ref 89)]⟩ 4), ⟨[]⟩⟩
def o85_3 (P : Params) : Obj := ⟨(.type "tuple"), none, (.seq ⟨[]⟩ 0), ⟨[]⟩⟩
def o86_3 (P : Params) : Obj := ⟨.none, none, (.fields ⟨[]⟩), ⟨[]⟩⟩
def o87_3 (P : Params) : Obj := ⟨(.type "code"), none, (.fields ⟨[(sv "BadWatches" 376), (sv "BadWatches" 377), (sv "/claim/cut.py" 378), (.int (12) 0), (.int (0) 0), (.int (0) 0), (.int (0) 0), (.int (0) 0), (.ref 85), (.bool false), (.int (316) 0), (.ref 86), .none, .none, .none, .none, (.int (379) 0), (.int (12) 0), (sv "/claim/cut.py" 380)]⟩), ⟨[]⟩⟩
def o88_3 (P : Params) : Obj := ⟨(.type "frame"), none, .plain, ⟨[(some (.ref 87)), (some (.ref 3)), (some (.ref 84)), none, (some (sv "watchedways.errors" 329)), none, (some (.ref 0))]⟩⟩
def o89_3 (P : Params) : Obj := ⟨(.type "tuple"), none, (.seq ⟨[]⟩ 0), ⟨[]⟩⟩
def o90_3 (P : Params) : Obj := ⟨(.type "dict"), none, (.dict ⟨[en P "__module__" 381 (sv "watchedways.errors" 329), en P "__firstlineno__" 385 (.int (12) 384), en P "__static_attributes__" 386 (.ref 89), en P "__doc__" 387 .none]⟩ 2), ⟨[]⟩⟩
def o91_3 (P : Params) : Obj := ⟨(.type "type"), none, (.cls ⟨(ns "BadWatches"), [(.ref 66)], [(.ref 91), (.ref 66), (.type "ValueError"), (.type "Exception"), (.type "BaseException"), (.type "object")], 90, (ns "BadWatches"), true, [], [], false, none, false⟩), ⟨[(some (.ref 82)), none, (some (sv "BadWatches" 374)), (some (sv "BadWatches" 382)), (some (.builtin "ValueError.__new__")), (some (.bool true))]⟩⟩
def o92_3 (P : Params) : Obj := ⟨(.type "super"), none, (.fields ⟨[(.ref 91), (.ref 91), (.ref 91)]⟩), ⟨[]⟩⟩
def o93_3 (P : Params) : Obj := ⟨(.type "builtin_function_or_method"), none, (.fields ⟨[(.builtin "object.__init_subclass__"), (.ref 91)]⟩), ⟨[]⟩⟩
def o94_3 (P : Params) : Obj := ⟨(.type "tuple"), none, (.seq ⟨[(.ref 66)]⟩ 0), ⟨[]⟩⟩
def o95_3 (P : Params) : Obj := ⟨(.type "builtin_function_or_method"), none, (.fields ⟨[(.builtin "type.__prepare__"), (.type "type")]⟩), ⟨[]⟩⟩
def o96_3 (P : Params) : Obj := ⟨(.type "dict"), none, (.dict ⟨[en P "__module__" 397 (sv "watchedways.errors" 329), en P "__qualname__" 399 (sv "BadBook" 398), en P "__firstlineno__" 401 (.int (14) 400), en P "__static_attributes__" 402 (.ref 101)]⟩ 4), ⟨[]⟩⟩
def o97_3 (P : Params) : Obj := ⟨(.type "tuple"), none, (.seq ⟨[]⟩ 0), ⟨[]⟩⟩
def o98_3 (P : Params) : Obj := ⟨.none, none, (.fields ⟨[]⟩), ⟨[]⟩⟩
def o99_3 (P : Params) : Obj := ⟨(.type "code"), none, (.fields ⟨[(sv "BadBook" 392), (sv "BadBook" 393), (sv "/claim/cut.py" 394), (.int (14) 0), (.int (0) 0), (.int (0) 0), (.int (0) 0), (.int (0) 0), (.ref 97), (.bool false), (.int (316) 0), (.ref 98), .none, .none, .none, .none, (.int (395) 0), (.int (14) 0), (sv "/claim/cut.py" 396)]⟩), ⟨[]⟩⟩
def o100_3 (P : Params) : Obj := ⟨(.type "frame"), none, .plain, ⟨[(some (.ref 99)), (some (.ref 3)), (some (.ref 96)), none, (some (sv "watchedways.errors" 329)), none, (some (.ref 0))]⟩⟩
def o101_3 (P : Params) : Obj := ⟨(.type "tuple"), none, (.seq ⟨[]⟩ 0), ⟨[]⟩⟩
def o102_3 (P : Params) : Obj := ⟨(.type "dict"), none, (.dict ⟨[en P "__module__" 397 (sv "watchedways.errors" 329), en P "__firstlineno__" 401 (.int (14) 400), en P "__static_attributes__" 402 (.ref 101), en P "__doc__" 403 .none]⟩ 2), ⟨[]⟩⟩
def o103_3 (P : Params) : Obj := ⟨(.type "type"), none, (.cls ⟨(ns "BadBook"), [(.ref 66)], [(.ref 103), (.ref 66), (.type "ValueError"), (.type "Exception"), (.type "BaseException"), (.type "object")], 102, (ns "BadBook"), true, [], [], false, none, false⟩), ⟨[(some (.ref 94)), none, (some (sv "BadBook" 390)), (some (sv "BadBook" 398)), (some (.builtin "ValueError.__new__")), (some (.bool true))]⟩⟩
def o104_3 (P : Params) : Obj := ⟨(.type "super"), none, (.fields ⟨[(.ref 103), (.ref 103), (.ref 103)]⟩), ⟨[]⟩⟩
def o105_3 (P : Params) : Obj := ⟨(.type "builtin_function_or_method"), none, (.fields ⟨[(.builtin "object.__init_subclass__"), (.ref 103)]⟩), ⟨[]⟩⟩
def o106_3 (P : Params) : Obj := ⟨(.type "tuple"), none, (.seq ⟨[(.ref 66)]⟩ 0), ⟨[]⟩⟩
def o107_3 (P : Params) : Obj := ⟨(.type "builtin_function_or_method"), none, (.fields ⟨[(.builtin "type.__prepare__"), (.type "type")]⟩), ⟨[]⟩⟩
def o108_3 (P : Params) : Obj := ⟨(.type "dict"), none, (.dict ⟨[en P "__module__" 413 (sv "watchedways.errors" 329), en P "__qualname__" 415 (sv "BadRule" 414), en P "__firstlineno__" 417 (.int (16) 416), en P "__static_attributes__" 418 (.ref 113)]⟩ 4), ⟨[]⟩⟩
def o109_3 (P : Params) : Obj := ⟨(.type "tuple"), none, (.seq ⟨[]⟩ 0), ⟨[]⟩⟩
def o110_3 (P : Params) : Obj := ⟨.none, none, (.fields ⟨[]⟩), ⟨[]⟩⟩
def o111_3 (P : Params) : Obj := ⟨(.type "code"), none, (.fields ⟨[(sv "BadRule" 408), (sv "BadRule" 409), (sv "/claim/cut.py" 410), (.int (16) 0), (.int (0) 0), (.int (0) 0), (.int (0) 0), (.int (0) 0), (.ref 109), (.bool false), (.int (316) 0), (.ref 110), .none, .none, .none, .none, (.int (411) 0), (.int (16) 0), (sv "/claim/cut.py" 412)]⟩), ⟨[]⟩⟩
def o112_3 (P : Params) : Obj := ⟨(.type "frame"), none, .plain, ⟨[(some (.ref 111)), (some (.ref 3)), (some (.ref 108)), none, (some (sv "watchedways.errors" 329)), none, (some (.ref 0))]⟩⟩
def o113_3 (P : Params) : Obj := ⟨(.type "tuple"), none, (.seq ⟨[]⟩ 0), ⟨[]⟩⟩
def o114_3 (P : Params) : Obj := ⟨(.type "dict"), none, (.dict ⟨[en P "__module__" 413 (sv "watchedways.errors" 329), en P "__firstlineno__" 417 (.int (16) 416), en P "__static_attributes__" 418 (.ref 113), en P "__doc__" 419 .none]⟩ 2), ⟨[]⟩⟩
def o115_3 (P : Params) : Obj := ⟨(.type "type"), none, (.cls ⟨(ns "BadRule"), [(.ref 66)], [(.ref 115), (.ref 66), (.type "ValueError"), (.type "Exception"), (.type "BaseException"), (.type "object")], 114, (ns "BadRule"), true, [], [], false, none, false⟩), ⟨[(some (.ref 106)), none, (some (sv "BadRule" 406)), (some (sv "BadRule" 414)), (some (.builtin "ValueError.__new__")), (some (.bool true))]⟩⟩
def o116_3 (P : Params) : Obj := ⟨(.type "super"), none, (.fields ⟨[(.ref 115), (.ref 115), (.ref 115)]⟩), ⟨[]⟩⟩
def o117_3 (P : Params) : Obj := ⟨(.type "builtin_function_or_method"), none, (.fields ⟨[(.builtin "object.__init_subclass__"), (.ref 115)]⟩), ⟨[]⟩⟩
def o118_3 (P : Params) : Obj := ⟨(.type "tuple"), none, (.seq ⟨[(.ref 66)]⟩ 0), ⟨[]⟩⟩
def o119_3 (P : Params) : Obj := ⟨(.type "builtin_function_or_method"), none, (.fields ⟨[(.builtin "type.__prepare__"), (.type "type")]⟩), ⟨[]⟩⟩
def o120_3 (P : Params) : Obj := ⟨(.type "dict"), none, (.dict ⟨[en P "__module__" 429 (sv "watchedways.errors" 329), en P "__qualname__" 431 (sv "BadZigzag" 430), en P "__firstlineno__" 433 (.int (18) 432), en P "__static_attributes__" 434 (.ref 125)]⟩ 4), ⟨[]⟩⟩
def o121_3 (P : Params) : Obj := ⟨(.type "tuple"), none, (.seq ⟨[]⟩ 0), ⟨[]⟩⟩
def o122_3 (P : Params) : Obj := ⟨.none, none, (.fields ⟨[]⟩), ⟨[]⟩⟩
def o123_3 (P : Params) : Obj := ⟨(.type "code"), none, (.fields ⟨[(sv "BadZigzag" 424), (sv "BadZigzag" 425), (sv "/claim/cut.py" 426), (.int (18) 0), (.int (0) 0), (.int (0) 0), (.int (0) 0), (.int (0) 0), (.ref 121), (.bool false), (.int (316) 0), (.ref 122), .none, .none, .none, .none, (.int (427) 0), (.int (18) 0), (sv "/claim/cut.py" 428)]⟩), ⟨[]⟩⟩
def o124_3 (P : Params) : Obj := ⟨(.type "frame"), none, .plain, ⟨[(some (.ref 123)), (some (.ref 3)), (some (.ref 120)), none, (some (sv "watchedways.errors" 329)), none, (some (.ref 0))]⟩⟩
def o125_3 (P : Params) : Obj := ⟨(.type "tuple"), none, (.seq ⟨[]⟩ 0), ⟨[]⟩⟩
def o126_3 (P : Params) : Obj := ⟨(.type "dict"), none, (.dict ⟨[en P "__module__" 429 (sv "watchedways.errors" 329), en P "__firstlineno__" 433 (.int (18) 432), en P "__static_attributes__" 434 (.ref 125), en P "__doc__" 435 .none]⟩ 2), ⟨[]⟩⟩
def o127_3 (P : Params) : Obj := ⟨(.type "type"), none, (.cls ⟨(ns "BadZigzag"), [(.ref 66)], [(.ref 127), (.ref 66), (.type "ValueError"), (.type "Exception"), (.type "BaseException"), (.type "object")], 126, (ns "BadZigzag"), true, [], [], false, none, false⟩), ⟨[(some (.ref 118)), none, (some (sv "BadZigzag" 422)), (some (sv "BadZigzag" 430)), (some (.builtin "ValueError.__new__")), (some (.bool true))]⟩⟩
def o128_3 (P : Params) : Obj := ⟨(.type "super"), none, (.fields ⟨[(.ref 127), (.ref 127), (.ref 127)]⟩), ⟨[]⟩⟩
def o129_3 (P : Params) : Obj := ⟨(.type "builtin_function_or_method"), none, (.fields ⟨[(.builtin "object.__init_subclass__"), (.ref 127)]⟩), ⟨[]⟩⟩
def o130_3 (P : Params) : Obj := ⟨(.type "tuple"), none, (.seq ⟨[]⟩ 0), ⟨[]⟩⟩
def o131_3 (P : Params) : Obj := ⟨.none, none, (.fields ⟨[]⟩), ⟨[]⟩⟩
def o132_3 (P : Params) : Obj := ⟨(.type "tuple"), none, (.seq ⟨[(sv "thing" 443)]⟩ 0), ⟨[]⟩⟩
def o133_3 (P : Params) : Obj := ⟨(.type "tuple"), none, (.seq ⟨[]⟩ 0), ⟨[]⟩⟩
def o134_3 (P : Params) : Obj := ⟨.none, none, (.func ⟨(ns "is_integer"), (ns "is_integer"), defArgs (top 10), .stmts (defBody (top 10)), defScope (top 10), 0, [], .none, .none, .none, .none, none, .none, .none, 0⟩), ⟨[]⟩⟩
def o135_3 (P : Params) : Obj := ⟨(.type "code"), none, (.fields ⟨[(sv "is_integer" 440), (sv "is_integer" 441), (sv "/claim/cut.py" 442), (.int (21) 0), (.int (1) 0), (.int (0) 0), (.int (0) 0), (.int (3) 0), (.ref 130), (.bool true), (.int (316) 0), (.ref 131), .none, (.ref 132), (.ref 133), (.ref 134), (.int (444) 0), (.int (21) 0), (sv "/claim/cut.py" 445)]⟩), ⟨[]⟩⟩
def o136_3 (P : Params) : Obj := ⟨(.type "function"), none, (.func ⟨(ns "is_integer"), (ns "is_integer"), defArgs (top 10), .stmts (defBody (top 10)), defScope (top 10), 3, [], .none, .none, .none, (sv "watchedways.kinds" 438), none, (.ref 135), .none, 0⟩), ⟨[]⟩⟩
def o137_3 (P : Params) : Obj := ⟨(.type "tuple"), none, (.seq ⟨[]⟩ 0), ⟨[]⟩⟩
def o138_3 (P : Params) : Obj := ⟨.none, none, (.fields ⟨[]⟩), ⟨[]⟩⟩
def o139_3 (P : Params) : Obj := ⟨(.type "tuple"), none, (.seq ⟨[(sv "thing" 450)]⟩ 0), ⟨[]⟩⟩
def o140_3 (P : Params) : Obj := ⟨(.type "tuple"), none, (.seq ⟨[]⟩ 0), ⟨[]⟩⟩
def o141_3 (P : Params) : Obj := ⟨.none, none, (.func ⟨(ns "is_row"), (ns "is_row"), defArgs (top 11), .stmts (defBody (top 11)), defScope (top 11), 0, [], .none, .none, .none, .none, none, .none, .none, 0⟩), ⟨[]⟩⟩
def o142_3 (P : Params) : Obj := ⟨(.type "code"), none, (.fields ⟨[(sv "is_row" 447), (sv "is_row" 448), (sv "/claim/cut.py" 449), (.int (23) 0), (.int (1) 0), (.int (0) 0), (.int (0) 0), (.int (3) 0), (.ref 137), (.bool true), (.int (316) 0), (.ref 138), .none, (.ref 139), (.ref 140), (.ref 141), (.int (451) 0), (.int (23) 0), (sv "/claim/cut.py" 452)]⟩), ⟨[]⟩⟩
def o143_3 (P : Params) : Obj := ⟨(.type "function"), none, (.func ⟨(ns "is_row"), (ns "is_row"), defArgs (top 11), .stmts (defBody (top 11)), defScope (top 11), 3, [], .none, .none, .none, (sv "watchedways.kinds" 438), none, (.ref 142), .none, 0⟩), ⟨[]⟩⟩
def o144_3 (P : Params) : Obj := ⟨(.type "tuple"), none, (.seq ⟨[]⟩ 0), ⟨[]⟩⟩
def o145_3 (P : Params) : Obj := ⟨.none, none, (.fields ⟨[]⟩), ⟨[]⟩⟩
def o146_3 (P : Params) : Obj := ⟨(.type "tuple"), none, (.seq ⟨[(sv "thing" 463)]⟩ 0), ⟨[]⟩⟩
def o147_3 (P : Params) : Obj := ⟨(.type "tuple"), none, (.seq ⟨[]⟩ 0), ⟨[]⟩⟩
def o148_3 (P : Params) : Obj := ⟨.none, none, (.func ⟨(ns "is_word"), (ns "is_word"), defArgs (top 15), .stmts (defBody (top 15)), defScope (top 15), 0, [], .none, .none, .none, .none, none, .none, .none, 0⟩), ⟨[]⟩⟩
def o149_3 (P : Params) : Obj := ⟨(.type "code"), none, (.fields ⟨[(sv "is_word" 460), (sv "is_word" 461), (sv "/claim/cut.py" 462), (.int (28) 0), (.int (1) 0), (.int (0) 0), (.int (0) 0), (.int (3) 0), (.ref 144), (.bool true), (.int (316) 0), (.ref 145), .none, (.ref 146), (.ref 147), (.ref 148), (.int (464) 0), (.int (28) 0), (sv "/claim/cut.py" 465)]⟩), ⟨[]⟩⟩
def o150_3 (P : Params) : Obj := ⟨(.type "function"), none, (.func ⟨(ns "is_word"), (ns "is_word"), defArgs (top 15), .stmts (defBody (top 15)), defScope (top 15), 3, [], .none, .none, .none, (sv "watchedways.words" 454), none, (.ref 149), .none, 0⟩), ⟨[]⟩⟩
def o151_3 (P : Params) : Obj := ⟨(.type "tuple"), none, (.seq ⟨[]⟩ 0), ⟨[]⟩⟩
def o152_3 (P : Params) : Obj := ⟨.none, none, (.fields ⟨[]⟩), ⟨[]⟩⟩
def o153_3 (P : Params) : Obj := ⟨(.type "tuple"), none, (.seq ⟨[(sv "thing" 470)]⟩ 0), ⟨[]⟩⟩
def o154_3 (P : Params) : Obj := ⟨(.type "tuple"), none, (.seq ⟨[]⟩ 0), ⟨[]⟩⟩
def o155_3 (P : Params) : Obj := ⟨.none, none, (.func ⟨(ns "is_watch"), (ns "is_watch"), defArgs (top 16), .stmts (defBody (top 16)), defScope (top 16), 0, [], .none, .none, .none, .none, none, .none, .none, 0⟩), ⟨[]⟩⟩
def o156_3 (P : Params) : Obj := ⟨(.type "code"), none, (.fields ⟨[(sv "is_watch" 467), (sv "is_watch" 468), (sv "/claim/cut.py" 469), (.int (30) 0), (.int (1) 0), (.int (0) 0), (.int (0) 0), (.int (3) 0), (.ref 151), (.bool true), (.int (316) 0), (.ref 152), .none, (.ref 153), (.ref 154), (.ref 155), (.int (471) 0), (.int (30) 0), (sv "/claim/cut.py" 472)]⟩), ⟨[]⟩⟩
def o157_3 (P : Params) : Obj := ⟨(.type "function"), none, (.func ⟨(ns "is_watch"), (ns "is_watch"), defArgs (top 16), .stmts (defBody (top 16)), defScope (top 16), 3, [], .none, .none, .none, (sv "watchedways.words" 454), none, (.ref 156), .none, 0⟩), ⟨[]⟩⟩
def o158_3 (P : Params) : Obj := ⟨(.type "tuple"), none, (.seq ⟨[]⟩ 0), ⟨[]⟩⟩
def o159_3 (P : Params) : Obj := ⟨.none, none, (.fields ⟨[]⟩), ⟨[]⟩⟩
def o160_3 (P : Params) : Obj := ⟨.none, none, (.func ⟨(ns "has_letters"), (ns "has_letters"), defArgs (top 17), .stmts (defBody (top 17)), defScope (top 17), 0, [], .none, .none, .none, .none, none, .none, .none, 0⟩), ⟨[]⟩⟩
def o161_3 (P : Params) : Obj := ⟨(.type "code"), none, (.fields ⟨[(sv "has_letters" 474), (sv "has_letters" 475), (sv "/claim/cut.py" 476), (.int (32) 0), (.int (2) 0), (.int (0) 0), (.int (0) 0), (.int (3) 0), (.ref 158), (.bool true), (.int (316) 0), (.ref 159), .none, .none, .none, (.ref 160), (.int (477) 0), (.int (32) 0), (sv "/claim/cut.py" 478)]⟩), ⟨[]⟩⟩
def o162_3 (P : Params) : Obj := ⟨(.type "function"), none, (.func ⟨(ns "has_letters"), (ns "has_letters"), defArgs (top 17), .stmts (defBody (top 17)), defScope (top 17), 3, [], .none, .none, .none, (sv "watchedways.words" 454), none, (.ref 161), .none, 0⟩), ⟨[]⟩⟩
def o163_3 (P : Params) : Obj := ⟨(.type "tuple"), none, (.seq ⟨[]⟩ 0), ⟨[]⟩⟩
def o164_3 (P : Params) : Obj := ⟨.none, none, (.fields ⟨[]⟩), ⟨[]⟩⟩
def o165_3 (P : Params) : Obj := ⟨(.type "tuple"), none, (.seq ⟨[(sv "word" 483)]⟩ 0), ⟨[]⟩⟩
def o166_3 (P : Params) : Obj := ⟨(.type "tuple"), none, (.seq ⟨[]⟩ 0), ⟨[]⟩⟩
def o167_3 (P : Params) : Obj := ⟨.none, none, (.func ⟨(ns "check_word"), (ns "check_word"), defArgs (top 18), .stmts (defBody (top 18)), defScope (top 18), 0, [], .none, .none, .none, .none, none, .none, .none, 0⟩), ⟨[]⟩⟩
def o168_3 (P : Params) : Obj := ⟨(.type "code"), none, (.fields ⟨[(sv "check_word" 480), (sv "check_word" 481), (sv "/claim/cut.py" 482), (.int (36) 0), (.int (1) 0), (.int (0) 0), (.int (0) 0), (.int (3) 0), (.ref 163), (.bool true), (.int (316) 0), (.ref 164), .none, (.ref 165), (.ref 166), (.ref 167), (.int (484) 0), (.int (36) 0), (sv "/claim/cut.py" 485)]⟩), ⟨[]⟩⟩
def o169_3 (P : Params) : Obj := ⟨(.type "function"), none, (.func ⟨(ns "check_word"), (ns "check_word"), defArgs (top 18), .stmts (defBody (top 18)), defScope (top 18), 3, [], .none, .none, .none, (sv "watchedways.words" 454), none, (.ref 168), .none, 0⟩), ⟨[]⟩⟩
def o170_3 (P : Params) : Obj := ⟨(.type "tuple"), none, (.seq ⟨[]⟩ 0), ⟨[]⟩⟩
def o171_3 (P : Params) : Obj := ⟨(.type "builtin_function_or_method"), none, (.fields ⟨[(.builtin "type.__prepare__"), (.type "type")]⟩), ⟨[]⟩⟩
def o172_3 (P : Params) : Obj := ⟨(.type "dict"), none, (.dict ⟨[en P "__module__" 498 (sv "watchedways.books" 487), en P "__qualname__" 500 (sv "Book" 499), en P "__firstlineno__" 502 (.int (41) 501), en P "__init__" 511 (.ref 183), en P "__eq__" 519 (.ref 190), en P "has" 527 (.ref 197), en P "with_watch" 535 (.ref 204), en P "without_watch" 543 (.ref 211), en P "__static_attributes__" 545 (.ref 212)]⟩ 9), ⟨[]⟩⟩
def o173_3 (P : Params) : Obj := ⟨(.type "tuple"), none, (.seq ⟨[]⟩ 0), ⟨[]⟩⟩
def o174_3 (P : Params) : Obj := ⟨.none, none, (.fields ⟨[(.int (43) 0), (.int (4) 0), (.ref 182), (.int (51) 0), (.int (4) 0), (.ref 189), (.int (54) 0), (.int (4) 0), (.ref 196), (.int (57) 0), (.int (4) 0), (.ref 203), (.int (60) 0), (.int (4) 0), (.ref 210)]⟩), ⟨[]⟩⟩
def o175_3 (P : Params) : Obj := ⟨(.type "code"), none, (.fields ⟨[(sv "Book" 493), (sv "Book" 494), (sv "/claim/cut.py" 495), (.int (41) 0), (.int (0) 0), (.int (0) 0), (.int (0) 0), (.int (0) 0), (.ref 173), (.bool false), (.int (316) 0), (.ref 174), .none, .none, .none, .none, (.int (496) 0), (.int (41) 0), (sv "/claim/cut.py" 497)]⟩), ⟨[]⟩⟩
def o176_3 (P : Params) : Obj := ⟨(.type "frame"), none, .plain, ⟨[(some (.ref 175)), (some (.ref 3)), (some (.ref 172)), none, (some (sv "watchedways.books" 487)), none, (some (.ref 0))]⟩⟩
def o177_3 (P : Params) : Obj := ⟨(.type "tuple"), none, (.seq ⟨[]⟩ 0), ⟨[]⟩⟩
def o178_3 (P : Params) : Obj := ⟨.none, none, (.fields ⟨[]⟩), ⟨[]⟩⟩
def o179_3 (P : Params) : Obj := ⟨(.type "tuple"), none, (.seq ⟨[(sv "self" 506), (sv "watches" 507), (sv "wrong" 508)]⟩ 0), ⟨[]⟩⟩
def o180_3 (P : Params) : Obj := ⟨(.type "tuple"), none, (.seq ⟨[]⟩ 0), ⟨[]⟩⟩
def o181_3 (P : Params) : Obj := ⟨.none, none, (.func ⟨(ns "__init__"), (ns "Book.__init__"), defArgs (subS (top 21) 0), .stmts (defBody (subS (top 21) 0)), defScope (subS (top 21) 0), 0, [], .none, .none, .none, .none, none, .none, .none, 0⟩), ⟨[]⟩⟩
def o182_3 (P : Params) : Obj := ⟨(.type "code"), none, (.fields ⟨[(sv "__init__" 503), (sv "Book.__init__" 504), (sv "/claim/cut.py" 505), (.int (43) 0), (.int (2) 0), (.int (0) 0), (.int (0) 0), (.int (3) 0), (.ref 177), (.bool true), (.int (316) 0), (.ref 178), .none, (.ref 179), (.ref 180), (.ref 181), (.int (509) 0), (.int (43) 0), (sv "/claim/cut.py" 510)]⟩), ⟨[]⟩⟩
def o183_3 (P : Params) : Obj := ⟨(.type "function"), none, (.func ⟨(ns "__init__"), (ns "Book.__init__"), defArgs (subS (top 21) 0), .stmts (defBody (subS (top 21) 0)), defScope (subS (top 21) 0), 3, [], .none, .none, .none, (sv "watchedways.books" 487), none, (.ref 182), .none, 0⟩), ⟨[]⟩⟩
def o184_3 (P : Params) : Obj := ⟨(.type "tuple"), none, (.seq ⟨[]⟩ 0), ⟨[]⟩⟩
def o185_3 (P : Params) : Obj := ⟨.none, none, (.fields ⟨[]⟩), ⟨[]⟩⟩
def o186_3 (P : Params) : Obj := ⟨(.type "tuple"), none, (.seq ⟨[(sv "self" 515), (sv "other" 516)]⟩ 0), ⟨[]⟩⟩
def o187_3 (P : Params) : Obj := ⟨(.type "tuple"), none, (.seq ⟨[]⟩ 0), ⟨[]⟩⟩
def o188_3 (P : Params) : Obj := ⟨.none, none, (.func ⟨(ns "__eq__"), (ns "Book.__eq__"), defArgs (subS (top 21) 1), .stmts (defBody (subS (top 21) 1)), defScope (subS (top 21) 1), 0, [], .none, .none, .none, .none, none, .none, .none, 0⟩), ⟨[]⟩⟩
def o189_3 (P : Params) : Obj := ⟨(.type "code"), none, (.fields ⟨[(sv "__eq__" 512), (sv "Book.__eq__" 513), (sv "/claim/cut.py" 514), (.int (51) 0), (.int (2) 0), (.int (0) 0), (.int (0) 0), (.int (3) 0), (.ref 184), (.bool true), (.int (316) 0), (.ref 185), .none, (.ref 186), (.ref 187), (.ref 188), (.int (517) 0), (.int (51) 0), (sv "/claim/cut.py" 518)]⟩), ⟨[]⟩⟩
def o190_3 (P : Params) : Obj := ⟨(.type "function"), none, (.func ⟨(ns "__eq__"), (ns "Book.__eq__"), defArgs (subS (top 21) 1), .stmts (defBody (subS (top 21) 1)), defScope (subS (top 21) 1), 3, [], .none, .none, .none, (sv "watchedways.books" 487), none, (.ref 189), .none, 0⟩), ⟨[]⟩⟩
def o191_3 (P : Params) : Obj := ⟨(.type "tuple"), none, (.seq ⟨[]⟩ 0), ⟨[]⟩⟩
def o192_3 (P : Params) : Obj := ⟨.none, none, (.fields ⟨[]⟩), ⟨[]⟩⟩
def o193_3 (P : Params) : Obj := ⟨(.type "tuple"), none, (.seq ⟨[(sv "self" 523), (sv "thing" 524)]⟩ 0), ⟨[]⟩⟩
def o194_3 (P : Params) : Obj := ⟨(.type "tuple"), none, (.seq ⟨[]⟩ 0), ⟨[]⟩⟩
def o195_3 (P : Params) : Obj := ⟨.none, none, (.func ⟨(ns "has"), (ns "Book.has"), defArgs (subS (top 21) 2), .stmts (defBody (subS (top 21) 2)), defScope (subS (top 21) 2), 0, [], .none, .none, .none, .none, none, .none, .none, 0⟩), ⟨[]⟩⟩
def o196_3 (P : Params) : Obj := ⟨(.type "code"), none, (.fields ⟨[(sv "has" 520), (sv "Book.has" 521), (sv "/claim/cut.py" 522), (.int (54) 0), (.int (2) 0), (.int (0) 0), (.int (0) 0), (.int (3) 0), (.ref 191), (.bool true), (.int (316) 0), (.ref 192), .none, (.ref 193), (.ref 194), (.ref 195), (.int (525) 0), (.int (54) 0), (sv "/claim/cut.py" 526)]⟩), ⟨[]⟩⟩
def o197_3 (P : Params) : Obj := ⟨(.type "function"), none, (.func ⟨(ns "has"), (ns "Book.has"), defArgs (subS (top 21) 2), .stmts (defBody (subS (top 21) 2)), defScope (subS (top 21) 2), 3, [], .none, .none, .none, (sv "watchedways.books" 487), none, (.ref 196), .none, 0⟩), ⟨[]⟩⟩
def o198_3 (P : Params) : Obj := ⟨(.type "tuple"), none, (.seq ⟨[]⟩ 0), ⟨[]⟩⟩
def o199_3 (P : Params) : Obj := ⟨.none, none, (.fields ⟨[]⟩), ⟨[]⟩⟩
def o200_3 (P : Params) : Obj := ⟨(.type "tuple"), none, (.seq ⟨[(sv "self" 531), (sv "watch" 532)]⟩ 0), ⟨[]⟩⟩
def o201_3 (P : Params) : Obj := ⟨(.type "tuple"), none, (.seq ⟨[]⟩ 0), ⟨[]⟩⟩
def o202_3 (P : Params) : Obj := ⟨.none, none, (.func ⟨(ns "with_watch"), (ns "Book.with_watch"), defArgs (subS (top 21) 3), .stmts (defBody (subS (top 21) 3)), defScope (subS (top 21) 3), 0, [], .none, .none, .none, .none, none, .none, .none, 0⟩), ⟨[]⟩⟩
def o203_3 (P : Params) : Obj := ⟨(.type "code"), none, (.fields ⟨[(sv "with_watch" 528), (sv "Book.with_watch" 529), (sv "/claim/cut.py" 530), (.int (57) 0), (.int (2) 0), (.int (0) 0), (.int (0) 0), (.int (3) 0), (.ref 198), (.bool true), (.int (316) 0), (.ref 199), .none, (.ref 200), (.ref 201), (.ref 202), (.int (533) 0), (.int (57) 0), (sv "/claim/cut.py" 534)]⟩), ⟨[]⟩⟩
def o204_3 (P : Params) : Obj := ⟨(.type "function"), none, (.func ⟨(ns "with_watch"), (ns "Book.with_watch"), defArgs (subS (top 21) 3), .stmts (defBody (subS (top 21) 3)), defScope (subS (top 21) 3), 3, [], .none, .none, .none, (sv "watchedways.books" 487), none, (.ref 203), .none, 0⟩), ⟨[]⟩⟩
def o205_3 (P : Params) : Obj := ⟨(.type "tuple"), none, (.seq ⟨[]⟩ 0), ⟨[]⟩⟩
def o206_3 (P : Params) : Obj := ⟨.none, none, (.fields ⟨[]⟩), ⟨[]⟩⟩
def o207_3 (P : Params) : Obj := ⟨(.type "tuple"), none, (.seq ⟨[(sv "self" 539), (sv "watch" 540)]⟩ 0), ⟨[]⟩⟩
def o208_3 (P : Params) : Obj := ⟨(.type "tuple"), none, (.seq ⟨[]⟩ 0), ⟨[]⟩⟩
def o209_3 (P : Params) : Obj := ⟨.none, none, (.func ⟨(ns "without_watch"), (ns "Book.without_watch"), defArgs (subS (top 21) 4), .stmts (defBody (subS (top 21) 4)), defScope (subS (top 21) 4), 0, [], .none, .none, .none, .none, none, .none, .none, 0⟩), ⟨[]⟩⟩
def o210_3 (P : Params) : Obj := ⟨(.type "code"), none, (.fields ⟨[(sv "without_watch" 536), (sv "Book.without_watch" 537), (sv "/claim/cut.py" 538), (.int (60) 0), (.int (2) 0), (.int (0) 0), (.int (0) 0), (.int (3) 0), (.ref 205), (.bool true), (.int (316) 0), (.ref 206), .none, (.ref 207), (.ref 208), (.ref 209), (.int (541) 0), (.int (60) 0), (sv "/claim/cut.py" 542)]⟩), ⟨[]⟩⟩
def o211_3 (P : Params) : Obj := ⟨(.type "function"), none, (.func ⟨(ns "without_watch"), (ns "Book.without_watch"), defArgs (subS (top 21) 4), .stmts (defBody (subS (top 21) 4)), defScope (subS (top 21) 4), 3, [], .none, .none, .none, (sv "watchedways.books" 487), none, (.ref 210), .none, 0⟩), ⟨[]⟩⟩
def o212_3 (P : Params) : Obj := ⟨(.type "tuple"), none, (.seq ⟨[(sv "watches" 544)]⟩ 0), ⟨[]⟩⟩
def o213_3 (P : Params) : Obj := ⟨(.type "dict"), none, (.dict ⟨[en P "__module__" 498 (sv "watchedways.books" 487), en P "__firstlineno__" 502 (.int (41) 501), en P "__init__" 511 (.ref 183), en P "__eq__" 519 (.ref 190), en P "has" 527 (.ref 197), en P "with_watch" 535 (.ref 204), en P "without_watch" 543 (.ref 211), en P "__static_attributes__" 545 (.ref 212), en P "__dict__" 547 (.ref 215), en P "__weakref__" 549 (.ref 216), en P "__doc__" 550 .none, en P "__hash__" 551 .none]⟩ 5), ⟨[]⟩⟩
def o214_3 (P : Params) : Obj := ⟨(.type "type"), none, (.cls ⟨(ns "Book"), [(.type "object")], [(.ref 214), (.type "object")], 213, (ns "Book"), true, [], [], false, none, false⟩), ⟨[none, none, (some (sv "Book" 491)), (some (sv "Book" 499)), (some (.builtin "object.__new__")), (some (.bool true))]⟩⟩
def o215_3 (P : Params) : Obj := ⟨(.type "getset_descriptor"), none, (.fields ⟨[(sv "__dict__" 546), (.ref 214), (.builtin "function.__dict__"), (.builtin "function.__dict__#set")]⟩), ⟨[]⟩⟩
def o216_3 (P : Params) : Obj := ⟨(.type "getset_descriptor"), none, (.fields ⟨[(sv "__weakref__" 548), (.ref 214), (.builtin "ExceptionGroup.__weakref__"), .none]⟩), ⟨[]⟩⟩
def o217_3 (P : Params) : Obj := ⟨(.type "super"), none, (.fields ⟨[(.ref 214), (.ref 214), (.ref 214)]⟩), ⟨[]⟩⟩
def o218_3 (P : Params) : Obj := ⟨(.type "builtin_function_or_method"), none, (.fields ⟨[(.builtin "object.__init_subclass__"), (.ref 214)]⟩), ⟨[]⟩⟩
def o219_3 (P : Params) : Obj := ⟨(.type "tuple"), none, (.seq ⟨[]⟩ 0), ⟨[]⟩⟩
def o220_3 (P : Params) : Obj := ⟨.none, none, (.fields ⟨[]⟩), ⟨[]⟩⟩
def o221_3 (P : Params) : Obj := ⟨(.type "tuple"), none, (.seq ⟨[(sv "watches" 557), (sv "at" 558), (sv "watch" 559)]⟩ 0), ⟨[]⟩⟩
def o222_3 (P : Params) : Obj := ⟨(.type "tuple"), none, (.seq ⟨[]⟩ 0), ⟨[]⟩⟩
def o223_3 (P : Params) : Obj := ⟨.none, none, (.func ⟨(ns "wrong_watch"), (ns "wrong_watch"), defArgs (top 22), .stmts (defBody (top 22)), defScope (top 22), 0, [], .none, .none, .none, .none, none, .none, .none, 0⟩), ⟨[]⟩⟩
def o224_3 (P : Params) : Obj := ⟨(.type "code"), none, (.fields ⟨[(sv "wrong_watch" 554), (sv "wrong_watch" 555), (sv "/claim/cut.py" 556), (.int (62) 0), (.int (1) 0), (.int (0) 0), (.int (0) 0), (.int (3) 0), (.ref 219), (.bool true), (.int (316) 0), (.ref 220), .none, (.ref 221), (.ref 222), (.ref 223), (.int (560) 0), (.int (62) 0), (sv "/claim/cut.py" 561)]⟩), ⟨[]⟩⟩
def o225_3 (P : Params) : Obj := ⟨(.type "function"), none, (.func ⟨(ns "wrong_watch"), (ns "wrong_watch"), defArgs (top 22), .stmts (defBody (top 22)), defScope (top 22), 3, [], .none, .none, .none, (sv "watchedways.books" 487), none, (.ref 224), .none, 0⟩), ⟨[]⟩⟩
def o226_3 (P : Params) : Obj := ⟨(.type "tuple"), none, (.seq ⟨[]⟩ 0), ⟨[]⟩⟩
def o227_3 (P : Params) : Obj := ⟨.none, none, (.fields ⟨[]⟩), ⟨[]⟩⟩
def o228_3 (P : Params) : Obj := ⟨(.type "tuple"), none, (.seq ⟨[(sv "book" 566)]⟩ 0), ⟨[]⟩⟩
def o229_3 (P : Params) : Obj := ⟨(.type "tuple"), none, (.seq ⟨[]⟩ 0), ⟨[]⟩⟩
def o230_3 (P : Params) : Obj := ⟨.none, none, (.func ⟨(ns "check_book"), (ns "check_book"), defArgs (top 23), .stmts (defBody (top 23)), defScope (top 23), 0, [], .none, .none, .none, .none, none, .none, .none, 0⟩), ⟨[]⟩⟩
def o231_3 (P : Params) : Obj := ⟨(.type "code"), none, (.fields ⟨[(sv "check_book" 563), (sv "check_book" 564), (sv "/claim/cut.py" 565), (.int (67) 0), (.int (1) 0), (.int (0) 0), (.int (0) 0), (.int (3) 0), (.ref 226), (.bool true), (.int (316) 0), (.ref 227), .none, (.ref 228), (.ref 229), (.ref 230), (.int (567) 0), (.int (67) 0), (sv "/claim/cut.py" 568)]⟩), ⟨[]⟩⟩
def o232_3 (P : Params) : Obj := ⟨(.type "function"), none, (.func ⟨(ns "check_book"), (ns "check_book"), defArgs (top 23), .stmts (defBody (top 23)), defScope (top 23), 3, [], .none, .none, .none, (sv "watchedways.books" 487), none, (.ref 231), .none, 0⟩), ⟨[]⟩⟩
def o233_3 (P : Params) : Obj := ⟨(.type "tuple"), none, (.seq ⟨[]⟩ 0), ⟨[]⟩⟩
def o234_3 (P : Params) : Obj := ⟨.none, none, (.fields ⟨[]⟩), ⟨[]⟩⟩
def o235_3 (P : Params) : Obj := ⟨(.type "tuple"), none, (.seq ⟨[(sv "book" 573), (sv "word" 574)]⟩ 0), ⟨[]⟩⟩
def o236_3 (P : Params) : Obj := ⟨(.type "tuple"), none, (.seq ⟨[]⟩ 0), ⟨[]⟩⟩
def o237_3 (P : Params) : Obj := ⟨.none, none, (.func ⟨(ns "check_asked"), (ns "check_asked"), defArgs (top 24), .stmts (defBody (top 24)), defScope (top 24), 0, [], .none, .none, .none, .none, none, .none, .none, 0⟩), ⟨[]⟩⟩
def o238_3 (P : Params) : Obj := ⟨(.type "code"), none, (.fields ⟨[(sv "check_asked" 570), (sv "check_asked" 571), (sv "/claim/cut.py" 572), (.int (70) 0), (.int (2) 0), (.int (0) 0), (.int (0) 0), (.int (3) 0), (.ref 233), (.bool true), (.int (316) 0), (.ref 234), .none, (.ref 235), (.ref 236), (.ref 237), (.int (575) 0), (.int (70) 0), (sv "/claim/cut.py" 576)]⟩), ⟨[]⟩⟩
def o239_3 (P : Params) : Obj := ⟨(.type "function"), none, (.func ⟨(ns "check_asked"), (ns "check_asked"), defArgs (top 24), .stmts (defBody (top 24)), defScope (top 24), 3, [], .none, .none, .none, (sv "watchedways.books" 487), none, (.ref 238), .none, 0⟩), ⟨[]⟩⟩
def o240_3 (P : Params) : Obj := ⟨(.type "tuple"), none, (.seq ⟨[]⟩ 0), ⟨[]⟩⟩
def o241_3 (P : Params) : Obj := ⟨.none, none, (.fields ⟨[]⟩), ⟨[]⟩⟩
def o242_3 (P : Params) : Obj := ⟨(.type "tuple"), none, (.seq ⟨[(sv "thing" 589)]⟩ 0), ⟨[]⟩⟩
def o243_3 (P : Params) : Obj := ⟨(.type "tuple"), none, (.seq ⟨[]⟩ 0), ⟨[]⟩⟩
def o244_3 (P : Params) : Obj := ⟨.none, none, (.func ⟨(ns "is_step"), (ns "is_step"), defArgs (top 29), .stmts (defBody (top 29)), defScope (top 29), 0, [], .none, .none, .none, .none, none, .none, .none, 0⟩), ⟨[]⟩⟩
def o245_3 (P : Params) : Obj := ⟨(.type "code"), none, (.fields ⟨[(sv "is_step" 586), (sv "is_step" 587), (sv "/claim/cut.py" 588), (.int (77) 0), (.int (1) 0), (.int (0) 0), (.int (0) 0), (.int (3) 0), (.ref 240), (.bool true), (.int (316) 0), (.ref 241), .none, (.ref 242), (.ref 243), (.ref 244), (.int (590) 0), (.int (77) 0), (sv "/claim/cut.py" 591)]⟩), ⟨[]⟩⟩
def o246_3 (P : Params) : Obj := ⟨(.type "function"), none, (.func ⟨(ns "is_step"), (ns "is_step"), defArgs (top 29), .stmts (defBody (top 29)), defScope (top 29), 3, [], .none, .none, .none, (sv "watchedways.steps" 578), none, (.ref 245), .none, 0⟩), ⟨[]⟩⟩
def o247_3 (P : Params) : Obj := ⟨(.type "tuple"), none, (.seq ⟨[]⟩ 0), ⟨[]⟩⟩
def o248_3 (P : Params) : Obj := ⟨.none, none, (.fields ⟨[]⟩), ⟨[]⟩⟩
def o249_3 (P : Params) : Obj := ⟨.none, none, (.func ⟨(ns "is_any_rule"), (ns "is_any_rule"), defArgs (top 30), .stmts (defBody (top 30)), defScope (top 30), 0, [], .none, .none, .none, .none, none, .none, .none, 0⟩), ⟨[]⟩⟩
def o250_3 (P : Params) : Obj := ⟨(.type "code"), none, (.fields ⟨[(sv "is_any_rule" 593), (sv "is_any_rule" 594), (sv "/claim/cut.py" 595), (.int (79) 0), (.int (1) 0), (.int (0) 0), (.int (0) 0), (.int (3) 0), (.ref 247), (.bool true), (.int (316) 0), (.ref 248), .none, .none, .none, (.ref 249), (.int (596) 0), (.int (79) 0), (sv "/claim/cut.py" 597)]⟩), ⟨[]⟩⟩
def o251_3 (P : Params) : Obj := ⟨(.type "function"), none, (.func ⟨(ns "is_any_rule"), (ns "is_any_rule"), defArgs (top 30), .stmts (defBody (top 30)), defScope (top 30), 3, [], .none, .none, .none, (sv "watchedways.steps" 578), none, (.ref 250), .none, 0⟩), ⟨[]⟩⟩
def o252_3 (P : Params) : Obj := ⟨(.type "tuple"), none, (.seq ⟨[]⟩ 0), ⟨[]⟩⟩
def o253_3 (P : Params) : Obj := ⟨.none, none, (.fields ⟨[]⟩), ⟨[]⟩⟩
def o254_3 (P : Params) : Obj := ⟨(.type "tuple"), none, (.seq ⟨[(sv "rule" 602)]⟩ 0), ⟨[]⟩⟩
def o255_3 (P : Params) : Obj := ⟨(.type "tuple"), none, (.seq ⟨[]⟩ 0), ⟨[]⟩⟩
def o256_3 (P : Params) : Obj := ⟨.none, none, (.func ⟨(ns "check_rule"), (ns "check_rule"), defArgs (top 31), .stmts (defBody (top 31)), defScope (top 31), 0, [], .none, .none, .none, .none, none, .none, .none, 0⟩), ⟨[]⟩⟩
def o257_3 (P : Params) : Obj := ⟨(.type "code"), none, (.fields ⟨[(sv "check_rule" 599), (sv "check_rule" 600), (sv "/claim/cut.py" 601), (.int (83) 0), (.int (1) 0), (.int (0) 0), (.int (0) 0), (.int (3) 0), (.ref 252), (.bool true), (.int (316) 0), (.ref 253), .none, (.ref 254), (.ref 255), (.ref 256), (.int (603) 0), (.int (83) 0), (sv "/claim/cut.py" 604)]⟩), ⟨[]⟩⟩
def o258_3 (P : Params) : Obj := ⟨(.type "function"), none, (.func ⟨(ns "check_rule"), (ns "check_rule"), defArgs (top 31), .stmts (defBody (top 31)), defScope (top 31), 3, [], .none, .none, .none, (sv "watchedways.steps" 578), none, (.ref 257), .none, 0⟩), ⟨[]⟩⟩
def o259_3 (P : Params) : Obj := ⟨(.type "tuple"), none, (.seq ⟨[]⟩ 0), ⟨[]⟩⟩
def o260_3 (P : Params) : Obj := ⟨.none, none, (.fields ⟨[]⟩), ⟨[]⟩⟩
def o261_3 (P : Params) : Obj := ⟨(.type "tuple"), none, (.seq ⟨[(sv "word" 609), (sv "rule" 610), (sv "spots" 611), (sv "kind" 612), (sv "watch" 613), (sv "here" 614), (sv "there" 615), (sv "low" 616), (sv "high" 617)]⟩ 0), ⟨[]⟩⟩
def o262_3 (P : Params) : Obj := ⟨(.type "tuple"), none, (.seq ⟨[]⟩ 0), ⟨[]⟩⟩
def o263_3 (P : Params) : Obj := ⟨.none, none, (.func ⟨(ns "spots_along"), (ns "spots_along"), defArgs (top 32), .stmts (defBody (top 32)), defScope (top 32), 0, [], .none, .none, .none, .none, none, .none, .none, 0⟩), ⟨[]⟩⟩
def o264_3 (P : Params) : Obj := ⟨(.type "code"), none, (.fields ⟨[(sv "spots_along" 606), (sv "spots_along" 607), (sv "/claim/cut.py" 608), (.int (86) 0), (.int (2) 0), (.int (0) 0), (.int (0) 0), (.int (3) 0), (.ref 259), (.bool true), (.int (316) 0), (.ref 260), .none, (.ref 261), (.ref 262), (.ref 263), (.int (618) 0), (.int (86) 0), (sv "/claim/cut.py" 619)]⟩), ⟨[]⟩⟩
def o265_3 (P : Params) : Obj := ⟨(.type "function"), none, (.func ⟨(ns "spots_along"), (ns "spots_along"), defArgs (top 32), .stmts (defBody (top 32)), defScope (top 32), 3, [], .none, .none, .none, (sv "watchedways.steps" 578), none, (.ref 264), .none, 0⟩), ⟨[]⟩⟩
def o266_3 (P : Params) : Obj := ⟨(.type "tuple"), none, (.seq ⟨[]⟩ 0), ⟨[]⟩⟩
def o267_3 (P : Params) : Obj := ⟨.none, none, (.fields ⟨[]⟩), ⟨[]⟩⟩
def o268_3 (P : Params) : Obj := ⟨.none, none, (.func ⟨(ns "steps_along"), (ns "steps_along"), defArgs (top 33), .stmts (defBody (top 33)), defScope (top 33), 0, [], .none, .none, .none, .none, none, .none, .none, 0⟩), ⟨[]⟩⟩
def o269_3 (P : Params) : Obj := ⟨(.type "code"), none, (.fields ⟨[(sv "steps_along" 621), (sv "steps_along" 622), (sv "/claim/cut.py" 623), (.int (96) 0), (.int (2) 0), (.int (0) 0), (.int (0) 0), (.int (3) 0), (.ref 266), (.bool true), (.int (316) 0), (.ref 267), .none, .none, .none, (.ref 268), (.int (624) 0), (.int (96) 0), (sv "/claim/cut.py" 625)]⟩), ⟨[]⟩⟩
def o270_3 (P : Params) : Obj := ⟨(.type "function"), none, (.func ⟨(ns "steps_along"), (ns "steps_along"), defArgs (top 33), .stmts (defBody (top 33)), defScope (top 33), 3, [], .none, .none, .none, (sv "watchedways.steps" 578), none, (.ref 269), .none, 0⟩), ⟨[]⟩⟩
def o271_3 (P : Params) : Obj := ⟨(.type "tuple"), none, (.seq ⟨[]⟩ 0), ⟨[]⟩⟩
def o272_3 (P : Params) : Obj := ⟨.none, none, (.fields ⟨[]⟩), ⟨[]⟩⟩
def o273_3 (P : Params) : Obj := ⟨(.type "tuple"), none, (.seq ⟨[(sv "word" 630), (sv "here" 631), (sv "there" 632)]⟩ 0), ⟨[]⟩⟩
def o274_3 (P : Params) : Obj := ⟨(.type "tuple"), none, (.seq ⟨[]⟩ 0), ⟨[]⟩⟩
def o275_3 (P : Params) : Obj := ⟨.none, none, (.func ⟨(ns "step_between"), (ns "step_between"), defArgs (top 34), .stmts (defBody (top 34)), defScope (top 34), 0, [], .none, .none, .none, .none, none, .none, .none, 0⟩), ⟨[]⟩⟩
def o276_3 (P : Params) : Obj := ⟨(.type "code"), none, (.fields ⟨[(sv "step_between" 627), (sv "step_between" 628), (sv "/claim/cut.py" 629), (.int (98) 0), (.int (3) 0), (.int (0) 0), (.int (0) 0), (.int (3) 0), (.ref 271), (.bool true), (.int (316) 0), (.ref 272), .none, (.ref 273), (.ref 274), (.ref 275), (.int (633) 0), (.int (98) 0), (sv "/claim/cut.py" 634)]⟩), ⟨[]⟩⟩
def o277_3 (P : Params) : Obj := ⟨(.type "function"), none, (.func ⟨(ns "step_between"), (ns "step_between"), defArgs (top 34), .stmts (defBody (top 34)), defScope (top 34), 3, [], .none, .none, .none, (sv "watchedways.steps" 578), none, (.ref 276), .none, 0⟩), ⟨[]⟩⟩
def o278_3 (P : Params) : Obj := ⟨(.type "tuple"), none, (.seq ⟨[]⟩ 0), ⟨[]⟩⟩
def o279_3 (P : Params) : Obj := ⟨.none, none, (.fields ⟨[]⟩), ⟨[]⟩⟩
def o280_3 (P : Params) : Obj := ⟨(.type "tuple"), none, (.seq ⟨[(sv "book" 646), (sv "word" 647)]⟩ 0), ⟨[]⟩⟩
def o281_3 (P : Params) : Obj := ⟨(.type "tuple"), none, (.seq ⟨[]⟩ 0), ⟨[]⟩⟩
def o282_3 (P : Params) : Obj := ⟨.none, none, (.func ⟨(ns "links_of"), (ns "links_of"), defArgs (top 38), .stmts (defBody (top 38)), defScope (top 38), 0, [], .none, .none, .none, .none, none, .none, .none, 0⟩), ⟨[]⟩⟩
def o283_3 (P : Params) : Obj := ⟨(.type "code"), none, (.fields ⟨[(sv "links_of" 643), (sv "links_of" 644), (sv "/claim/cut.py" 645), (.int (105) 0), (.int (2) 0), (.int (0) 0), (.int (0) 0), (.int (3) 0), (.ref 278), (.bool true), (.int (316) 0), (.ref 279), .none, (.ref 280), (.ref 281), (.ref 282), (.int (648) 0), (.int (105) 0), (sv "/claim/cut.py" 649)]⟩), ⟨[]⟩⟩
def o284_3 (P : Params) : Obj := ⟨(.type "function"), none, (.func ⟨(ns "links_of"), (ns "links_of"), defArgs (top 38), .stmts (defBody (top 38)), defScope (top 38), 3, [], .none, .none, .none, (sv "watchedways.walks" 636), none, (.ref 283), .none, 0⟩), ⟨[]⟩⟩
def o285_3 (P : Params) : Obj := ⟨(.type "tuple"), none, (.seq ⟨[]⟩ 0), ⟨[]⟩⟩
def o286_3 (P : Params) : Obj := ⟨.none, none, (.fields ⟨[]⟩), ⟨[]⟩⟩
def o287_3 (P : Params) : Obj := ⟨.none, none, (.func ⟨(ns "links_through"), (ns "links_through"), defArgs (top 39), .stmts (defBody (top 39)), defScope (top 39), 0, [], .none, .none, .none, .none, none, .none, .none, 0⟩), ⟨[]⟩⟩
def o288_3 (P : Params) : Obj := ⟨(.type "code"), none, (.fields ⟨[(sv "links_through" 651), (sv "links_through" 652), (sv "/claim/cut.py" 653), (.int (107) 0), (.int (2) 0), (.int (0) 0), (.int (0) 0), (.int (3) 0), (.ref 285), (.bool true), (.int (316) 0), (.ref 286), .none, .none, .none, (.ref 287), (.int (654) 0), (.int (107) 0), (sv "/claim/cut.py" 655)]⟩), ⟨[]⟩⟩
def o289_3 (P : Params) : Obj := ⟨(.type "function"), none, (.func ⟨(ns "links_through"), (ns "links_through"), defArgs (top 39), .stmts (defBody (top 39)), defScope (top 39), 3, [], .none, .none, .none, (sv "watchedways.walks" 636), none, (.ref 288), .none, 0⟩), ⟨[]⟩⟩
def o290_3 (P : Params) : Obj := ⟨(.type "tuple"), none, (.seq ⟨[]⟩ 0), ⟨[]⟩⟩
def o291_3 (P : Params) : Obj := ⟨.none, none, (.fields ⟨[]⟩), ⟨[]⟩⟩
def o292_3 (P : Params) : Obj := ⟨(.type "tuple"), none, (.seq ⟨[(sv "links" 660), (sv "goal" 661), (sv "steps" 662), (sv "ring" 663), (sv "farther" 664), (sv "spot" 665), (sv "mate" 666)]⟩ 0), ⟨[]⟩⟩
def o293_3 (P : Params) : Obj := ⟨(.type "tuple"), none, (.seq ⟨[]⟩ 0), ⟨[]⟩⟩
def o294_3 (P : Params) : Obj := ⟨.none, none, (.func ⟨(ns "steps_to"), (ns "steps_to"), defArgs (top 40), .stmts (defBody (top 40)), defScope (top 40), 0, [], .none, .none, .none, .none, none, .none, .none, 0⟩), ⟨[]⟩⟩
def o295_3 (P : Params) : Obj := ⟨(.type "code"), none, (.fields ⟨[(sv "steps_to" 657), (sv "steps_to" 658), (sv "/claim/cut.py" 659), (.int (117) 0), (.int (2) 0), (.int (0) 0), (.int (0) 0), (.int (3) 0), (.ref 290), (.bool true), (.int (316) 0), (.ref 291), .none, (.ref 292), (.ref 293), (.ref 294), (.int (667) 0), (.int (117) 0), (sv "/claim/cut.py" 668)]⟩), ⟨[]⟩⟩
def o296_3 (P : Params) : Obj := ⟨(.type "function"), none, (.func ⟨(ns "steps_to"), (ns "steps_to"), defArgs (top 40), .stmts (defBody (top 40)), defScope (top 40), 3, [], .none, .none, .none, (sv "watchedways.walks" 636), none, (.ref 295), .none, 0⟩), ⟨[]⟩⟩
def o297_3 (P : Params) : Obj := ⟨(.type "tuple"), none, (.seq ⟨[]⟩ 0), ⟨[]⟩⟩
def o298_3 (P : Params) : Obj := ⟨.none, none, (.fields ⟨[]⟩), ⟨[]⟩⟩
def o299_3 (P : Params) : Obj := ⟨.none, none, (.func ⟨(ns "fewest_walk"), (ns "fewest_walk"), defArgs (top 41), .stmts (defBody (top 41)), defScope (top 41), 0, [], .none, .none, .none, .none, none, .none, .none, 0⟩), ⟨[]⟩⟩
def o300_3 (P : Params) : Obj := ⟨(.type "code"), none, (.fields ⟨[(sv "fewest_walk" 670), (sv "fewest_walk" 671), (sv "/claim/cut.py" 672), (.int (129) 0), (.int (2) 0), (.int (0) 0), (.int (0) 0), (.int (3) 0), (.ref 297), (.bool true), (.int (316) 0), (.ref 298), .none, .none, .none, (.ref 299), (.int (673) 0), (.int (129) 0), (sv "/claim/cut.py" 674)]⟩), ⟨[]⟩⟩
def o301_3 (P : Params) : Obj := ⟨(.type "function"), none, (.func ⟨(ns "fewest_walk"), (ns "fewest_walk"), defArgs (top 41), .stmts (defBody (top 41)), defScope (top 41), 3, [], .none, .none, .none, (sv "watchedways.walks" 636), none, (.ref 300), .none, 0⟩), ⟨[]⟩⟩
def o302_3 (P : Params) : Obj := ⟨(.type "tuple"), none, (.seq ⟨[]⟩ 0), ⟨[]⟩⟩
def o303_3 (P : Params) : Obj := ⟨.none, none, (.fields ⟨[]⟩), ⟨[]⟩⟩
def o304_3 (P : Params) : Obj := ⟨(.type "tuple"), none, (.seq ⟨[(sv "book" 679), (sv "word" 680), (sv "links" 681), (sv "costs" 682), (sv "here" 683), (sv "way" 684), (sv "walk" 685)]⟩ 0), ⟨[]⟩⟩
def o305_3 (P : Params) : Obj := ⟨(.type "tuple"), none, (.seq ⟨[]⟩ 0), ⟨[]⟩⟩
def o306_3 (P : Params) : Obj := ⟨.none, none, (.func ⟨(ns "calmest_walk"), (ns "calmest_walk"), defArgs (top 42), .stmts (defBody (top 42)), defScope (top 42), 0, [], .none, .none, .none, .none, none, .none, .none, 0⟩), ⟨[]⟩⟩
def o307_3 (P : Params) : Obj := ⟨(.type "code"), none, (.fields ⟨[(sv "calmest_walk" 676), (sv "calmest_walk" 677), (sv "/claim/cut.py" 678), (.int (140) 0), (.int (2) 0), (.int (0) 0), (.int (0) 0), (.int (3) 0), (.ref 302), (.bool true), (.int (316) 0), (.ref 303), .none, (.ref 304), (.ref 305), (.ref 306), (.int (686) 0), (.int (140) 0), (sv "/claim/cut.py" 687)]⟩), ⟨[]⟩⟩
def o308_3 (P : Params) : Obj := ⟨(.type "function"), none, (.func ⟨(ns "calmest_walk"), (ns "calmest_walk"), defArgs (top 42), .stmts (defBody (top 42)), defScope (top 42), 3, [], .none, .none, .none, (sv "watchedways.walks" 636), none, (.ref 307), .none, 0⟩), ⟨[]⟩⟩
def o309_3 (P : Params) : Obj := ⟨(.type "tuple"), none, (.seq ⟨[]⟩ 0), ⟨[]⟩⟩
def o310_3 (P : Params) : Obj := ⟨.none, none, (.fields ⟨[]⟩), ⟨[]⟩⟩
def o311_3 (P : Params) : Obj := ⟨(.type "tuple"), none, (.seq ⟨[(sv "links" 692), (sv "goal" 693), (sv "costs" 694), (sv "queue" 695), (sv "turns" 696), (sv "steps" 697), (sv "spot" 698), (sv "way" 699), (sv "earlier" 700)]⟩ 0), ⟨[]⟩⟩
def o312_3 (P : Params) : Obj := ⟨(.type "tuple"), none, (.seq ⟨[]⟩ 0), ⟨[]⟩⟩
def o313_3 (P : Params) : Obj := ⟨.none, none, (.func ⟨(ns "costs_to"), (ns "costs_to"), defArgs (top 43), .stmts (defBody (top 43)), defScope (top 43), 0, [], .none, .none, .none, .none, none, .none, .none, 0⟩), ⟨[]⟩⟩
def o314_3 (P : Params) : Obj := ⟨(.type "code"), none, (.fields ⟨[(sv "costs_to" 689), (sv "costs_to" 690), (sv "/claim/cut.py" 691), (.int (151) 0), (.int (2) 0), (.int (0) 0), (.int (0) 0), (.int (3) 0), (.ref 309), (.bool true), (.int (316) 0), (.ref 310), .none, (.ref 311), (.ref 312), (.ref 313), (.int (701) 0), (.int (151) 0), (sv "/claim/cut.py" 702)]⟩), ⟨[]⟩⟩
def o315_3 (P : Params) : Obj := ⟨(.type "function"), none, (.func ⟨(ns "costs_to"), (ns "costs_to"), defArgs (top 43), .stmts (defBody (top 43)), defScope (top 43), 3, [], .none, .none, .none, (sv "watchedways.walks" 636), none, (.ref 314), .none, 0⟩), ⟨[]⟩⟩
def o316_3 (P : Params) : Obj := ⟨(.type "tuple"), none, (.seq ⟨[]⟩ 0), ⟨[]⟩⟩
def o317_3 (P : Params) : Obj := ⟨.none, none, (.fields ⟨[]⟩), ⟨[]⟩⟩
def o318_3 (P : Params) : Obj := ⟨(.type "tuple"), none, (.seq ⟨[(sv "links" 707), (sv "costs" 708), (sv "here" 709), (sv "way" 710), (sv "good" 711), (sv "spot" 712), (sv "onward" 713), (sv "turns" 714), (sv "steps" 715), (sv "turned" 716)]⟩ 0), ⟨[]⟩⟩
def o319_3 (P : Params) : Obj := ⟨(.type "tuple"), none, (.seq ⟨[]⟩ 0), ⟨[]⟩⟩
def o320_3 (P : Params) : Obj := ⟨.none, none, (.func ⟨(ns "calmest_step"), (ns "calmest_step"), defArgs (top 44), .stmts (defBody (top 44)), defScope (top 44), 0, [], .none, .none, .none, .none, none, .none, .none, 0⟩), ⟨[]⟩⟩
def o321_3 (P : Params) : Obj := ⟨(.type "code"), none, (.fields ⟨[(sv "calmest_step" 704), (sv "calmest_step" 705), (sv "/claim/cut.py" 706), (.int (164) 0), (.int (4) 0), (.int (0) 0), (.int (0) 0), (.int (3) 0), (.ref 316), (.bool true), (.int (316) 0), (.ref 317), .none, (.ref 318), (.ref 319), (.ref 320), (.int (717) 0), (.int (164) 0), (sv "/claim/cut.py" 718)]⟩), ⟨[]⟩⟩
def o322_3 (P : Params) : Obj := ⟨(.type "function"), none, (.func ⟨(ns "calmest_step"), (ns "calmest_step"), defArgs (top 44), .stmts (defBody (top 44)), defScope (top 44), 3, [], .none, .none, .none, (sv "watchedways.walks" 636), none, (.ref 321), .none, 0⟩), ⟨[]⟩⟩
def o323_3 (P : Params) : Obj := ⟨(.type "tuple"), none, (.seq ⟨[]⟩ 0), ⟨[]⟩⟩
def o324_3 (P : Params) : Obj := ⟨.none, none, (.fields ⟨[]⟩), ⟨[]⟩⟩
def o325_3 (P : Params) : Obj := ⟨(.type "tuple"), none, (.seq ⟨[(sv "here" 723), (sv "there" 724)]⟩ 0), ⟨[]⟩⟩
def o326_3 (P : Params) : Obj := ⟨(.type "tuple"), none, (.seq ⟨[]⟩ 0), ⟨[]⟩⟩
def o327_3 (P : Params) : Obj := ⟨.none, none, (.func ⟨(ns "way_between"), (ns "way_between"), defArgs (top 45), .stmts (defBody (top 45)), defScope (top 45), 0, [], .none, .none, .none, .none, none, .none, .none, 0⟩), ⟨[]⟩⟩
def o328_3 (P : Params) : Obj := ⟨(.type "code"), none, (.fields ⟨[(sv "way_between" 720), (sv "way_between" 721), (sv "/claim/cut.py" 722), (.int (174) 0), (.int (2) 0), (.int (0) 0), (.int (0) 0), (.int (3) 0), (.ref 323), (.bool true), (.int (316) 0), (.ref 324), .none, (.ref 325), (.ref 326), (.ref 327), (.int (725) 0), (.int (174) 0), (sv "/claim/cut.py" 726)]⟩), ⟨[]⟩⟩
def o329_3 (P : Params) : Obj := ⟨(.type "function"), none, (.func ⟨(ns "way_between"), (ns "way_between"), defArgs (top 45), .stmts (defBody (top 45)), defScope (top 45), 3, [], .none, .none, .none, (sv "watchedways.walks" 636), none, (.ref 328), .none, 0⟩), ⟨[]⟩⟩
def T3 (P : Params) : BT := (.node (o0_0 P) (.node (o1_0 P) (.node (o3_3 P) (.node (o7_0 P) (.node (o15_0 P) (.node (o31_0 P) (.node (o63_3 P) (.node (o127_3 P) (.node (o255_3 P) .nil .nil) .nil) (.node (o191_3 P) (.node (o319_3 P) .nil .nil) .nil)) (.node (o95_3 P) (.node (o159_3 P) (.node (o287_3 P) .nil .nil) .nil) (.node (o223_3 P) .nil .nil))) (.node (o47_3 P) (.node (o79_3 P) (.node (o143_3 P) (.node (o271_3 P) .nil .nil) .nil) (.node (o207_3 P) .nil .nil)) (.node (o111_3 P) (.node (o175_3 P) (.node (o303_3 P) .nil .nil) .nil) (.node (o239_3 P) .nil .nil)))) (.node (o23_0 P) (.node (o39_1 P) (.node (o71_3 P) (.node (o135_3 P) (.node (o263_3 P) .nil .nil) .nil) (.node (o199_3 P) (.node (o327_3 P) .nil .nil) .nil)) (.node (o103_3 P) (.node (o167_3 P) (.node (o295_3 P) .nil .nil) .nil) (.node (o231_3 P) .nil .nil))) (.node (o55_3 P) (.node (o87_3 P) (.node (o151_3 P) (.node (o279_3 P) .nil .nil) .nil) (.node (o215_3 P) .nil .nil)) (.node (o119_3 P) (.node (o183_3 P) (.node (o311_3 P) .nil .nil) .nil) (.node (o247_3 P) .nil .nil))))) (.node (o11_0 P) (.node (o19_0 P) (.node (o35_0 P) (.node (o67_3 P) (.node (o131_3 P) (.node (o259_3 P) .nil .nil) .nil) (.node (o195_3 P) (.node (o323_3 P) .nil .nil) .nil)) (.node (o99_3 P) (.node (o163_3 P) (.node (o291_3 P) .nil .nil) .nil) (.node (o227_3 P) .nil .nil))) (.node (o51_3 P) (.node (o83_3 P) (.node (o147_3 P) (.node (o275_3 P) .nil .nil) .nil) (.node (o211_3 P) .nil .nil)) (.node (o115_3 P) (.node (o179_3 P) (.node (o307_3 P) .nil .nil) .nil) (.node (o243_3 P) .nil .nil)))) (.node (o27_0 P) (.node (o43_3 P) (.node (o75_3 P) (.node (o139_3 P) (.node (o267_3 P) .nil .nil) .nil) (.node (o203_3 P) .nil .nil)) (.node (o107_3 P) (.node (o171_3 P) (.node (o299_3 P) .nil .nil) .nil) (.node (o235_3 P) .nil .nil))) (.node (o59_3 P) (.node (o91_3 P) (.node (o155_3 P) (.node (o283_3 P) .nil .nil) .nil) (.node (o219_3 P) .nil .nil)) (.node (o123_3 P) (.node (o187_3 P) (.node (o315_3 P) .nil .nil) .nil) (.node (o251_3 P) .nil .nil)))))) (.node (o5_0 P) (.node (o9_0 P) (.node (o17_0 P) (.node (o33_0 P) (.node (o65_3 P) (.node (o129_3 P) (.node (o257_3 P) .nil .nil) .nil) (.node (o193_3 P) (.node (o321_3 P) .nil .nil) .nil)) (.node (o97_3 P) (.node (o161_3 P) (.node (o289_3 P) .nil .nil) .nil) (.node (o225_3 P) .nil .nil))) (.node (o49_3 P) (.node (o81_3 P) (.node (o145_3 P) (.node (o273_3 P) .nil .nil) .nil) (.node (o209_3 P) .nil .nil)) (.node (o113_3 P) (.node (o177_3 P) (.node (o305_3 P) .nil .nil) .nil) (.node (o241_3 P) .nil .nil)))) (.node (o25_0 P) (.node (o41_1 P) (.node (o73_3 P) (.node (o137_3 P) (.node (o265_3 P) .nil .nil) .nil) (.node (o201_3 P) (.node (o329_3 P) .nil .nil) .nil)) (.node (o105_3 P) (.node (o169_3 P) (.node (o297_3 P) .nil .nil) .nil) (.node (o233_3 P) .nil .nil))) (.node (o57_3 P) (.node (o89_3 P) (.node (o153_3 P) (.node (o281_3 P) .nil .nil) .nil) (.node (o217_3 P) .nil .nil)) (.node (o121_3 P) (.node (o185_3 P) (.node (o313_3 P) .nil .nil) .nil) (.node (o249_3 P) .nil .nil))))) (.node (o13_0 P) (.node (o21_0 P) (.node (o37_0 P) (.node (o69_3 P) (.node (o133_3 P) (.node (o261_3 P) .nil .nil) .nil) (.node (o197_3 P) (.node (o325_3 P) .nil .nil) .nil)) (.node (o101_3 P) (.node (o165_3 P) (.node (o293_3 P) .nil .nil) .nil) (.node (o229_3 P) .nil .nil))) (.node (o53_3 P) (.node (o85_3 P) (.node (o149_3 P) (.node (o277_3 P) .nil .nil) .nil) (.node (o213_3 P) .nil .nil)) (.node (o117_3 P) (.node (o181_3 P) (.node (o309_3 P) .nil .nil) .nil) (.node (o245_3 P) .nil .nil)))) (.node (o29_0 P) (.node (o45_3 P) (.node (o77_3 P) (.node (o141_3 P) (.node (o269_3 P) .nil .nil) .nil) (.node (o205_3 P) .nil .nil)) (.node (o109_3 P) (.node (o173_3 P) (.node (o301_3 P) .nil .nil) .nil) (.node (o237_3 P) .nil .nil))) (.node (o61_3 P) (.node (o93_3 P) (.node (o157_3 P) (.node (o285_3 P) .nil .nil) .nil) (.node (o221_3 P) .nil .nil)) (.node (o125_3 P) (.node (o189_3 P) (.node (o317_3 P) .nil .nil) .nil) (.node (o253_3 P) .nil .nil))))))) (.node (o2_0 P) (.node (o4_0 P) (.node (o8_0 P) (.node (o16_0 P) (.node (o32_0 P) (.node (o64_3 P) (.node (o128_3 P) (.node (o256_3 P) .nil .nil) .nil) (.node (o192_3 P) (.node (o320_3 P) .nil .nil) .nil)) (.node (o96_3 P) (.node (o160_3 P) (.node (o288_3 P) .nil .nil) .nil) (.node (o224_3 P) .nil .nil))) (.node (o48_3 P) (.node (o80_3 P) (.node (o144_3 P) (.node (o272_3 P) .nil .nil) .nil) (.node (o208_3 P) .nil .nil)) (.node (o112_3 P) (.node (o176_3 P) (.node (o304_3 P) .nil .nil) .nil) (.node (o240_3 P) .nil .nil)))) (.node (o24_0 P) (.node (o40_3 P) (.node (o72_3 P) (.node (o136_3 P) (.node (o264_3 P) .nil .nil) .nil) (.node (o200_3 P) (.node (o328_3 P) .nil .nil) .nil)) (.node (o104_3 P) (.node (o168_3 P) (.node (o296_3 P) .nil .nil) .nil) (.node (o232_3 P) .nil .nil))) (.node (o56_3 P) (.node (o88_3 P) (.node (o152_3 P) (.node (o280_3 P) .nil .nil) .nil) (.node (o216_3 P) .nil .nil)) (.node (o120_3 P) (.node (o184_3 P) (.node (o312_3 P) .nil .nil) .nil) (.node (o248_3 P) .nil .nil))))) (.node (o12_0 P) (.node (o20_0 P) (.node (o36_0 P) (.node (o68_3 P) (.node (o132_3 P) (.node (o260_3 P) .nil .nil) .nil) (.node (o196_3 P) (.node (o324_3 P) .nil .nil) .nil)) (.node (o100_3 P) (.node (o164_3 P) (.node (o292_3 P) .nil .nil) .nil) (.node (o228_3 P) .nil .nil))) (.node (o52_3 P) (.node (o84_3 P) (.node (o148_3 P) (.node (o276_3 P) .nil .nil) .nil) (.node (o212_3 P) .nil .nil)) (.node (o116_3 P) (.node (o180_3 P) (.node (o308_3 P) .nil .nil) .nil) (.node (o244_3 P) .nil .nil)))) (.node (o28_0 P) (.node (o44_3 P) (.node (o76_3 P) (.node (o140_3 P) (.node (o268_3 P) .nil .nil) .nil) (.node (o204_3 P) .nil .nil)) (.node (o108_3 P) (.node (o172_3 P) (.node (o300_3 P) .nil .nil) .nil) (.node (o236_3 P) .nil .nil))) (.node (o60_3 P) (.node (o92_3 P) (.node (o156_3 P) (.node (o284_3 P) .nil .nil) .nil) (.node (o220_3 P) .nil .nil)) (.node (o124_3 P) (.node (o188_3 P) (.node (o316_3 P) .nil .nil) .nil) (.node (o252_3 P) .nil .nil)))))) (.node (o6_0 P) (.node (o10_0 P) (.node (o18_0 P) (.node (o34_0 P) (.node (o66_3 P) (.node (o130_3 P) (.node (o258_3 P) .nil .nil) .nil) (.node (o194_3 P) (.node (o322_3 P) .nil .nil) .nil)) (.node (o98_3 P) (.node (o162_3 P) (.node (o290_3 P) .nil .nil) .nil) (.node (o226_3 P) .nil .nil))) (.node (o50_3 P) (.node (o82_3 P) (.node (o146_3 P) (.node (o274_3 P) .nil .nil) .nil) (.node (o210_3 P) .nil .nil)) (.node (o114_3 P) (.node (o178_3 P) (.node (o306_3 P) .nil .nil) .nil) (.node (o242_3 P) .nil .nil)))) (.node (o26_0 P) (.node (o42_1 P) (.node (o74_3 P) (.node (o138_3 P) (.node (o266_3 P) .nil .nil) .nil) (.node (o202_3 P) .nil .nil)) (.node (o106_3 P) (.node (o170_3 P) (.node (o298_3 P) .nil .nil) .nil) (.node (o234_3 P) .nil .nil))) (.node (o58_3 P) (.node (o90_3 P) (.node (o154_3 P) (.node (o282_3 P) .nil .nil) .nil) (.node (o218_3 P) .nil .nil)) (.node (o122_3 P) (.node (o186_3 P) (.node (o314_3 P) .nil .nil) .nil) (.node (o250_3 P) .nil .nil))))) (.node (o14_0 P) (.node (o22_0 P) (.node (o38_0 P) (.node (o70_3 P) (.node (o134_3 P) (.node (o262_3 P) .nil .nil) .nil) (.node (o198_3 P) (.node (o326_3 P) .nil .nil) .nil)) (.node (o102_3 P) (.node (o166_3 P) (.node (o294_3 P) .nil .nil) .nil) (.node (o230_3 P) .nil .nil))) (.node (o54_3 P) (.node (o86_3 P) (.node (o150_3 P) (.node (o278_3 P) .nil .nil) .nil) (.node (o214_3 P) .nil .nil)) (.node (o118_3 P) (.node (o182_3 P) (.node (o310_3 P) .nil .nil) .nil) (.node (o246_3 P) .nil .nil)))) (.node (o30_0 P) (.node (o46_3 P) (.node (o78_3 P) (.node (o142_3 P) (.node (o270_3 P) .nil .nil) .nil) (.node (o206_3 P) .nil .nil)) (.node (o110_3 P) (.node (o174_3 P) (.node (o302_3 P) .nil .nil) .nil) (.node (o238_3 P) .nil .nil))) (.node (o62_3 P) (.node (o94_3 P) (.node (o158_3 P) (.node (o286_3 P) .nil .nil) .nil) (.node (o222_3 P) .nil .nil)) (.node (o126_3 P) (.node (o190_3 P) (.node (o318_3 P) .nil .nil) .nil) (.node (o254_3 P) .nil .nil))))))))
def X3 (w : World) (os : OsState) : SharedT := ⟨T3 w.params, 330, lf, ⟨[]⟩, ⟨0, 0, 0, 0⟩, 728, os⟩
def o3_4 (P : Params) : Obj := ⟨(.type "dict"), none, (.dict ⟨[en P "__name__" 165 (sv "law_watchedways_k13_rules_of_zigzags" 803), en P "__doc__" 166 .none, en P "__package__" 167 .none, en P "__loader__" 168 (.builtin "__main__.__loader__#opaque"), en P "__spec__" 169 .none, en P "__annotations__" 170 (.ref 6), en P "__builtins__" 171 (.ref 4), en P "__file__" 173 (sv "/claim/cut.py" 172), en P "__cached__" 174 .none, en P "heappop" 312 (.builtin "_heapq.heappop"), en P "heappush" 315 (.builtin "_heapq.heappush"), en P "_wall" 328 (.ref 49), en P "WayError" 357 (.ref 66), en P "BadWord" 373 (.ref 79), en P "BadWatches" 389 (.ref 91), en P "BadBook" 405 (.ref 103), en P "BadRule" 421 (.ref 115), en P "BadZigzag" 437 (.ref 127), en P "is_integer" 446 (.ref 136), en P "is_row" 453 (.ref 143), en P "MOST_LETTERS" 457 (.int (40) 456), en P "MOST_WATCH_LETTERS" 459 (.int (12) 458), en P "is_word" 466 (.ref 150), en P "is_watch" 473 (.ref 157), en P "has_letters" 479 (.ref 162), en P "check_word" 486 (.ref 169), en P "MOST_WATCHES" 490 (.int (12) 489), en P "Book" 553 (.ref 214), en P "wrong_watch" 562 (.ref 225), en P "check_book" 569 (.ref 232), en P "check_asked" 577 (.ref 239), en P "ON" 581 (sv "on" 580), en P "BACK" 583 (sv "back" 582), en P "MOST_STEPS" 585 (.int (80) 584), en P "is_step" 592 (.ref 246), en P "is_any_rule" 598 (.ref 251), en P "check_rule" 605 (.ref 258), en P "spots_along" 620 (.ref 265), en P "steps_along" 626 (.ref 270), en P "step_between" 635 (.ref 277), en P "UP" 639 (.int (1) 638), en P "DOWN" 642 (.int (-1) 641), en P "links_of" 650 (.ref 284), en P "links_through" 656 (.ref 289), en P "steps_to" 669 (.ref 296), en P "fewest_walk" 675 (.ref 301), en P "calmest_walk" 688 (.ref 308), en P "costs_to" 703 (.ref 315), en P "calmest_step" 719 (.ref 322), en P "way_between" 727 (.ref 329), en P "zigzag" 737 (.ref 336), en P "calmest" 745 (.ref 343), en P "is_zigzag" 751 (.ref 348), en P "is_spot" 759 (.ref 355), en P "followed" 769 (.ref 362), en P "rule_of" 778 (.ref 369), en P "rule" 787 (.ref 376), en P "calm_rule" 796 (.ref 383), en P "is_rule" 802 (.ref 388), en P "_law_tape" 811 (.ref 395), en P "_law_pick" 822 (.ref 402), en P "_law_flag" 830 (.ref 409), en P "_law_letters" 836 (.ref 414), en P "_law_word" 842 (.ref 419), en P "_law_watch" 848 (.ref 424), en P "_law_watches" 864 (.ref 431), en P "_law_near" 875 (.ref 438), en P "_law_zigzags" 881 (.ref 443), en P "_law_steps" 891 (.ref 450), en P "_law_right" 901 (.ref 457), en P "law" 914 (.ref 464)]⟩ 71), ⟨[]⟩⟩
def o40_4 (P : Params) : Obj := ⟨.none, none, (.fields ⟨[(.int (2) 0), (.int (0) 0), (.ref 48), (.int (6) 0), (.int (0) 0), (.ref 55), (.int (10) 0), (.int (0) 0), (.ref 75), (.int (12) 0), (.int (0) 0), (.ref 87), (.int (14) 0), (.int (0) 0), (.ref 99), (.int (16) 0), (.int (0) 0), (.ref 111), (.int (18) 0), (.int (0) 0), (.ref 123), (.int (21) 0), (.int (0) 0), (.ref 135), (.int (23) 0), (.int (0) 0), (.ref 142), (.int (28) 0), (.int (0) 0), (.ref 149), (.int (30) 0), (.int (0) 0), (.ref 156), (.int (32) 0), (.int (0) 0), (.ref 161), (.int (36) 0), (.int (0) 0), (.ref 168), (.int (41) 0), (.int (0) 0), (.ref 175), (.int (62) 0), (.int (0) 0), (.ref 224), (.int (67) 0), (.int (0) 0), (.ref 231), (.int (70) 0), (.int (0) 0), (.ref 238), (.int (77) 0), (.int (0) 0), (.ref 245), (.int (79) 0), (.int (0) 0), (.ref 250), (.int (83) 0), (.int (0) 0), (.ref 257), (.int (86) 0), (.int (0) 0), (.ref 264), (.int (96) 0), (.int (0) 0), (.ref 269), (.int (98) 0), (.int (0) 0), (.ref 276), (.int (105) 0), (.int (0) 0), (.ref 283), (.int (107) 0), (.int (0) 0), (.ref 288), (.int (117) 0), (.int (0) 0), (.ref 295), (.int (129) 0), (.int (0) 0), (.ref 300), (.int (140) 0), (.int (0) 0), (.ref 307), (.int (151) 0), (.int (0) 0), (.ref 314), (.int (164) 0), (.int (0) 0), (.ref 321), (.int (174) 0), (.int (0) 0), (.ref 328), (.int (177) 0), (.int (0) 0), (.ref 335), (.int (180) 0), (.int (0) 0), (.ref 342), (.int (183) 0), (.int (0) 0), (.ref 347), (.int (191) 0), (.int (0) 0), (.ref 354), (.int (194) 0), (.int (0) 0), (.ref 361), (.int (198) 0), (.int (0) 0), (.ref 368), (.int (202) 0), (.int (0) 0), (.ref 375), (.int (206) 0), (.int (0) 0), (.ref 382), (.int (210) 0), (.int (0) 0), (.ref 387), (.int (216) 0), (.int (0) 0), (.ref 394), (.int (218) 0), (.int (0) 0), (.ref 401), (.int (235) 0), (.int (0) 0), (.ref 408), (.int (237) 0), (.int (0) 0), (.ref 413), (.int (241) 0), (.int (0) 0), (.ref 418), (.int (249) 0), (.int (0) 0), (.ref 423), (.int (255) 0), (.int (0) 0), (.ref 430), (.int (270) 0), (.int (0) 0), (.ref 437), (.int (276) 0), (.int (0) 0), (.ref 442), (.int (288) 0), (.int (0) 0), (.ref 449), (.int (296) 0), (.int (0) 0), (.ref 456), (.int (302) 0), (.int (0) 0), (.ref 463)]⟩), ⟨[]⟩⟩
def o330_4 (P : Params) : Obj := ⟨(.type "tuple"), none, (.seq ⟨[]⟩ 0), ⟨[]⟩⟩
def o331_4 (P : Params) : Obj := ⟨.none, none, (.fields ⟨[]⟩), ⟨[]⟩⟩
def o332_4 (P : Params) : Obj := ⟨(.type "tuple"), none, (.seq ⟨[(sv "book" 733), (sv "word" 734)]⟩ 0), ⟨[]⟩⟩
def o333_4 (P : Params) : Obj := ⟨(.type "tuple"), none, (.seq ⟨[]⟩ 0), ⟨[]⟩⟩
def o334_4 (P : Params) : Obj := ⟨.none, none, (.func ⟨(ns "zigzag"), (ns "zigzag"), defArgs (top 47), .stmts (defBody (top 47)), defScope (top 47), 0, [], .none, .none, .none, .none, none, .none, .none, 0⟩), ⟨[]⟩⟩
def o335_4 (P : Params) : Obj := ⟨(.type "code"), none, (.fields ⟨[(sv "zigzag" 730), (sv "zigzag" 731), (sv "/claim/cut.py" 732), (.int (177) 0), (.int (2) 0), (.int (0) 0), (.int (0) 0), (.int (3) 0), (.ref 330), (.bool true), (.int (316) 0), (.ref 331), .none, (.ref 332), (.ref 333), (.ref 334), (.int (735) 0), (.int (177) 0), (sv "/claim/cut.py" 736)]⟩), ⟨[]⟩⟩
def o336_4 (P : Params) : Obj := ⟨(.type "function"), none, (.func ⟨(ns "zigzag"), (ns "zigzag"), defArgs (top 47), .stmts (defBody (top 47)), defScope (top 47), 3, [], .none, .none, .none, (sv "watchedways.zigzags" 728), none, (.ref 335), .none, 0⟩), ⟨[]⟩⟩
def o337_4 (P : Params) : Obj := ⟨(.type "tuple"), none, (.seq ⟨[]⟩ 0), ⟨[]⟩⟩
def o338_4 (P : Params) : Obj := ⟨.none, none, (.fields ⟨[]⟩), ⟨[]⟩⟩
def o339_4 (P : Params) : Obj := ⟨(.type "tuple"), none, (.seq ⟨[(sv "book" 741), (sv "word" 742)]⟩ 0), ⟨[]⟩⟩
def o340_4 (P : Params) : Obj := ⟨(.type "tuple"), none, (.seq ⟨[]⟩ 0), ⟨[]⟩⟩
def o341_4 (P : Params) : Obj := ⟨.none, none, (.func ⟨(ns "calmest"), (ns "calmest"), defArgs (top 48), .stmts (defBody (top 48)), defScope (top 48), 0, [], .none, .none, .none, .none, none, .none, .none, 0⟩), ⟨[]⟩⟩
def o342_4 (P : Params) : Obj := ⟨(.type "code"), none, (.fields ⟨[(sv "calmest" 738), (sv "calmest" 739), (sv "/claim/cut.py" 740), (.int (180) 0), (.int (2) 0), (.int (0) 0), (.int (0) 0), (.int (3) 0), (.ref 337), (.bool true), (.int (316) 0), (.ref 338), .none, (.ref 339), (.ref 340), (.ref 341), (.int (743) 0), (.int (180) 0), (sv "/claim/cut.py" 744)]⟩), ⟨[]⟩⟩
def o343_4 (P : Params) : Obj := ⟨(.type "function"), none, (.func ⟨(ns "calmest"), (ns "calmest"), defArgs (top 48), .stmts (defBody (top 48)), defScope (top 48), 3, [], .none, .none, .none, (sv "watchedways.zigzags" 728), none, (.ref 342), .none, 0⟩), ⟨[]⟩⟩
def o344_4 (P : Params) : Obj := ⟨(.type "tuple"), none, (.seq ⟨[]⟩ 0), ⟨[]⟩⟩
def o345_4 (P : Params) : Obj := ⟨.none, none, (.fields ⟨[]⟩), ⟨[]⟩⟩
def o346_4 (P : Params) : Obj := ⟨.none, none, (.func ⟨(ns "is_zigzag"), (ns "is_zigzag"), defArgs (top 49), .stmts (defBody (top 49)), defScope (top 49), 0, [], .none, .none, .none, .none, none, .none, .none, 0⟩), ⟨[]⟩⟩
def o347_4 (P : Params) : Obj := ⟨(.type "code"), none, (.fields ⟨[(sv "is_zigzag" 746), (sv "is_zigzag" 747), (sv "/claim/cut.py" 748), (.int (183) 0), (.int (3) 0), (.int (0) 0), (.int (0) 0), (.int (3) 0), (.ref 344), (.bool true), (.int (316) 0), (.ref 345), .none, .none, .none, (.ref 346), (.int (749) 0), (.int (183) 0), (sv "/claim/cut.py" 750)]⟩), ⟨[]⟩⟩
def o348_4 (P : Params) : Obj := ⟨(.type "function"), none, (.func ⟨(ns "is_zigzag"), (ns "is_zigzag"), defArgs (top 49), .stmts (defBody (top 49)), defScope (top 49), 3, [], .none, .none, .none, (sv "watchedways.zigzags" 728), none, (.ref 347), .none, 0⟩), ⟨[]⟩⟩
def o349_4 (P : Params) : Obj := ⟨(.type "tuple"), none, (.seq ⟨[]⟩ 0), ⟨[]⟩⟩
def o350_4 (P : Params) : Obj := ⟨.none, none, (.fields ⟨[]⟩), ⟨[]⟩⟩
def o351_4 (P : Params) : Obj := ⟨(.type "tuple"), none, (.seq ⟨[(sv "word" 755), (sv "thing" 756)]⟩ 0), ⟨[]⟩⟩
def o352_4 (P : Params) : Obj := ⟨(.type "tuple"), none, (.seq ⟨[]⟩ 0), ⟨[]⟩⟩
def o353_4 (P : Params) : Obj := ⟨.none, none, (.func ⟨(ns "is_spot"), (ns "is_spot"), defArgs (top 50), .stmts (defBody (top 50)), defScope (top 50), 0, [], .none, .none, .none, .none, none, .none, .none, 0⟩), ⟨[]⟩⟩
def o354_4 (P : Params) : Obj := ⟨(.type "code"), none, (.fields ⟨[(sv "is_spot" 752), (sv "is_spot" 753), (sv "/claim/cut.py" 754), (.int (191) 0), (.int (2) 0), (.int (0) 0), (.int (0) 0), (.int (3) 0), (.ref 349), (.bool true), (.int (316) 0), (.ref 350), .none, (.ref 351), (.ref 352), (.ref 353), (.int (757) 0), (.int (191) 0), (sv "/claim/cut.py" 758)]⟩), ⟨[]⟩⟩
def o355_4 (P : Params) : Obj := ⟨(.type "function"), none, (.func ⟨(ns "is_spot"), (ns "is_spot"), defArgs (top 50), .stmts (defBody (top 50)), defScope (top 50), 3, [], .none, .none, .none, (sv "watchedways.zigzags" 728), none, (.ref 354), .none, 0⟩), ⟨[]⟩⟩
def o356_4 (P : Params) : Obj := ⟨(.type "tuple"), none, (.seq ⟨[]⟩ 0), ⟨[]⟩⟩
def o357_4 (P : Params) : Obj := ⟨.none, none, (.fields ⟨[]⟩), ⟨[]⟩⟩
def o358_4 (P : Params) : Obj := ⟨(.type "tuple"), none, (.seq ⟨[(sv "word" 765), (sv "rule" 766)]⟩ 0), ⟨[]⟩⟩
def o359_4 (P : Params) : Obj := ⟨(.type "tuple"), none, (.seq ⟨[]⟩ 0), ⟨[]⟩⟩
def o360_4 (P : Params) : Obj := ⟨.none, none, (.func ⟨(ns "followed"), (ns "followed"), defArgs (top 52), .stmts (defBody (top 52)), defScope (top 52), 0, [], .none, .none, .none, .none, none, .none, .none, 0⟩), ⟨[]⟩⟩
def o361_4 (P : Params) : Obj := ⟨(.type "code"), none, (.fields ⟨[(sv "followed" 762), (sv "followed" 763), (sv "/claim/cut.py" 764), (.int (194) 0), (.int (2) 0), (.int (0) 0), (.int (0) 0), (.int (3) 0), (.ref 356), (.bool true), (.int (316) 0), (.ref 357), .none, (.ref 358), (.ref 359), (.ref 360), (.int (767) 0), (.int (194) 0), (sv "/claim/cut.py" 768)]⟩), ⟨[]⟩⟩
def o362_4 (P : Params) : Obj := ⟨(.type "function"), none, (.func ⟨(ns "followed"), (ns "followed"), defArgs (top 52), .stmts (defBody (top 52)), defScope (top 52), 3, [], .none, .none, .none, (sv "watchedways.rules" 760), none, (.ref 361), .none, 0⟩), ⟨[]⟩⟩
def o363_4 (P : Params) : Obj := ⟨(.type "tuple"), none, (.seq ⟨[]⟩ 0), ⟨[]⟩⟩
def o364_4 (P : Params) : Obj := ⟨.none, none, (.fields ⟨[]⟩), ⟨[]⟩⟩
def o365_4 (P : Params) : Obj := ⟨(.type "tuple"), none, (.seq ⟨[(sv "book" 773), (sv "word" 774), (sv "zigzag" 775)]⟩ 0), ⟨[]⟩⟩
def o366_4 (P : Params) : Obj := ⟨(.type "tuple"), none, (.seq ⟨[]⟩ 0), ⟨[]⟩⟩
def o367_4 (P : Params) : Obj := ⟨.none, none, (.func ⟨(ns "rule_of"), (ns "rule_of"), defArgs (top 53), .stmts (defBody (top 53)), defScope (top 53), 0, [], .none, .none, .none, .none, none, .none, .none, 0⟩), ⟨[]⟩⟩
def o368_4 (P : Params) : Obj := ⟨(.type "code"), none, (.fields ⟨[(sv "rule_of" 770), (sv "rule_of" 771), (sv "/claim/cut.py" 772), (.int (198) 0), (.int (3) 0), (.int (0) 0), (.int (0) 0), (.int (3) 0), (.ref 363), (.bool true), (.int (316) 0), (.ref 364), .none, (.ref 365), (.ref 366), (.ref 367), (.int (776) 0), (.int (198) 0), (sv "/claim/cut.py" 777)]⟩), ⟨[]⟩⟩
def o369_4 (P : Params) : Obj := ⟨(.type "function"), none, (.func ⟨(ns "rule_of"), (ns "rule_of"), defArgs (top 53), .stmts (defBody (top 53)), defScope (top 53), 3, [], .none, .none, .none, (sv "watchedways.rules" 760), none, (.ref 368), .none, 0⟩), ⟨[]⟩⟩
def o370_4 (P : Params) : Obj := ⟨(.type "tuple"), none, (.seq ⟨[]⟩ 0), ⟨[]⟩⟩
def o371_4 (P : Params) : Obj := ⟨.none, none, (.fields ⟨[]⟩), ⟨[]⟩⟩
def o372_4 (P : Params) : Obj := ⟨(.type "tuple"), none, (.seq ⟨[(sv "book" 782), (sv "word" 783), (sv "walk" 784)]⟩ 0), ⟨[]⟩⟩
def o373_4 (P : Params) : Obj := ⟨(.type "tuple"), none, (.seq ⟨[]⟩ 0), ⟨[]⟩⟩
def o374_4 (P : Params) : Obj := ⟨.none, none, (.func ⟨(ns "rule"), (ns "rule"), defArgs (top 54), .stmts (defBody (top 54)), defScope (top 54), 0, [], .none, .none, .none, .none, none, .none, .none, 0⟩), ⟨[]⟩⟩
def o375_4 (P : Params) : Obj := ⟨(.type "code"), none, (.fields ⟨[(sv "rule" 779), (sv "rule" 780), (sv "/claim/cut.py" 781), (.int (202) 0), (.int (2) 0), (.int (0) 0), (.int (0) 0), (.int (3) 0), (.ref 370), (.bool true), (.int (316) 0), (.ref 371), .none, (.ref 372), (.ref 373), (.ref 374), (.int (785) 0), (.int (202) 0), (sv "/claim/cut.py" 786)]⟩), ⟨[]⟩⟩
def o376_4 (P : Params) : Obj := ⟨(.type "function"), none, (.func ⟨(ns "rule"), (ns "rule"), defArgs (top 54), .stmts (defBody (top 54)), defScope (top 54), 3, [], .none, .none, .none, (sv "watchedways.rules" 760), none, (.ref 375), .none, 0⟩), ⟨[]⟩⟩
def o377_4 (P : Params) : Obj := ⟨(.type "tuple"), none, (.seq ⟨[]⟩ 0), ⟨[]⟩⟩
def o378_4 (P : Params) : Obj := ⟨.none, none, (.fields ⟨[]⟩), ⟨[]⟩⟩
def o379_4 (P : Params) : Obj := ⟨(.type "tuple"), none, (.seq ⟨[(sv "book" 791), (sv "word" 792), (sv "walk" 793)]⟩ 0), ⟨[]⟩⟩
def o380_4 (P : Params) : Obj := ⟨(.type "tuple"), none, (.seq ⟨[]⟩ 0), ⟨[]⟩⟩
def o381_4 (P : Params) : Obj := ⟨.none, none, (.func ⟨(ns "calm_rule"), (ns "calm_rule"), defArgs (top 55), .stmts (defBody (top 55)), defScope (top 55), 0, [], .none, .none, .none, .none, none, .none, .none, 0⟩), ⟨[]⟩⟩
def o382_4 (P : Params) : Obj := ⟨(.type "code"), none, (.fields ⟨[(sv "calm_rule" 788), (sv "calm_rule" 789), (sv "/claim/cut.py" 790), (.int (206) 0), (.int (2) 0), (.int (0) 0), (.int (0) 0), (.int (3) 0), (.ref 377), (.bool true), (.int (316) 0), (.ref 378), .none, (.ref 379), (.ref 380), (.ref 381), (.int (794) 0), (.int (206) 0), (sv "/claim/cut.py" 795)]⟩), ⟨[]⟩⟩
def o383_4 (P : Params) : Obj := ⟨(.type "function"), none, (.func ⟨(ns "calm_rule"), (ns "calm_rule"), defArgs (top 55), .stmts (defBody (top 55)), defScope (top 55), 3, [], .none, .none, .none, (sv "watchedways.rules" 760), none, (.ref 382), .none, 0⟩), ⟨[]⟩⟩
def o384_4 (P : Params) : Obj := ⟨(.type "tuple"), none, (.seq ⟨[]⟩ 0), ⟨[]⟩⟩
def o385_4 (P : Params) : Obj := ⟨.none, none, (.fields ⟨[]⟩), ⟨[]⟩⟩
def o386_4 (P : Params) : Obj := ⟨.none, none, (.func ⟨(ns "is_rule"), (ns "is_rule"), defArgs (top 56), .stmts (defBody (top 56)), defScope (top 56), 0, [], .none, .none, .none, .none, none, .none, .none, 0⟩), ⟨[]⟩⟩
def o387_4 (P : Params) : Obj := ⟨(.type "code"), none, (.fields ⟨[(sv "is_rule" 797), (sv "is_rule" 798), (sv "/claim/cut.py" 799), (.int (210) 0), (.int (3) 0), (.int (0) 0), (.int (0) 0), (.int (3) 0), (.ref 384), (.bool true), (.int (316) 0), (.ref 385), .none, .none, .none, (.ref 386), (.int (800) 0), (.int (210) 0), (sv "/claim/cut.py" 801)]⟩), ⟨[]⟩⟩
def o388_4 (P : Params) : Obj := ⟨(.type "function"), none, (.func ⟨(ns "is_rule"), (ns "is_rule"), defArgs (top 56), .stmts (defBody (top 56)), defScope (top 56), 3, [], .none, .none, .none, (sv "watchedways.rules" 760), none, (.ref 387), .none, 0⟩), ⟨[]⟩⟩
def o389_4 (P : Params) : Obj := ⟨(.type "tuple"), none, (.seq ⟨[]⟩ 0), ⟨[]⟩⟩
def o390_4 (P : Params) : Obj := ⟨.none, none, (.fields ⟨[]⟩), ⟨[]⟩⟩
def o391_4 (P : Params) : Obj := ⟨(.type "tuple"), none, (.seq ⟨[(sv "script" 808)]⟩ 0), ⟨[]⟩⟩
def o392_4 (P : Params) : Obj := ⟨(.type "tuple"), none, (.seq ⟨[]⟩ 0), ⟨[]⟩⟩
def o393_4 (P : Params) : Obj := ⟨.none, none, (.func ⟨(ns "_law_tape"), (ns "_law_tape"), defArgs (top 58), .stmts (defBody (top 58)), defScope (top 58), 0, [], .none, .none, .none, .none, none, .none, .none, 0⟩), ⟨[]⟩⟩
def o394_4 (P : Params) : Obj := ⟨(.type "code"), none, (.fields ⟨[(sv "_law_tape" 805), (sv "_law_tape" 806), (sv "/claim/cut.py" 807), (.int (216) 0), (.int (1) 0), (.int (0) 0), (.int (0) 0), (.int (3) 0), (.ref 389), (.bool true), (.int (316) 0), (.ref 390), .none, (.ref 391), (.ref 392), (.ref 393), (.int (809) 0), (.int (216) 0), (sv "/claim/cut.py" 810)]⟩), ⟨[]⟩⟩
def o395_4 (P : Params) : Obj := ⟨(.type "function"), none, (.func ⟨(ns "_law_tape"), (ns "_law_tape"), defArgs (top 58), .stmts (defBody (top 58)), defScope (top 58), 3, [], .none, .none, .none, (sv "law_watchedways_k13_rules_of_zigzags" 803), none, (.ref 394), .none, 0⟩), ⟨[]⟩⟩
def o396_4 (P : Params) : Obj := ⟨(.type "tuple"), none, (.seq ⟨[]⟩ 0), ⟨[]⟩⟩
def o397_4 (P : Params) : Obj := ⟨.none, none, (.fields ⟨[]⟩), ⟨[]⟩⟩
def o398_4 (P : Params) : Obj := ⟨(.type "tuple"), none, (.seq ⟨[(sv "tape" 815), (sv "size" 816), (sv "digit" 817), (sv "cell" 818), (sv "mixed" 819)]⟩ 0), ⟨[]⟩⟩
def o399_4 (P : Params) : Obj := ⟨(.type "tuple"), none, (.seq ⟨[]⟩ 0), ⟨[]⟩⟩
def o400_4 (P : Params) : Obj := ⟨.none, none, (.func ⟨(ns "_law_pick"), (ns "_law_pick"), defArgs (top 59), .stmts (defBody (top 59)), defScope (top 59), 0, [], .none, .none, .none, .none, none, .none, .none, 0⟩), ⟨[]⟩⟩
def o401_4 (P : Params) : Obj := ⟨(.type "code"), none, (.fields ⟨[(sv "_law_pick" 812), (sv "_law_pick" 813), (sv "/claim/cut.py" 814), (.int (218) 0), (.int (2) 0), (.int (0) 0), (.int (0) 0), (.int (3) 0), (.ref 396), (.bool true), (.int (316) 0), (.ref 397), .none, (.ref 398), (.ref 399), (.ref 400), (.int (820) 0), (.int (218) 0), (sv "/claim/cut.py" 821)]⟩), ⟨[]⟩⟩
def o402_4 (P : Params) : Obj := ⟨(.type "function"), none, (.func ⟨(ns "_law_pick"), (ns "_law_pick"), defArgs (top 59), .stmts (defBody (top 59)), defScope (top 59), 3, [], .none, .none, .none, (sv "law_watchedways_k13_rules_of_zigzags" 803), none, (.ref 401), .none, 0⟩), ⟨[]⟩⟩
def o403_4 (P : Params) : Obj := ⟨(.type "tuple"), none, (.seq ⟨[]⟩ 0), ⟨[]⟩⟩
def o404_4 (P : Params) : Obj := ⟨.none, none, (.fields ⟨[]⟩), ⟨[]⟩⟩
def o405_4 (P : Params) : Obj := ⟨(.type "tuple"), none, (.seq ⟨[(sv "told" 826), (sv "due" 827)]⟩ 0), ⟨[]⟩⟩
def o406_4 (P : Params) : Obj := ⟨(.type "tuple"), none, (.seq ⟨[]⟩ 0), ⟨[]⟩⟩
def o407_4 (P : Params) : Obj := ⟨.none, none, (.func ⟨(ns "_law_flag"), (ns "_law_flag"), defArgs (top 60), .stmts (defBody (top 60)), defScope (top 60), 0, [], .none, .none, .none, .none, none, .none, .none, 0⟩), ⟨[]⟩⟩
def o408_4 (P : Params) : Obj := ⟨(.type "code"), none, (.fields ⟨[(sv "_law_flag" 823), (sv "_law_flag" 824), (sv "/claim/cut.py" 825), (.int (235) 0), (.int (2) 0), (.int (0) 0), (.int (0) 0), (.int (3) 0), (.ref 403), (.bool true), (.int (316) 0), (.ref 404), .none, (.ref 405), (.ref 406), (.ref 407), (.int (828) 0), (.int (235) 0), (sv "/claim/cut.py" 829)]⟩), ⟨[]⟩⟩
def o409_4 (P : Params) : Obj := ⟨(.type "function"), none, (.func ⟨(ns "_law_flag"), (ns "_law_flag"), defArgs (top 60), .stmts (defBody (top 60)), defScope (top 60), 3, [], .none, .none, .none, (sv "law_watchedways_k13_rules_of_zigzags" 803), none, (.ref 408), .none, 0⟩), ⟨[]⟩⟩
def o410_4 (P : Params) : Obj := ⟨(.type "tuple"), none, (.seq ⟨[]⟩ 0), ⟨[]⟩⟩
def o411_4 (P : Params) : Obj := ⟨.none, none, (.fields ⟨[]⟩), ⟨[]⟩⟩
def o412_4 (P : Params) : Obj := ⟨.none, none, (.func ⟨(ns "_law_letters"), (ns "_law_letters"), defArgs (top 61), .stmts (defBody (top 61)), defScope (top 61), 0, [], .none, .none, .none, .none, none, .none, .none, 0⟩), ⟨[]⟩⟩
def o413_4 (P : Params) : Obj := ⟨(.type "code"), none, (.fields ⟨[(sv "_law_letters" 831), (sv "_law_letters" 832), (sv "/claim/cut.py" 833), (.int (237) 0), (.int (2) 0), (.int (0) 0), (.int (0) 0), (.int (3) 0), (.ref 410), (.bool true), (.int (316) 0), (.ref 411), .none, .none, .none, (.ref 412), (.int (834) 0), (.int (237) 0), (sv "/claim/cut.py" 835)]⟩), ⟨[]⟩⟩
def o414_4 (P : Params) : Obj := ⟨(.type "function"), none, (.func ⟨(ns "_law_letters"), (ns "_law_letters"), defArgs (top 61), .stmts (defBody (top 61)), defScope (top 61), 3, [], .none, .none, .none, (sv "law_watchedways_k13_rules_of_zigzags" 803), none, (.ref 413), .none, 0⟩), ⟨[]⟩⟩
def o415_4 (P : Params) : Obj := ⟨(.type "tuple"), none, (.seq ⟨[]⟩ 0), ⟨[]⟩⟩
def o416_4 (P : Params) : Obj := ⟨.none, none, (.fields ⟨[]⟩), ⟨[]⟩⟩
def o417_4 (P : Params) : Obj := ⟨.none, none, (.func ⟨(ns "_law_word"), (ns "_law_word"), defArgs (top 62), .stmts (defBody (top 62)), defScope (top 62), 0, [], .none, .none, .none, .none, none, .none, .none, 0⟩), ⟨[]⟩⟩
def o418_4 (P : Params) : Obj := ⟨(.type "code"), none, (.fields ⟨[(sv "_law_word" 837), (sv "_law_word" 838), (sv "/claim/cut.py" 839), (.int (241) 0), (.int (2) 0), (.int (0) 0), (.int (0) 0), (.int (3) 0), (.ref 415), (.bool true), (.int (316) 0), (.ref 416), .none, .none, .none, (.ref 417), (.int (840) 0), (.int (241) 0), (sv "/claim/cut.py" 841)]⟩), ⟨[]⟩⟩
def o419_4 (P : Params) : Obj := ⟨(.type "function"), none, (.func ⟨(ns "_law_word"), (ns "_law_word"), defArgs (top 62), .stmts (defBody (top 62)), defScope (top 62), 3, [], .none, .none, .none, (sv "law_watchedways_k13_rules_of_zigzags" 803), none, (.ref 418), .none, 0⟩), ⟨[]⟩⟩
def o420_4 (P : Params) : Obj := ⟨(.type "tuple"), none, (.seq ⟨[]⟩ 0), ⟨[]⟩⟩
def o421_4 (P : Params) : Obj := ⟨.none, none, (.fields ⟨[]⟩), ⟨[]⟩⟩
def o422_4 (P : Params) : Obj := ⟨.none, none, (.func ⟨(ns "_law_watch"), (ns "_law_watch"), defArgs (top 63), .stmts (defBody (top 63)), defScope (top 63), 0, [], .none, .none, .none, .none, none, .none, .none, 0⟩), ⟨[]⟩⟩
def o423_4 (P : Params) : Obj := ⟨(.type "code"), none, (.fields ⟨[(sv "_law_watch" 843), (sv "_law_watch" 844), (sv "/claim/cut.py" 845), (.int (249) 0), (.int (3) 0), (.int (0) 0), (.int (0) 0), (.int (3) 0), (.ref 420), (.bool true), (.int (316) 0), (.ref 421), .none, .none, .none, (.ref 422), (.int (846) 0), (.int (249) 0), (sv "/claim/cut.py" 847)]⟩), ⟨[]⟩⟩
def o424_4 (P : Params) : Obj := ⟨(.type "function"), none, (.func ⟨(ns "_law_watch"), (ns "_law_watch"), defArgs (top 63), .stmts (defBody (top 63)), defScope (top 63), 3, [], .none, .none, .none, (sv "law_watchedways_k13_rules_of_zigzags" 803), none, (.ref 423), .none, 0⟩), ⟨[]⟩⟩
def o425_4 (P : Params) : Obj := ⟨(.type "tuple"), none, (.seq ⟨[]⟩ 0), ⟨[]⟩⟩
def o426_4 (P : Params) : Obj := ⟨.none, none, (.fields ⟨[]⟩), ⟨[]⟩⟩
def o427_4 (P : Params) : Obj := ⟨(.type "tuple"), none, (.seq ⟨[(sv "tape" 852), (sv "word" 853), (sv "many" 854), (sv "most" 855), (sv "found" 856), (sv "low" 857), (sv "high" 858), (sv "piece" 859), (sv "k" 860), (sv "watch" 861)]⟩ 0), ⟨[]⟩⟩
def o428_4 (P : Params) : Obj := ⟨(.type "tuple"), none, (.seq ⟨[]⟩ 0), ⟨[]⟩⟩
def o429_4 (P : Params) : Obj := ⟨.none, none, (.func ⟨(ns "_law_watches"), (ns "_law_watches"), defArgs (top 64), .stmts (defBody (top 64)), defScope (top 64), 0, [], .none, .none, .none, .none, none, .none, .none, 0⟩), ⟨[]⟩⟩
def o430_4 (P : Params) : Obj := ⟨(.type "code"), none, (.fields ⟨[(sv "_law_watches" 849), (sv "_law_watches" 850), (sv "/claim/cut.py" 851), (.int (255) 0), (.int (4) 0), (.int (0) 0), (.int (0) 0), (.int (3) 0), (.ref 425), (.bool true), (.int (316) 0), (.ref 426), .none, (.ref 427), (.ref 428), (.ref 429), (.int (862) 0), (.int (255) 0), (sv "/claim/cut.py" 863)]⟩), ⟨[]⟩⟩
def o431_4 (P : Params) : Obj := ⟨(.type "function"), none, (.func ⟨(ns "_law_watches"), (ns "_law_watches"), defArgs (top 64), .stmts (defBody (top 64)), defScope (top 64), 3, [], .none, .none, .none, (sv "law_watchedways_k13_rules_of_zigzags" 803), none, (.ref 430), .none, 0⟩), ⟨[]⟩⟩
def o432_4 (P : Params) : Obj := ⟨(.type "tuple"), none, (.seq ⟨[]⟩ 0), ⟨[]⟩⟩
def o433_4 (P : Params) : Obj := ⟨.none, none, (.fields ⟨[]⟩), ⟨[]⟩⟩
def o434_4 (P : Params) : Obj := ⟨(.type "tuple"), none, (.seq ⟨[(sv "watches" 868), (sv "word" 869), (sv "spot" 870), (sv "found" 871), (sv "other" 872)]⟩ 0), ⟨[]⟩⟩
def o435_4 (P : Params) : Obj := ⟨(.type "tuple"), none, (.seq ⟨[]⟩ 0), ⟨[]⟩⟩
def o436_4 (P : Params) : Obj := ⟨.none, none, (.func ⟨(ns "_law_near"), (ns "_law_near"), defArgs (top 65), .stmts (defBody (top 65)), defScope (top 65), 0, [], .none, .none, .none, .none, none, .none, .none, 0⟩), ⟨[]⟩⟩
def o437_4 (P : Params) : Obj := ⟨(.type "code"), none, (.fields ⟨[(sv "_law_near" 865), (sv "_law_near" 866), (sv "/claim/cut.py" 867), (.int (270) 0), (.int (3) 0), (.int (0) 0), (.int (0) 0), (.int (3) 0), (.ref 432), (.bool true), (.int (316) 0), (.ref 433), .none, (.ref 434), (.ref 435), (.ref 436), (.int (873) 0), (.int (270) 0), (sv "/claim/cut.py" 874)]⟩), ⟨[]⟩⟩
def o438_4 (P : Params) : Obj := ⟨(.type "function"), none, (.func ⟨(ns "_law_near"), (ns "_law_near"), defArgs (top 65), .stmts (defBody (top 65)), defScope (top 65), 3, [], .none, .none, .none, (sv "law_watchedways_k13_rules_of_zigzags" 803), none, (.ref 437), .none, 0⟩), ⟨[]⟩⟩
def o439_4 (P : Params) : Obj := ⟨(.type "tuple"), none, (.seq ⟨[]⟩ 0), ⟨[]⟩⟩
def o440_4 (P : Params) : Obj := ⟨.none, none, (.fields ⟨[]⟩), ⟨[]⟩⟩
def o441_4 (P : Params) : Obj := ⟨.none, none, (.func ⟨(ns "_law_zigzags"), (ns "_law_zigzags"), defArgs (top 66), .stmts (defBody (top 66)), defScope (top 66), 0, [], .none, .none, .none, .none, none, .none, .none, 0⟩), ⟨[]⟩⟩
def o442_4 (P : Params) : Obj := ⟨(.type "code"), none, (.fields ⟨[(sv "_law_zigzags" 876), (sv "_law_zigzags" 877), (sv "/claim/cut.py" 878), (.int (276) 0), (.int (2) 0), (.int (0) 0), (.int (0) 0), (.int (3) 0), (.ref 439), (.bool true), (.int (316) 0), (.ref 440), .none, .none, .none, (.ref 441), (.int (879) 0), (.int (276) 0), (sv "/claim/cut.py" 880)]⟩), ⟨[]⟩⟩
def o443_4 (P : Params) : Obj := ⟨(.type "function"), none, (.func ⟨(ns "_law_zigzags"), (ns "_law_zigzags"), defArgs (top 66), .stmts (defBody (top 66)), defScope (top 66), 3, [], .none, .none, .none, (sv "law_watchedways_k13_rules_of_zigzags" 803), none, (.ref 442), .none, 0⟩), ⟨[]⟩⟩
def o444_4 (P : Params) : Obj := ⟨(.type "tuple"), none, (.seq ⟨[]⟩ 0), ⟨[]⟩⟩
def o445_4 (P : Params) : Obj := ⟨.none, none, (.fields ⟨[]⟩), ⟨[]⟩⟩
def o446_4 (P : Params) : Obj := ⟨(.type "tuple"), none, (.seq ⟨[(sv "word" 885), (sv "spots" 886), (sv "steps" 887), (sv "k" 888)]⟩ 0), ⟨[]⟩⟩
def o447_4 (P : Params) : Obj := ⟨(.type "tuple"), none, (.seq ⟨[]⟩ 0), ⟨[]⟩⟩
def o448_4 (P : Params) : Obj := ⟨.none, none, (.func ⟨(ns "_law_steps"), (ns "_law_steps"), defArgs (top 67), .stmts (defBody (top 67)), defScope (top 67), 0, [], .none, .none, .none, .none, none, .none, .none, 0⟩), ⟨[]⟩⟩
def o449_4 (P : Params) : Obj := ⟨(.type "code"), none, (.fields ⟨[(sv "_law_steps" 882), (sv "_law_steps" 883), (sv "/claim/cut.py" 884), (.int (288) 0), (.int (2) 0), (.int (0) 0), (.int (0) 0), (.int (3) 0), (.ref 444), (.bool true), (.int (316) 0), (.ref 445), .none, (.ref 446), (.ref 447), (.ref 448), (.int (889) 0), (.int (288) 0), (sv "/claim/cut.py" 890)]⟩), ⟨[]⟩⟩
def o450_4 (P : Params) : Obj := ⟨(.type "function"), none, (.func ⟨(ns "_law_steps"), (ns "_law_steps"), defArgs (top 67), .stmts (defBody (top 67)), defScope (top 67), 3, [], .none, .none, .none, (sv "law_watchedways_k13_rules_of_zigzags" 803), none, (.ref 449), .none, 0⟩), ⟨[]⟩⟩
def o451_4 (P : Params) : Obj := ⟨(.type "tuple"), none, (.seq ⟨[]⟩ 0), ⟨[]⟩⟩
def o452_4 (P : Params) : Obj := ⟨.none, none, (.fields ⟨[]⟩), ⟨[]⟩⟩
def o453_4 (P : Params) : Obj := ⟨(.type "tuple"), none, (.seq ⟨[(sv "book" 895), (sv "word" 896), (sv "way" 897), (sv "told" 898)]⟩ 0), ⟨[]⟩⟩
def o454_4 (P : Params) : Obj := ⟨(.type "tuple"), none, (.seq ⟨[]⟩ 0), ⟨[]⟩⟩
def o455_4 (P : Params) : Obj := ⟨.none, none, (.func ⟨(ns "_law_right"), (ns "_law_right"), defArgs (top 68), .stmts (defBody (top 68)), defScope (top 68), 0, [], .none, .none, .none, .none, none, .none, .none, 0⟩), ⟨[]⟩⟩
def o456_4 (P : Params) : Obj := ⟨(.type "code"), none, (.fields ⟨[(sv "_law_right" 892), (sv "_law_right" 893), (sv "/claim/cut.py" 894), (.int (296) 0), (.int (4) 0), (.int (0) 0), (.int (0) 0), (.int (3) 0), (.ref 451), (.bool true), (.int (316) 0), (.ref 452), .none, (.ref 453), (.ref 454), (.ref 455), (.int (899) 0), (.int (296) 0), (sv "/claim/cut.py" 900)]⟩), ⟨[]⟩⟩
def o457_4 (P : Params) : Obj := ⟨(.type "function"), none, (.func ⟨(ns "_law_right"), (ns "_law_right"), defArgs (top 68), .stmts (defBody (top 68)), defScope (top 68), 3, [], .none, .none, .none, (sv "law_watchedways_k13_rules_of_zigzags" 803), none, (.ref 456), .none, 0⟩), ⟨[]⟩⟩
def o458_4 (P : Params) : Obj := ⟨(.type "tuple"), none, (.seq ⟨[]⟩ 0), ⟨[]⟩⟩
def o459_4 (P : Params) : Obj := ⟨.none, none, (.fields ⟨[]⟩), ⟨[]⟩⟩
def o460_4 (P : Params) : Obj := ⟨(.type "tuple"), none, (.seq ⟨[(sv "script" 905), (sv "tape" 906), (sv "word" 907), (sv "book" 908), (sv "watches" 909), (sv "ways" 910), (sv "way" 911)]⟩ 0), ⟨[]⟩⟩
def o461_4 (P : Params) : Obj := ⟨(.type "tuple"), none, (.seq ⟨[]⟩ 0), ⟨[]⟩⟩
def o462_4 (P : Params) : Obj := ⟨.none, none, (.func ⟨(ns "law"), (ns "law"), defArgs (top 69), .stmts (defBody (top 69)), defScope (top 69), 0, [], .none, .none, .none, .none, none, .none, .none, 0⟩), ⟨[]⟩⟩
def o463_4 (P : Params) : Obj := ⟨(.type "code"), none, (.fields ⟨[(sv "law" 902), (sv "law" 903), (sv "/claim/cut.py" 904), (.int (302) 0), (.int (1) 0), (.int (0) 0), (.int (0) 0), (.int (3) 0), (.ref 458), (.bool true), (.int (316) 0), (.ref 459), .none, (.ref 460), (.ref 461), (.ref 462), (.int (912) 0), (.int (302) 0), (sv "/claim/cut.py" 913)]⟩), ⟨[]⟩⟩
def o464_4 (P : Params) : Obj := ⟨(.type "function"), none, (.func ⟨(ns "law"), (ns "law"), defArgs (top 69), .stmts (defBody (top 69)), defScope (top 69), 3, [], .none, .none, .none, (sv "law_watchedways_k13_rules_of_zigzags" 803), none, (.ref 463), .none, 0⟩), ⟨[]⟩⟩
def T4 (P : Params) : BT := (.node (o0_0 P) (.node (o1_0 P) (.node (o3_4 P) (.node (o7_0 P) (.node (o15_0 P) (.node (o31_0 P) (.node (o63_3 P) (.node (o127_3 P) (.node (o255_3 P) .nil .nil) (.node (o383_4 P) .nil .nil)) (.node (o191_3 P) (.node (o319_3 P) .nil .nil) (.node (o447_4 P) .nil .nil))) (.node (o95_3 P) (.node (o159_3 P) (.node (o287_3 P) .nil .nil) (.node (o415_4 P) .nil .nil)) (.node (o223_3 P) (.node (o351_4 P) .nil .nil) .nil))) (.node (o47_3 P) (.node (o79_3 P) (.node (o143_3 P) (.node (o271_3 P) .nil .nil) (.node (o399_4 P) .nil .nil)) (.node (o207_3 P) (.node (o335_4 P) .nil .nil) (.node (o463_4 P) .nil .nil))) (.node (o111_3 P) (.node (o175_3 P) (.node (o303_3 P) .nil .nil) (.node (o431_4 P) .nil .nil)) (.node (o239_3 P) (.node (o367_4 P) .nil .nil) .nil)))) (.node (o23_0 P) (.node (o39_1 P) (.node (o71_3 P) (.node (o135_3 P) (.node (o263_3 P) .nil .nil) (.node (o391_4 P) .nil .nil)) (.node (o199_3 P) (.node (o327_3 P) .nil .nil) (.node (o455_4 P) .nil .nil))) (.node (o103_3 P) (.node (o167_3 P) (.node (o295_3 P) .nil .nil) (.node (o423_4 P) .nil .nil)) (.node (o231_3 P) (.node (o359_4 P) .nil .nil) .nil))) (.node (o55_3 P) (.node (o87_3 P) (.node (o151_3 P) (.node (o279_3 P) .nil .nil) (.node (o407_4 P) .nil .nil)) (.node (o215_3 P) (.node (o343_4 P) .nil .nil) .nil)) (.node (o119_3 P) (.node (o183_3 P) (.node (o311_3 P) .nil .nil) (.node (o439_4 P) .nil .nil)) (.node (o247_3 P) (.node (o375_4 P) .nil .nil) .nil))))) (.node (o11_0 P) (.node (o19_0 P) (.node (o35_0 P) (.node (o67_3 P) (.node (o131_3 P) (.node (o259_3 P) .nil .nil) (.node (o387_4 P) .nil .nil)) (.node (o195_3 P) (.node (o323_3 P) .nil .nil) (.node (o451_4 P) .nil .nil))) (.node (o99_3 P) (.node (o163_3 P) (.node (o291_3 P) .nil .nil) (.node (o419_4 P) .nil .nil)) (.node (o227_3 P) (.node (o355_4 P) .nil .nil) .nil))) (.node (o51_3 P) (.node (o83_3 P) (.node (o147_3 P) (.node (o275_3 P) .nil .nil) (.node (o403_4 P) .nil .nil)) (.node (o211_3 P) (.node (o339_4 P) .nil .nil) .nil)) (.node (o115_3 P) (.node (o179_3 P) (.node (o307_3 P) .nil .nil) (.node (o435_4 P) .nil .nil)) (.node (o243_3 P) (.node (o371_4 P) .nil .nil) .nil)))) (.node (o27_0 P) (.node (o43_3 P) (.node (o75_3 P) (.node (o139_3 P) (.node (o267_3 P) .nil .nil) (.node (o395_4 P) .nil .nil)) (.node (o203_3 P) (.node (o331_4 P) .nil .nil) (.node (o459_4 P) .nil .nil))) (.node (o107_3 P) (.node (o171_3 P) (.node (o299_3 P) .nil .nil) (.node (o427_4 P) .nil .nil)) (.node (o235_3 P) (.node (o363_4 P) .nil .nil) .nil))) (.node (o59_3 P) (.node (o91_3 P) (.node (o155_3 P) (.node (o283_3 P) .nil .nil) (.node (o411_4 P) .nil .nil)) (.node (o219_3 P) (.node (o347_4 P) .nil .nil) .nil)) (.node (o123_3 P) (.node (o187_3 P) (.node (o315_3 P) .nil .nil) (.node (o443_4 P) .nil .nil)) (.node (o251_3 P) (.node (o379_4 P) .nil .nil) .nil)))))) (.node (o5_0 P) (.node (o9_0 P) (.node (o17_0 P) (.node (o33_0 P) (.node (o65_3 P) (.node (o129_3 P) (.node (o257_3 P) .nil .nil) (.node (o385_4 P) .nil .nil)) (.node (o193_3 P) (.node (o321_3 P) .nil .nil) (.node (o449_4 P) .nil .nil))) (.node (o97_3 P) (.node (o161_3 P) (.node (o289_3 P) .nil .nil) (.node (o417_4 P) .nil .nil)) (.node (o225_3 P) (.node (o353_4 P) .nil .nil) .nil))) (.node (o49_3 P) (.node (o81_3 P) (.node (o145_3 P) (.node (o273_3 P) .nil .nil) (.node (o401_4 P) .nil .nil)) (.node (o209_3 P) (.node (o337_4 P) .nil .nil) .nil)) (.node (o113_3 P) (.node (o177_3 P) (.node (o305_3 P) .nil .nil) (.node (o433_4 P) .nil .nil)) (.node (o241_3 P) (.node (o369_4 P) .nil .nil) .nil)))) (.node (o25_0 P) (.node (o41_1 P) (.node (o73_3 P) (.node (o137_3 P) (.node (o265_3 P) .nil .nil) (.node (o393_4 P) .nil .nil)) (.node (o201_3 P) (.node (o329_3 P) .nil .nil) (.node (o457_4 P) .nil .nil))) (.node (o105_3 P) (.node (o169_3 P) (.node (o297_3 P) .nil .nil) (.node (o425_4 P) .nil .nil)) (.node (o233_3 P) (.node (o361_4 P) .nil .nil) .nil))) (.node (o57_3 P) (.node (o89_3 P) (.node (o153_3 P) (.node (o281_3 P) .nil .nil) (.node (o409_4 P) .nil .nil)) (.node (o217_3 P) (.node (o345_4 P) .nil .nil) .nil)) (.node (o121_3 P) (.node (o185_3 P) (.node (o313_3 P) .nil .nil) (.node (o441_4 P) .nil .nil)) (.node (o249_3 P) (.node (o377_4 P) .nil .nil) .nil))))) (.node (o13_0 P) (.node (o21_0 P) (.node (o37_0 P) (.node (o69_3 P) (.node (o133_3 P) (.node (o261_3 P) .nil .nil) (.node (o389_4 P) .nil .nil)) (.node (o197_3 P) (.node (o325_3 P) .nil .nil) (.node (o453_4 P) .nil .nil))) (.node (o101_3 P) (.node (o165_3 P) (.node (o293_3 P) .nil .nil) (.node (o421_4 P) .nil .nil)) (.node (o229_3 P) (.node (o357_4 P) .nil .nil) .nil))) (.node (o53_3 P) (.node (o85_3 P) (.node (o149_3 P) (.node (o277_3 P) .nil .nil) (.node (o405_4 P) .nil .nil)) (.node (o213_3 P) (.node (o341_4 P) .nil .nil) .nil)) (.node (o117_3 P) (.node (o181_3 P) (.node (o309_3 P) .nil .nil) (.node (o437_4 P) .nil .nil)) (.node (o245_3 P) (.node (o373_4 P) .nil .nil) .nil)))) (.node (o29_0 P) (.node (o45_3 P) (.node (o77_3 P) (.node (o141_3 P) (.node (o269_3 P) .nil .nil) (.node (o397_4 P) .nil .nil)) (.node (o205_3 P) (.node (o333_4 P) .nil .nil) (.node (o461_4 P) .nil .nil))) (.node (o109_3 P) (.node (o173_3 P) (.node (o301_3 P) .nil .nil) (.node (o429_4 P) .nil .nil)) (.node (o237_3 P) (.node (o365_4 P) .nil .nil) .nil))) (.node (o61_3 P) (.node (o93_3 P) (.node (o157_3 P) (.node (o285_3 P) .nil .nil) (.node (o413_4 P) .nil .nil)) (.node (o221_3 P) (.node (o349_4 P) .nil .nil) .nil)) (.node (o125_3 P) (.node (o189_3 P) (.node (o317_3 P) .nil .nil) (.node (o445_4 P) .nil .nil)) (.node (o253_3 P) (.node (o381_4 P) .nil .nil) .nil))))))) (.node (o2_0 P) (.node (o4_0 P) (.node (o8_0 P) (.node (o16_0 P) (.node (o32_0 P) (.node (o64_3 P) (.node (o128_3 P) (.node (o256_3 P) .nil .nil) (.node (o384_4 P) .nil .nil)) (.node (o192_3 P) (.node (o320_3 P) .nil .nil) (.node (o448_4 P) .nil .nil))) (.node (o96_3 P) (.node (o160_3 P) (.node (o288_3 P) .nil .nil) (.node (o416_4 P) .nil .nil)) (.node (o224_3 P) (.node (o352_4 P) .nil .nil) .nil))) (.node (o48_3 P) (.node (o80_3 P) (.node (o144_3 P) (.node (o272_3 P) .nil .nil) (.node (o400_4 P) .nil .nil)) (.node (o208_3 P) (.node (o336_4 P) .nil .nil) (.node (o464_4 P) .nil .nil))) (.node (o112_3 P) (.node (o176_3 P) (.node (o304_3 P) .nil .nil) (.node (o432_4 P) .nil .nil)) (.node (o240_3 P) (.node (o368_4 P) .nil .nil) .nil)))) (.node (o24_0 P) (.node (o40_4 P) (.node (o72_3 P) (.node (o136_3 P) (.node (o264_3 P) .nil .nil) (.node (o392_4 P) .nil .nil)) (.node (o200_3 P) (.node (o328_3 P) .nil .nil) (.node (o456_4 P) .nil .nil))) (.node (o104_3 P) (.node (o168_3 P) (.node (o296_3 P) .nil .nil) (.node (o424_4 P) .nil .nil)) (.node (o232_3 P) (.node (o360_4 P) .nil .nil) .nil))) (.node (o56_3 P) (.node (o88_3 P) (.node (o152_3 P) (.node (o280_3 P) .nil .nil) (.node (o408_4 P) .nil .nil)) (.node (o216_3 P) (.node (o344_4 P) .nil .nil) .nil)) (.node (o120_3 P) (.node (o184_3 P) (.node (o312_3 P) .nil .nil) (.node (o440_4 P) .nil .nil)) (.node (o248_3 P) (.node (o376_4 P) .nil .nil) .nil))))) (.node (o12_0 P) (.node (o20_0 P) (.node (o36_0 P) (.node (o68_3 P) (.node (o132_3 P) (.node (o260_3 P) .nil .nil) (.node (o388_4 P) .nil .nil)) (.node (o196_3 P) (.node (o324_3 P) .nil .nil) (.node (o452_4 P) .nil .nil))) (.node (o100_3 P) (.node (o164_3 P) (.node (o292_3 P) .nil .nil) (.node (o420_4 P) .nil .nil)) (.node (o228_3 P) (.node (o356_4 P) .nil .nil) .nil))) (.node (o52_3 P) (.node (o84_3 P) (.node (o148_3 P) (.node (o276_3 P) .nil .nil) (.node (o404_4 P) .nil .nil)) (.node (o212_3 P) (.node (o340_4 P) .nil .nil) .nil)) (.node (o116_3 P) (.node (o180_3 P) (.node (o308_3 P) .nil .nil) (.node (o436_4 P) .nil .nil)) (.node (o244_3 P) (.node (o372_4 P) .nil .nil) .nil)))) (.node (o28_0 P) (.node (o44_3 P) (.node (o76_3 P) (.node (o140_3 P) (.node (o268_3 P) .nil .nil) (.node (o396_4 P) .nil .nil)) (.node (o204_3 P) (.node (o332_4 P) .nil .nil) (.node (o460_4 P) .nil .nil))) (.node (o108_3 P) (.node (o172_3 P) (.node (o300_3 P) .nil .nil) (.node (o428_4 P) .nil .nil)) (.node (o236_3 P) (.node (o364_4 P) .nil .nil) .nil))) (.node (o60_3 P) (.node (o92_3 P) (.node (o156_3 P) (.node (o284_3 P) .nil .nil) (.node (o412_4 P) .nil .nil)) (.node (o220_3 P) (.node (o348_4 P) .nil .nil) .nil)) (.node (o124_3 P) (.node (o188_3 P) (.node (o316_3 P) .nil .nil) (.node (o444_4 P) .nil .nil)) (.node (o252_3 P) (.node (o380_4 P) .nil .nil) .nil)))))) (.node (o6_0 P) (.node (o10_0 P) (.node (o18_0 P) (.node (o34_0 P) (.node (o66_3 P) (.node (o130_3 P) (.node (o258_3 P) .nil .nil) (.node (o386_4 P) .nil .nil)) (.node (o194_3 P) (.node (o322_3 P) .nil .nil) (.node (o450_4 P) .nil .nil))) (.node (o98_3 P) (.node (o162_3 P) (.node (o290_3 P) .nil .nil) (.node (o418_4 P) .nil .nil)) (.node (o226_3 P) (.node (o354_4 P) .nil .nil) .nil))) (.node (o50_3 P) (.node (o82_3 P) (.node (o146_3 P) (.node (o274_3 P) .nil .nil) (.node (o402_4 P) .nil .nil)) (.node (o210_3 P) (.node (o338_4 P) .nil .nil) .nil)) (.node (o114_3 P) (.node (o178_3 P) (.node (o306_3 P) .nil .nil) (.node (o434_4 P) .nil .nil)) (.node (o242_3 P) (.node (o370_4 P) .nil .nil) .nil)))) (.node (o26_0 P) (.node (o42_1 P) (.node (o74_3 P) (.node (o138_3 P) (.node (o266_3 P) .nil .nil) (.node (o394_4 P) .nil .nil)) (.node (o202_3 P) (.node (o330_4 P) .nil .nil) (.node (o458_4 P) .nil .nil))) (.node (o106_3 P) (.node (o170_3 P) (.node (o298_3 P) .nil .nil) (.node (o426_4 P) .nil .nil)) (.node (o234_3 P) (.node (o362_4 P) .nil .nil) .nil))) (.node (o58_3 P) (.node (o90_3 P) (.node (o154_3 P) (.node (o282_3 P) .nil .nil) (.node (o410_4 P) .nil .nil)) (.node (o218_3 P) (.node (o346_4 P) .nil .nil) .nil)) (.node (o122_3 P) (.node (o186_3 P) (.node (o314_3 P) .nil .nil) (.node (o442_4 P) .nil .nil)) (.node (o250_3 P) (.node (o378_4 P) .nil .nil) .nil))))) (.node (o14_0 P) (.node (o22_0 P) (.node (o38_0 P) (.node (o70_3 P) (.node (o134_3 P) (.node (o262_3 P) .nil .nil) (.node (o390_4 P) .nil .nil)) (.node (o198_3 P) (.node (o326_3 P) .nil .nil) (.node (o454_4 P) .nil .nil))) (.node (o102_3 P) (.node (o166_3 P) (.node (o294_3 P) .nil .nil) (.node (o422_4 P) .nil .nil)) (.node (o230_3 P) (.node (o358_4 P) .nil .nil) .nil))) (.node (o54_3 P) (.node (o86_3 P) (.node (o150_3 P) (.node (o278_3 P) .nil .nil) (.node (o406_4 P) .nil .nil)) (.node (o214_3 P) (.node (o342_4 P) .nil .nil) .nil)) (.node (o118_3 P) (.node (o182_3 P) (.node (o310_3 P) .nil .nil) (.node (o438_4 P) .nil .nil)) (.node (o246_3 P) (.node (o374_4 P) .nil .nil) .nil)))) (.node (o30_0 P) (.node (o46_3 P) (.node (o78_3 P) (.node (o142_3 P) (.node (o270_3 P) .nil .nil) (.node (o398_4 P) .nil .nil)) (.node (o206_3 P) (.node (o334_4 P) .nil .nil) (.node (o462_4 P) .nil .nil))) (.node (o110_3 P) (.node (o174_3 P) (.node (o302_3 P) .nil .nil) (.node (o430_4 P) .nil .nil)) (.node (o238_3 P) (.node (o366_4 P) .nil .nil) .nil))) (.node (o62_3 P) (.node (o94_3 P) (.node (o158_3 P) (.node (o286_3 P) .nil .nil) (.node (o414_4 P) .nil .nil)) (.node (o222_3 P) (.node (o350_4 P) .nil .nil) .nil)) (.node (o126_3 P) (.node (o190_3 P) (.node (o318_3 P) .nil .nil) (.node (o446_4 P) .nil .nil)) (.node (o254_3 P) (.node (o382_4 P) .nil .nil) .nil))))))))
def X4 (w : World) (os : OsState) : SharedT := ⟨T4 w.params, 465, lf, ⟨[]⟩, ⟨0, 0, 0, 0⟩, 915, os⟩

def env : Env := { scope := pp.main.scope, locals := mainNs, globals := mainNs, cells := [], code := (.ref 41), frame := some 42 }
def ann : Option Value := (some (.ref 6))
def cB : Code := .body (behindTheImports pp) env
def q0 : Pos := ⟨0, 0, 0, 0⟩
abbrev Rw : PySem.W.OpenRow := PySem.W.OpenLaw.row PySem.Challenge.rw_watchedways_k13_rules_of_zigzags
def sg0 : List Stmt := [top 1, top 2, top 3, top 4, top 5, top 6, top 7, top 8, top 9, top 10, top 11, top 12, top 13, top 14, top 15, top 16, top 17, top 18, top 19, top 20, top 21, top 22, top 23, top 24, top 25, top 26, top 27, top 28, top 29, top 30, top 31, top 32, top 33, top 34, top 35, top 36, top 37, top 38, top 39, top 40, top 41, top 42, top 43, top 44, top 45]
def sg1 : List Stmt := [top 46, top 47, top 48, top 49, top 50, top 51, top 52, top 53, top 54, top 55, top 56, top 57, top 58, top 59, top 60, top 61, top 62, top 63, top 64, top 65, top 66, top 67, top 68, top 69]
set_option maxHeartbeats 0
theorem hb : behindTheImports pp = sg0 ++ (sg1 ++ ([])) := by kernel_rfl
theorem pre (w : World) (os : OsState) : goT (stQ pp w) (okQ 39 ann) 12 (X0 w os) (topStub pp) = some (X1 w os, ⟨denQ tabQ cB, cB, ⟨0, 0, 0, 0⟩, [topFrame q0]⟩) := by kernel_rfl
theorem blk (w : World) (os : OsState) : goE (stQ pp w) (okQ 39 ann) 1 (X1 w os) ⟨(blockQ (behindTheImports pp) env).wrap (fun _ => doneF .next) deadEnd id id, cB, ⟨0, 0, 0, 0⟩, [topFrame q0]⟩ = some (.next, X2 w os, cB, ⟨0, 0, 0, 0⟩) := by kernel_rfl
theorem seg0 (w : World) (os : OsState) : goE (stQ pp w) (okQ 39 ann) 2497 (X2 w os) ⟨(execsQ sg0 env).wrap doneF deadEnd id id, cB, ⟨0, 0, 0, 0⟩, [topFrame q0]⟩ = some (.next, X3 w os, cB, ⟨174, 0, 175, 39⟩) := by kernel_rfl
theorem seg1 (w : World) (os : OsState) : goE (stQ pp w) (okQ 39 ann) 659 (X3 w os) ⟨(execsQ sg1 env).wrap doneF deadEnd id id, cB, ⟨174, 0, 175, 39⟩, [topFrame q0]⟩ = some (.next, X4 w os, cB, ⟨302, 0, 317, 71⟩) := by kernel_rfl
theorem fin (w : World) (os : OsState) : goF (stQ pp w) 39 ann 2 (X4 w os) ⟨doneF .next, cB, ⟨302, 0, 317, 71⟩, [topFrame q0]⟩ = some (X4 w os) := by kernel_rfl
def os0 : OsState := (start (opening pp)).1.os
def MT : Nat := 12 + (1 + (2497 + (659 + (2))))
theorem run (w : World) : topRun treeTable pp w 39 ann MT (X0 w os0).abs (topStub pp) = some (X4 w os0).abs := by
  have all : ∀ os : OsState, topRun treeTable pp w 39 ann MT (X0 w os).abs (topStub pp) = some (X4 w os).abs := fun os => by
    have k := piece_app (goE_q (seg0 w os)) (piece_app (goE_q (seg1 w os)) (piece_nil (goF_q (fin w os))))
    rw [← hb] at k
    exact go_top (goT_q (pre w os)) (piece_block (goB_q (blk w os)) k)
  exact all os0
theorem boot (w : World) : (openF (fun q => stQ q w) fenceQ 30000 pp).bind treeOf = some (X0 w os0) := by kernel_rfl
theorem size (w : World) : ((X0 w os0).abs.heap.isNs mainGlobals && (X0 w os0).abs.gens.size == 0, (X0 w os0).abs.heap.objs.size, (X0 w os0).abs.heap.nsMap mainGlobals "__annotations__") = (true, 39, ann) := by kernel_rfl
theorem looks (w : World) : looksF pp (X0 w os0).abs.heap (X4 w os0).abs = true := by kernel_rfl
theorem seen_ (w : World) : seenQ (PySem.W.view pp [0, 69]) looseH (importedModules pp.main.body) (fun s => xlAt (PySem.W.view pp [0, 69]) [] s && recOk Rw.toRowW.records s) (X4 w os0).abs = openGood (PySem.W.view pp [0, 69]) looseH := by kernel_rfl
theorem obs_ (w : World) : ob (X4 w os0) = (He.valD fnH, true) := by kernel_rfl
end HX
end

/-! ### kinds stay -/
theorem tyX_same {K : PySem.W.Frag} {H H' : Hp} {x : V} {t : Value} (h : TyX K H x t) (s : Same H H') : TyX K H' x t := by
  cases h with
  | base b =>
    refine .base ?_
    cases b with
    | non => exact .non
    | bl x => exact .bl x
    | int i => exact .int i
    | str x => exact .str x
    | flt x => exact .flt x
    | lst e => exact .lst (s _ _ e)
    | frz e => exact .frz (s _ _ e)
    | tup e => exact .tup (s _ _ e)
    | dK e => exact .dK (s _ _ e)
    | dT e => exact .dT (s _ _ e)
    | ins e cl a n k m => exact .ins (s _ _ e) cl a n k m
  | byt b => exact .byt b
  | set e => exact .set (s _ _ e)
  | kList e c => exact .kList e c
  | kTuple e c => exact .kTuple e c
  | kDict e c => exact .kDict e c
  | fTuple e => exact .fTuple (s _ _ e)
  | fDict e => exact .fDict (s _ _ e)

/-! ### the tape of a script (55 laws) -/
def TapeAt (H : Hp) (h c : Addr) : Prop := ∃ (cs : List Int) (p q m n : Int), H h = some (.lst [.ref c, .int p, .int q, .int m, .int n]) ∧ H c = some (.lst (cs.map V.int)) ∧ c ≠ h ∧ 0 ≤ p
/-- all but what stands at h is as it was -/
def But (h : Addr) (H H' : Hp) : Prop := ∀ b, b ≠ h → H' b = H b
def spPick : Sp := fun vs H Q _ => ∃ (h c : Addr) (size : Int), vs = [.ref h, .int size] ∧ TapeAt H h c ∧ 0 < size ∧ size.natAbs.log2 < 9000 ∧
  ∀ (r : Int) (H' : Hp), 0 ≤ r → r < size → TapeAt H' h c → But h H H' → Q (.int r) H'
def spTape (K : PySem.W.Frag) : Sp := fun vs H Q _ => ∃ (a : Addr) (ns : List Int), vs = [.ref a] ∧ SqL K H a (ns.map V.int) ∧
  ∀ (h c : Addr) (H' : Hp), TapeAt H' h c → Same H H' → H h = none → H c = none → Q (.ref h) H'
theorem upd_upd {H : Hp} {p : Addr} {o u : HO} : upd (upd H p o) p u = upd H p u := by
  funext b
  by_cases e : b = p
  · subst e; rw [upd_same, upd_same]
  · rw [upd_ne e, upd_ne e, upd_ne e]
theorem upd_id {H : Hp} {p : Addr} {o : HO} (e : H p = some o) : upd H p o = H := by
  funext b
  by_cases h : b = p
  · subst h; rw [upd_same, e]
  · rw [upd_ne h]
theorem same_upd {H : Hp} {p : Addr} {o : HO} (h : H p = none) : Same H (upd H p o) := fun b u e => by
  rw [upd_ne (ne_of_none e h)]; exact e
section
variable {P : Program} {w : World} {K : PySem.W.Frag} {mg : Str → Option Value} {base : Heap}
theorem ok_law_tape (T : Top K mg) : FnOk P w K mg base CX0 1 T.f_law_tape T.fd_law_tape ["script"] (spTape K) := by
  refine T.F_law_tape.ok sc_law_tape (fun vs H Q E h => ?_) (fun cdv A outer s H vs Q E hr h => ?_)
  · obtain ⟨a, ns, rfl, _⟩ := h; rfl
  · obtain ⟨a, ns, rfl, hS, k⟩ := h
    refine ⟨_, (pss_one (ps_ret (pe_lst (pa_cons (pe_callTy call_list_of (by rfl) T.n_list (by decide +kernel) (pa_cons (pv 0) pa_nil)) (pa_cons pe_int (pa_cons pe_int (pa_cons pe_int (pa_cons pe_int pa_nil)))))))), ?_⟩
    walk_at "rd"
    refine ⟨a, ns.map V.int, rfl, .inl hS, fun c hc => ?_⟩
    walk_at "rd"
    refine ⟨by show 5 ≤ sizeLine; decide, fun h hh => ?_⟩
    have nh : h ≠ c := fun z => by rw [z, upd_same] at hh; cases hh
    have hh' : H h = none := by rw [upd_ne nh] at hh; exact hh
    exact k h c _ ⟨ns, 0, 0, 1, 0, upd_same, by rw [upd_ne (Ne.symm nh)]; exact upd_same, Ne.symm nh, Int.le_refl _⟩ (fun b u e => same_upd hh _ _ (same_upd hc _ _ e)) hh' hc
theorem ok_law_pick (T : Top K mg) : FnOk P w K mg base CX0 1 T.f_law_pick T.fd_law_pick ["tape", "size"] spPick := by
  refine T.F_law_pick.ok sc_law_pick (fun vs H Q E h => ?_) (fun cdv A outer s H vs Q E hr h => ?_)
  · obtain ⟨h, c, size, rfl, _⟩ := h; rfl
  · obtain ⟨h, c, size, rfl, ⟨cs, p, q, m, n, e1, e2, ne, hp⟩, m0, ml, k⟩ := h
    refine ⟨_, (pss_cons (ps_if (pt_cmpR op_gt (pe_ix ix_list (pv 0) pe_int (fun _ _ => rfl)) pe_int (nomark _))
 (pss_cons (ps_set (i := 2) sc_law_pick.nd rfl (Or.inl rfl) (pe_op op_mod (pe_callTy RD.c_int (by rfl) T.n_int (by decide +kernel) (pa_cons (pe_ix ix_list (pv 0) pe_int (fun _ _ => rfl)) pa_nil)) (pv 1)))
 (pss_cons (ps_asg (pe_op op_fdivW (pe_ix ix_list (pv 0) pe_int (fun _ _ => rfl)) (pv 1)) (pg_sub (pv 0) pe_int set_list))
 (pss_one (ps_ret (pv 2)))))
 pss_nil)
 (pss_cons (ps_asg (pe_op op_add (pe_ix ix_list (pv 0) pe_int (fun _ _ => rfl)) pe_int) (pg_sub (pv 0) pe_int set_list))
 (pss_cons (ps_set (i := 3) sc_law_pick.nd rfl (Or.inl rfl) pe_int)
 (C8.pss_cut (ps_if (pt_cmpR op_lt (pe_ix ix_list (pv 0) pe_int (fun _ _ => rfl)) (pe_callB RD.c_len (by rfl) T.n_len (by decide +kernel) (pa_cons (pe_ix ix_list (pv 0) pe_int (fun _ _ => rfl)) pa_nil)) (nomark _))
 (pss_cons (ps_set (i := 3) sc_law_pick.nd rfl (Or.inl rfl) (pe_ix ix_list (pe_ix ix_list (pv 0) pe_int (fun _ _ => rfl)) (pe_ix ix_list (pv 0) pe_int (fun _ _ => rfl)) (fun _ _ => rfl)))
 (pss_one (ps_asg (pe_op op_add (pe_ix ix_list (pv 0) pe_int (fun _ _ => rfl)) pe_int) (pg_sub (pv 0) pe_int set_list))))
 pss_nil)
 (pss_cons (ps_if (pt_cmpR op_ge (pv 3) (pe_op op_pow pe_int pe_int) (nomark _))
 (pss_cons (ps_asg (pe_op op_fdivW (pv 3) (pv 1)) (pg_sub (pv 0) pe_int set_list))
 (pss_one (ps_ret (pe_op op_mod (pe_callTy RD.c_int (by rfl) T.n_int (by decide +kernel) (pa_cons (pv 3) pa_nil)) (pv 1)))))
 pss_nil)
 (pss_cons (ps_set (i := 4) sc_law_pick.nd rfl (Or.inl rfl) (pe_op op_mod (pe_callTy RD.c_int (by rfl) T.n_int (by decide +kernel) (pa_cons (pe_op op_add (pe_op op_add (pe_op op_mul (pe_ix ix_list (pv 0) pe_int (fun _ _ => rfl)) pe_int) (pe_op op_mod (pe_callTy RD.c_int (by rfl) T.n_int (by decide +kernel) (pa_cons (pv 3) pa_nil)) pe_int)) (pe_op op_mul (pe_ix ix_list (pv 0) pe_int (fun _ _ => rfl)) pe_int)) pa_nil)) pe_int))
 (pss_cons (ps_set (i := 4) sc_law_pick.nd rfl (Or.inl rfl) (pe_op op_mod (pe_callTy RD.c_int (by rfl) T.n_int (by decide +kernel) (pa_cons (pe_op op_mul (pv 4) (pe_op op_add (pe_op op_fdivW (pv 4) pe_int) pe_int)) pa_nil)) pe_int))
 (pss_cons (ps_asg (pv 4) (pg_sub (pv 0) pe_int set_list))
 (pss_one (ps_ret (pe_op op_mod (pe_callTy RD.c_int (by rfl) T.n_int (by decide +kernel) (pa_cons (pe_op op_fdivW (pv 4) pe_int) pa_nil)) (pv 1)))))))))))), ?_⟩
    have fin : ∀ p2 q2 m2 n2 : Int, 0 ≤ p2 → TapeAt (upd H h (.lst [.ref c, .int p2, .int q2, .int m2, .int n2])) h c ∧ But h H (upd H h (.lst [.ref c, .int p2, .int q2, .int m2, .int n2])) := fun p2 q2 m2 n2 h0 =>
      ⟨⟨cs, p2, q2, m2, n2, upd_same, (by rw [upd_ne ne]; exact e2), ne, h0⟩, fun b hb => upd_ne hb⟩
    walk_at "rd"
    refine RD.iteD (fun c1 => ?_) (fun c1 => ?_)
    · walk_at "rd"
      exact k _ _ (Int.emod_nonneg _ (by omega)) (Int.emod_lt_of_pos _ m0) (fin _ _ _ _ hp).1 (fin _ _ _ _ hp).2
    · walk_at "rd"
      refine RD.d_cut (fun σ' H' => ∃ (x y : Option V) (p' cell : Int), σ' = [some (.ref h), some (.int size), x, some (.int cell), y] ∧ H' = upd H h (.lst [.ref c, .int p', .int q, .int m, .int (n + 1)]) ∧ 0 ≤ p') ?_ ?_
      · walk_at "rd"
        refine RD.d_lenL (SqL.of (by rw [upd_ne ne]; exact e2)) ?_
        walk_at "rd"
        refine RD.iteD (fun c2 => ?_) (fun c2 => ?_)
        · have hl : p.toNat < cs.length := by rw [List.length_map] at c2; omega
          have hg : (cs.map V.int)[p.toNat]? = some (V.int cs[p.toNat]) := by simp [hl]
          have ha : atI (cs.map V.int) p = some (V.int cs[p.toNat]) := by
            have z := atI_nat hg
            rwa [Int.toNat_of_nonneg hp] at z
          walk_at "rd"
          refine RD.d_ixL (SqL.of (by rw [upd_ne ne]; exact e2)) ha ?_
          walk_at "rd"
          exact ⟨_, _, p + 1, cs[p.toNat], rfl, (by rw [upd_upd]; rfl), by omega⟩
        · walk_at "rd"
          exact ⟨_, _, p, 0, rfl, rfl, hp⟩
      · rintro σ' H' ⟨x, y, p', cell, rfl, rfl, hp'⟩
        walk_at "rd"
        refine RD.iteD (fun c2 => ?_) (fun c2 => ?_)
        · walk_at "rd"
          rw [upd_upd]
          exact k _ _ (Int.emod_nonneg _ (by omega)) (Int.emod_lt_of_pos _ m0) (fin _ _ _ _ hp').1 (fin _ _ _ _ hp').2
        · walk_at "rd"
          rw [upd_upd]
          exact k _ _ (Int.emod_nonneg _ (by omega)) (Int.emod_lt_of_pos _ m0) (fin _ _ _ _ hp').1 (fin _ _ _ _ hp').2
end

/-! ### all but one object stays -/
def Kx (x : Addr) (H H' : Hp) : Prop := ∀ b o, b ≠ x → H b = some o → H' b = some o
theorem Kx.trans {x : Addr} {H H1 H2 : Hp} (a : Kx x H H1) (b : Kx x H1 H2) : Kx x H H2 := fun c o n e => b c o n (a c o n e)
theorem Same.kx {x : Addr} {H H' : Hp} (s : Same H H') : Kx x H H' := fun b o _ e => s b o e
theorem kx_upd {x : Addr} {H : Hp} {o : HO} : Kx x H (upd H x o) := fun b u n e => by rw [upd_ne n]; exact e
theorem putF_none {f : Str} {v : V} : putF f v [] = [(f, v)] := rfl
theorem putF_ne {f g : Str} {u v : V} {r : List (Str × V)} (n : g ≠ f) : putF f v ((g, u) :: r) = (g, u) :: putF f v r := if_neg n
theorem lk_ne {f g : Str} {v : V} {r : List (Str × V)} (h : (f == g) = false) : List.lookup f ((g, v) :: r) = List.lookup f r := by simp [List.lookup, h]
theorem lk_eq {f : Str} {v : V} {r : List (Str × V)} : List.lookup f ((f, v) :: r) = some v := by simp [List.lookup]
theorem d_iTup {K : PySem.W.Frag} {tl : TE} {R : It → Hp → Prop} {σ : L2.St} {H : Hp} (h : tl σ H fun x H1 => ∃ a, x = .ref a ∧ (∃ xs, SqT K H1 a xs) ∧ R (Itt K a) H1) : iTup K tl σ H R := h
theorem kit_selfR {K : PySem.W.Frag} {t : Value} : PySem.W.kitOne K t t = some true := by
  unfold PySem.W.kitOne
  rw [if_pos (by simp)]

/-! ### rows -/
theorem kitA_list {K : PySem.W.Frag} : PySem.W.kitAny K (.type "list") [.type "list", .type "tuple"] = some true := by
  unfold PySem.W.kitAny
  rw [kit_ty (r := true) (by decide +kernel)]
theorem kitA_tuple {K : PySem.W.Frag} : PySem.W.kitAny K (.type "tuple") [.type "list", .type "tuple"] = some true := by
  unfold PySem.W.kitAny
  rw [kit_ty (r := false) (by decide +kernel)]
  unfold PySem.W.kitAny
  rw [kit_ty (r := true) (by decide +kernel)]
def spIsRow (K : PySem.W.Frag) : Sp := fun vs H Q _ => ∃ (x : V) (t : Value) (b : Bool), vs = [x] ∧ TyX K H x t ∧ PySem.W.kitAny K t [.type "list", .type "tuple"] = some b ∧ ∀ H', Same H H' → Q (.bl b) H'
section
variable {P : Program} {w : World} {K : PySem.W.Frag} {mg : Str → Option Value} {base : Heap}
theorem ok_is_row (T : Top K mg) : FnOk P w K mg base CX0 1 T.f_is_row T.fd_is_row ["thing"] (spIsRow K) := by
  refine T.F_is_row.ok sc_is_row (fun vs H Q E h => ?_) (fun cdv A outer s H vs Q E hr h => ?_)
  · obtain ⟨x, t, b, rfl, _⟩ := h; rfl
  · obtain ⟨x, t, b, rfl, ty, e, k⟩ := h
    refine ⟨_, (pss_one (ps_ret (pe_callB call_isiT (by rfl) T.n_isinstance (by decide +kernel) (pa_cons (pv 0) (pa_cons (pe_tup (pa_cons (pe_bltn (v := V.ty "list") (by rfl) T.n_list (by decide +kernel) rfl) (pa_cons (pe_bltn (v := V.ty "tuple") (by rfl) T.n_tuple (by decide +kernel) rfl) pa_nil))) pa_nil))))), ?_⟩
    walk_at "rd"
    refine ⟨by show 2 ≤ sizeLine; decide, fun tp htp => ?_⟩
    walk_at "rd"
    exact ⟨x, tp, _, t, _, b, rfl, upd_same, .cons (.ty _) (.cons (.ty _) .nil), tyX_same ty (same_upd htp), e, k _ (same_upd htp)⟩
end

/-! ### words and watches -/
/-- a word of at most m letters -/
structure IsW (m : Nat) (l : WW.Wd) : Prop where
  lo : 1 ≤ l.length
  hi : l.length ≤ m
  lw : WW.Lw l
theorem IsW.mono {m n : Nat} {l : WW.Wd} (h : IsW m l) (k : m ≤ n) : IsW n l := ⟨h.lo, Nat.le_trans h.hi k, h.lw⟩
def spHas : Sp := fun vs H Q _ => ∃ (l : WW.Wd) (m : Nat), vs = [.str (WW.S l), .int m] ∧ IsW m l ∧ m ≤ 1000 ∧ ∀ H', Same H H' → Q (.bl true) H'
def spIsW (m : Nat) : Sp := fun vs H Q _ => ∃ l : WW.Wd, vs = [.str (WW.S l)] ∧ IsW m l ∧ ∀ H', Same H H' → Q (.bl true) H'
def spChkW : Sp := fun vs H Q _ => ∃ l : WW.Wd, vs = [.str (WW.S l)] ∧ IsW 40 l ∧ ∀ H', Same H H' → Q .non H'
section
variable {P : Program} {w : World} {K : PySem.W.Frag} {mg : Str → Option Value} {base : Heap}
theorem ok_has_letters (T : Top K mg) : FnOk P w K mg base CX0 1 T.f_has_letters T.fd_has_letters ["thing", "most"] spHas := by
  refine T.F_has_letters.ok sc_has_letters (fun vs H Q E h => ?_) (fun cdv A outer s H vs Q E hr h => ?_)
  · obtain ⟨l, m, rfl, _⟩ := h; rfl
  · obtain ⟨l, m, rfl, ⟨lo, hi, lw⟩, hm, k⟩ := h
    have hz : l.length ≤ sizeLine := Nat.le_trans (Nat.le_trans hi hm) (by decide)
    refine ⟨_, (pss_cons (ps_if (PW.pt (pw_or (pt_not (pt_val (pe_callB call_isi (by rfl) T.n_isinstance (by decide +kernel) (pa_cons (pv 0) (pa_cons (pe_bltn (v := V.ty "str") (by rfl) T.n_str (by decide +kernel) rfl) pa_nil))))) (pw_or1 (pt_not (pt_chain op_le op_le pe_int (pe_callB RD.c_len (by rfl) T.n_len (by decide +kernel) (pa_cons (pv 0) pa_nil)) (pv 1))))))
 (pss_one (ps_ret pe_bl))
 pss_nil)
 (pss_one (ps_ret (pe_callB (cr_all rfl) (by rfl) T.n_all (by decide +kernel) (pa_cons (pe_lc (own := [("letter", 2)]) (g := (gName 2)) (tt := tYes) rfl sc_has_letters.nd (pi_str (pv 0)) (blkOk_by (own := [("letter", 2)]) (N := ["thing", "most", "letter"]) (sc := defScope s_has_letters) (by decide +kernel)) (fun _ _ _ _ _ => (pg_name (i := 2) sc_has_letters.nd rfl (Or.inl rfl))) (fun _ _ _ _ _ => pts_nil) (fun _ _ _ _ _ => (pe_cmpR RD.o_sign (pv 2) pe_str rfl))) pa_nil))))), ?_⟩
    walk_at "rd"
    refine RD.d_isi (.ty _) (.base (.str _)) (kit_ty (r := true) (by decide +kernel)) ?_
    walk_at "tx"
    rw [decide_eq_true (by omega : (1 : Int) ≤ l.length)]
    walk_at "tx"
    rw [decide_eq_true (by omega : (l.length : Int) ≤ m)]
    walk_at "tx"
    refine ⟨_, rfl, fun D hD => ?_⟩
    have sD := same_upd (o := HO.lst []) hD
    refine lc_it (walk_str (z := WW.S l)) (fun i H' => Same H H' ∧ H' D = some (.lst ((List.replicate i true).map V.bl))) ⟨sD, upd_same⟩ (fun _ _ _ _ => trivial) ?_ ?_
    · rintro i x H' H'' il ⟨s2, eD⟩ ⟨rfl, c, hc, rfl⟩
      have il' : i < l.length := by simpa [WW.S] using il
      have lc : WW.Lt c := by
        refine lw c ?_
        have : l[i]? = some c := by simpa [WW.S] using hc
        exact List.mem_of_getElem? this
      walk_at "tx"
      refine RD.d_alpha ?_
      rw [decide_eq_true lc]
      refine ⟨_, eD, by rw [List.length_map, List.length_replicate]; omega, fun b u e => ?_, ?_⟩
      · rw [upd_ne (ne_of_none e hD)]; exact s2 _ _ e
      · rw [upd_same, List.replicate_succ', List.map_append]; rfl
    · rintro H' ⟨s2, eD⟩
      walk_at "tx"
      refine ⟨D, _, rfl, SqL.of eD, ?_⟩
      rw [List.all_eq_true.mpr fun x hx => by rw [(List.mem_replicate.mp hx).2]; rfl]
      exact k _ s2
theorem ok_is_word (T : Top K mg) : FnOk P w K mg base CX0 2 T.f_is_word T.fd_is_word ["thing"] (spIsW 40) := by
  refine T.F_is_word.ok sc_is_word (fun vs H Q E h => ?_) (fun cdv A outer s H vs Q E hr h => ?_)
  · obtain ⟨l, rfl, _⟩ := h; rfl
  · obtain ⟨l, rfl, h, k⟩ := h
    refine ⟨_, (pss_one (ps_ret (pe_call (ok_has_letters T) (hr.mono (by decide)) (by rfl) T.g_has_letters T.F_has_letters.kp T.b_has_letters .nil pass0 (pa_cons (pv 0) (pa_cons (pe_glob (v := V.int 40) (by rfl) T.g_MOST_LETTERS ⟨_, rfl⟩) pa_nil))))), ?_⟩
    walk_at "tx"
    exact ⟨l, 40, rfl, h, by decide, k⟩
theorem ok_is_watch (T : Top K mg) : FnOk P w K mg base CX0 2 T.f_is_watch T.fd_is_watch ["thing"] (spIsW 12) := by
  refine T.F_is_watch.ok sc_is_watch (fun vs H Q E h => ?_) (fun cdv A outer s H vs Q E hr h => ?_)
  · obtain ⟨l, rfl, _⟩ := h; rfl
  · obtain ⟨l, rfl, h, k⟩ := h
    refine ⟨_, (pss_one (ps_ret (pe_call (ok_has_letters T) (hr.mono (by decide)) (by rfl) T.g_has_letters T.F_has_letters.kp T.b_has_letters .nil pass0 (pa_cons (pv 0) (pa_cons (pe_glob (v := V.int 12) (by rfl) T.g_MOST_WATCH_LETTERS ⟨_, rfl⟩) pa_nil))))), ?_⟩
    walk_at "tx"
    exact ⟨l, 12, rfl, h, by decide, k⟩
theorem ok_check_word (T : Top K mg) : FnOk P w K mg base CX0 4 T.f_check_word T.fd_check_word ["word"] spChkW := by
  refine T.F_check_word.ok sc_check_word (fun vs H Q E h => ?_) (fun cdv A outer s H vs Q E hr h => ?_)
  · obtain ⟨l, rfl, _⟩ := h; rfl
  · obtain ⟨l, rfl, h, k⟩ := h
    refine ⟨_, (pss_one (ps_if (pt_not (pt_val (pe_call (ok_is_word T) (hr.mono (by decide)) (by rfl) T.g_is_word T.F_is_word.kp T.b_is_word .nil pass0 (pa_cons (pv 0) pa_nil))))
 (pss_one ps_never)
 pss_nil)), ?_⟩
    walk_at "tx"
    refine ⟨l, rfl, h, fun H1 s1 => ?_⟩
    walk_at "tx"
    exact k _ s1
end

/-! ### books -/
/-- watches of a book -/
structure Okw (ws : List WW.Wd) : Prop where
  len : ws.length ≤ 12
  ok : ∀ w ∈ ws, IsW 12 w
  nd : ws.Nodup
theorem Okw.ne {ws : List WW.Wd} (h : Okw ws) : ∀ w ∈ ws, w ≠ [] := fun w m e => by have := (h.ok w m).lo; rw [e] at this; simp at this
def BookAt (K : PySem.W.Frag) (C : Addr) (H : Hp) (x : Addr) (ws : List WW.Wd) : Prop := ∃ dx t, H x = some (.ins C dx [("watches", .ref t)]) ∧ SqT K H t (WW.Ss ws)
theorem BookAt.same {K : PySem.W.Frag} {C : Addr} {H H' : Hp} {x : Addr} {ws : List WW.Wd} (h : BookAt K C H x ws) (s : Same H H') : BookAt K C H' x ws := by
  obtain ⟨dx, t, e, q⟩ := h
  exact ⟨dx, t, s _ _ e, OQ.sqT_same q s⟩
theorem OQ.SeqAt.row {K : PySem.W.Frag} {H : Hp} {a : Addr} {xs : List V} (h : OQ.SeqAt K H a xs) : ∃ t, TyX K H (.ref a) t ∧ PySem.W.kitAny K t [.type "list", .type "tuple"] = some true := by
  rcases h with ((h | ⟨o, h⟩) | ⟨o, _, _, h, c, _⟩) | ((h | ⟨o, h⟩) | ⟨o, _, _, h, c, _⟩)
  · exact ⟨_, .base (.lst h), kitA_list⟩
  · exact ⟨_, .base (.frz h), kitA_list⟩
  · exact ⟨_, .kList h c, kitA_list⟩
  · exact ⟨_, .base (.tup h), kitA_tuple⟩
  · exact ⟨_, .fTuple h, kitA_tuple⟩
  · exact ⟨_, .kTuple h c, kitA_tuple⟩
def spBookI (K : PySem.W.Frag) (C : Addr) : Sp := fun vs H Q _ => ∃ (x dx a : Addr) (ws : List WW.Wd), vs = [.ref x, .ref a] ∧ H x = some (.ins C dx []) ∧ OQ.SeqAt K H a (WW.Ss ws) ∧ Okw ws ∧ ∀ H', Kx x H H' → BookAt K C H' x ws → Q .non H'
def spWrong (K : PySem.W.Frag) : Sp := fun vs H Q _ => ∃ (a : Addr) (ws : List WW.Wd), vs = [.ref a] ∧ OQ.SeqAt K H a (WW.Ss ws) ∧ Okw ws ∧ ∀ H', Same H H' → Q .non H'
section
variable {P : Program} {w : World} {K : PySem.W.Frag} {mg : Str → Option Value} {base : Heap}
theorem ok_wrong_watch (T : Top K mg) : FnOk P w K mg base CX0 3 T.f_wrong_watch T.fd_wrong_watch ["watches"] (spWrong K) := by
  refine T.F_wrong_watch.ok sc_wrong_watch (fun vs H Q E h => ?_) (fun cdv A outer s H vs Q E hr h => ?_)
  · obtain ⟨a, ws, rfl, _⟩ := h; rfl
  · obtain ⟨a, ws, rfl, sa, ok, k⟩ := h
    have l12 := ok.len
    refine ⟨_, (pss_cons (ps_for PassesOwn.never rfl (OQ.pi_or (pi_enum (by rfl) T.n_enumerate (pa_cons (pv 0) pa_nil)) (OQ.pi_enumT (by rfl) T.n_enumerate (pa_cons (pv 0) pa_nil))) (pg_tup (by rfl) (pgs_cons (pg_name (i := 1) sc_wrong_watch.nd rfl (Or.inl rfl)) (pgs_cons (pg_name (i := 2) sc_wrong_watch.nd rfl (Or.inl rfl)) pgs_nil)))
 (pss_one (ps_if (PW.pt (pw_or (pt_not (pt_val (pe_call (ok_is_watch T) (hr.mono (by decide)) (by rfl) T.g_is_watch T.F_is_watch.kp T.b_is_watch .nil pass0 (pa_cons (pv 2) pa_nil)))) (pw_or1 (pt_cmpR op_in_seq (pv 2) (pe_slice (SlR.or sl_list sl_tup) (pv 0) po_none (po_some (pv 1))) rfl))))
 (pss_one (ps_ret (pv 1)))
 pss_nil)))
 (pss_one (ps_ret pe_non))), ?_⟩
    walk_at "tx"
    refine OQ.d_enumVar rfl sa (fun J G hw hG => ?_)
    refine RD.f_it hw (fun i σ' H' => Same H H' ∧ ∃ v1 v2 : Option V, σ' = [some (.ref a), v1, v2]) ⟨Same.refl _, none, none, rfl⟩ (fun i σ' H' _ q => hG _ q.1) ?_ ?_
    · rintro i y σ' H' H'' il ⟨s3, v1, v2, rfl⟩ ⟨p, u, v, rfl, hp, rfl, e1, e2⟩
      cases e1
      obtain ⟨wd, ew, rfl⟩ := WW.Ss_get e2
      have s4 := s3.trans (same_upd (o := HO.tup [V.int (i : Nat), V.str (WW.S wd)]) hp)
      have ep : upd H' p (.tup [V.int (i : Nat), V.str (WW.S wd)]) p = some (.tup [V.int (i : Nat), V.str (WW.S wd)]) := upd_same
      generalize upd H' p (.tup [V.int (i : Nat), V.str (WW.S wd)]) = H4 at *
      refine RD.d_two rfl (SqT.of ep) ?_
      have hw := ok.ok wd (List.mem_of_getElem? ew)
      have il' : i < ws.length := by rw [WW.Ss_len] at il; exact il
      walk_at "tx"
      refine ⟨wd, rfl, hw, fun H5 s5 => ?_⟩
      have s6 := s4.trans s5
      walk_at "tx"
      have eq : cutV (WW.Ss ws) none (some ((i : Nat) : Int)) = WW.Ss (ws.take i) := by
        unfold cutV
        rw [HT.sIx_nat, HT.sIx_none, WW.Ss_len, Nat.min_eq_left (Nat.le_of_lt il')]
        unfold WW.Ss
        rw [List.map_take]
        rfl
      have nin : decide (wd ∈ ws.take i) = false := decide_eq_false (by
        intro m
        obtain ⟨j, hj⟩ := List.getElem?_of_mem m
        have jl : j < i := by
          have := (List.getElem?_eq_some_iff.mp hj).1
          rw [List.length_take] at this; omega
        rw [List.getElem?_take_of_lt jl] at hj
        have := (List.getElem?_inj (by omega) ok.nd).mp (hj.trans ew.symm)
        omega)
      rcases sa.same s6 with sL | sT
      · refine .inl ⟨a, _, rfl, sL, fun q hq => ?_⟩
        have s7 := s6.trans (same_upd (o := HO.lst (cutV (WW.Ss ws) none (some ((i : Nat) : Int)))) hq)
        refine OQ.d_inSs (ws := ws.take i) (.inl (SqL.of (by rw [upd_same, eq]))) ?_
        rw [nin]
        walk_at "tx"
        exact ⟨s7, _, _, rfl⟩
      · refine .inr ⟨a, _, rfl, sT, ?_, fun q hq => ?_⟩
        · rintro ⟨_, z⟩
          rw [HT.sIx_nat, WW.Ss_len] at z
          omega
        have s7 := s6.trans (same_upd (o := HO.tup (cutV (WW.Ss ws) none (some ((i : Nat) : Int)))) hq)
        refine OQ.d_inSs (ws := ws.take i) (.inr (SqT.of (by rw [upd_same, eq]))) ?_
        rw [nin]
        walk_at "tx"
        exact ⟨s7, _, _, rfl⟩
    · rintro σ' H' ⟨s3, v1, v2, rfl⟩
      walk_at "tx"
      exact k _ s3
theorem ok_Book__init (T : Top K mg) : FnOk P w K mg base CX0 4 T.f_Book__init T.fd_Book__init ["self", "watches"] (spBookI K T.C_Book) := by
  refine T.F_Book__init.ok sc_Book__init (fun vs H Q E h => ?_) (fun cdv A outer s H vs Q E hr h => ?_)
  · obtain ⟨x, dx, a, ws, rfl, _⟩ := h; rfl
  · obtain ⟨x, dx, a, ws, rfl, ex, sa, ok, k⟩ := h
    obtain ⟨t, ty, kt⟩ := OQ.SeqAt.row sa
    refine ⟨_, (pss_cons (ps_if (PW.pt (pw_or (pt_not (pt_val (pe_call (ok_is_row T) (hr.mono (by decide)) (by rfl) T.g_is_row T.F_is_row.kp T.b_is_row .nil pass0 (pa_cons (pv 1) pa_nil)))) (pw_or1 (pt_cmpR op_gt (pe_callB RD.c_len (by rfl) T.n_len (by decide +kernel) (pa_cons (pv 1) pa_nil)) (pe_glob (v := V.int 12) (by rfl) T.g_MOST_WATCHES ⟨_, rfl⟩) (nomark _)))))
 (pss_one ps_never)
 pss_nil)
 (pss_cons (ps_set (i := 2) sc_Book__init.nd rfl (Or.inl rfl) (pe_call (ok_wrong_watch T) (hr.mono (by decide)) (by rfl) T.g_wrong_watch T.F_wrong_watch.kp T.b_wrong_watch .nil pass0 (pa_cons (pv 1) pa_nil)))
 (pss_cons (ps_if (pt_cmpR RD.o_notN (pv 2) pe_non (nomark _))
 (pss_one ps_never)
 pss_nil)
 (pss_one (ps_fld (pv 0) (pe_callTy (OQ.tupK K) (by rfl) T.n_tuple (by decide +kernel) (pa_cons (pv 1) pa_nil)) rfl))))), ?_⟩
    walk_at "tx"
    refine ⟨.ref a, t, true, rfl, ty, kt, fun H1 s1 => ?_⟩
    replace sa := sa.same s1
    walk_at "tx"
    refine sa.len ?_
    walk_at "tx"
    have l12 := ok.len
    rw [WW.Ss_len, decide_eq_false (by omega : ¬ (ws.length : Int) > 12)]
    walk_at "tx"
    refine ⟨a, ws, rfl, sa, ok, fun H2 s2 => ?_⟩
    replace sa := sa.same s2
    walk_at "tx"
    refine OQ.d_tupSeq sa (fun H3 t2 s3 sq => ?_)
    have ex2 := s3 _ _ (s2 _ _ (s1 _ _ ex))
    have s13 := (s1.trans s2).trans s3
    clear sa ty kt
    walk_at "tx"
    refine ⟨x, T.C_Book, dx, _, rfl, ex2, T.cl_Book, T.na_Book_watches, by show 0 < 1000; decide, ?_⟩
    refine k _ (Kx.trans (Same.kx s13) kx_upd) ⟨dx, t2, by rw [upd_same, putF_none], ?_⟩
    rcases sq with (h | ⟨o, h⟩) | h
    · exact .inl (.inl (by rw [upd_ne (fun z => by subst z; rw [ex2] at h; cases h)]; exact h))
    · exact .inl (.inr ⟨o, by rw [upd_ne (fun z => by subst z; rw [ex2] at h; cases h)]; exact h⟩)
    · exact .inr h
end

def spChkB (K : PySem.W.Frag) (C : Addr) : Sp := fun vs H Q _ => ∃ (x : Addr) (ws : List WW.Wd), vs = [.ref x] ∧ BookAt K C H x ws ∧ Q .non H
def spAsked (K : PySem.W.Frag) (C : Addr) : Sp := fun vs H Q _ => ∃ (x : Addr) (ws : List WW.Wd) (l : WW.Wd), vs = [.ref x, .str (WW.S l)] ∧ BookAt K C H x ws ∧ IsW 40 l ∧ ∀ H', Same H H' → Q .non H'
section
variable {P : Program} {w : World} {K : PySem.W.Frag} {mg : Str → Option Value} {base : Heap}
theorem ok_check_book (T : Top K mg) : FnOk P w K mg base CX0 1 T.f_check_book T.fd_check_book ["book"] (spChkB K T.C_Book) := by
  refine T.F_check_book.ok sc_check_book (fun vs H Q E h => ?_) (fun cdv A outer s H vs Q E hr h => ?_)
  · obtain ⟨x, ws, rfl, _⟩ := h; rfl
  · obtain ⟨x, ws, rfl, ⟨dx, t, ex, sq⟩, k⟩ := h
    refine ⟨_, (pss_one (ps_if (pt_not (pt_val (pe_callB call_isi (by rfl) T.n_isinstance (by decide +kernel) (pa_cons (pv 0) (pa_cons (pe_glob (v := V.ref T.C_Book) (by rfl) T.g_Book rfl) pa_nil)))))
 (pss_one ps_never)
 pss_nil)), ?_⟩
    walk_at "tx"
    refine RD.d_isi (.own _) (.base (.ins ex T.cl_Book T.ha_Book T.hnO T.htO T.hm_Book)) T.kBB ?_
    walk_at "tx"
    exact k
theorem ok_check_asked (T : Top K mg) : FnOk P w K mg base CX0 6 T.f_check_asked T.fd_check_asked ["book", "word"] (spAsked K T.C_Book) := by
  refine T.F_check_asked.ok sc_check_asked (fun vs H Q E h => ?_) (fun cdv A outer s H vs Q E hr h => ?_)
  · obtain ⟨x, ws, l, rfl, _⟩ := h; rfl
  · obtain ⟨x, ws, l, rfl, b, hl, k⟩ := h
    refine ⟨_, (pss_cons (ps_expr (pe_call (ok_check_book T) (hr.mono (by decide)) (by rfl) T.g_check_book T.F_check_book.kp T.b_check_book .nil pass0 (pa_cons (pv 0) pa_nil)))
 (pss_one (ps_expr (pe_call (ok_check_word T) (hr.mono (by decide)) (by rfl) T.g_check_word T.F_check_word.kp T.b_check_word .nil pass0 (pa_cons (pv 1) pa_nil))))), ?_⟩
    walk_at "tx"
    refine ⟨x, ws, rfl, b, ?_⟩
    walk_at "tx"
    refine ⟨l, rfl, hl, fun H1 s1 => ?_⟩
    exact k _ s1
end

/-! ### the links of a word's spots -/
open WW (Ns)
/-- the rows at L, n of them; all of them made behind H0 -/
def RowsX (H0 H : Hp) (L : Addr) (n : Nat) (rows : Nat → List Nat) : Prop := ∃ rs : List Addr, rs.length = n ∧ rs.Nodup ∧ L ∉ rs ∧ (∀ a ∈ rs, H0 a = none) ∧ H L = some (.lst (rs.map V.ref)) ∧ ∀ (i : Nat) (a : Addr), rs[i]? = some a → H a = some (.lst (Ns (rows i)))
def RowsAt (H : Hp) (L : Addr) (n : Nat) (rows : Nat → List Nat) : Prop := ∃ rs : List Addr, rs.length = n ∧ H L = some (.lst (rs.map V.ref)) ∧ ∀ (i : Nat) (a : Addr), rs[i]? = some a → H a = some (.lst (Ns (rows i)))
theorem RowsAt.same {H H' : Hp} {L : Addr} {n : Nat} {rows : Nat → List Nat} (h : RowsAt H L n rows) (s : Same H H') : RowsAt H' L n rows := by
  obtain ⟨rs, h1, h2, h3⟩ := h
  exact ⟨rs, h1, s _ _ h2, fun i a e => s _ _ (h3 i a e)⟩
theorem RowsX.row {K : PySem.W.Frag} {H0 H : Hp} {L : Addr} {n i : Nat} {rows : Nat → List Nat} {iv : Int} {Q : VK} (h : RowsX H0 H L n rows) (hi : i < n) (e : iv = i)
    (k : ∀ a, H a = some (.lst (Ns (rows i))) → (∀ y, RowsX H0 (upd H a (.lst (Ns (rows i ++ [y])))) L n (WW.push rows i y)) → (∀ o, Same H0 H → Same H0 (upd H a o)) → Q (.ref a) H) : rIxL K (.ref L) (.int iv) H Q := by
  subst e
  obtain ⟨rs, h1, h2, h3, h4, h5, h6⟩ := h
  have il : i < rs.length := by rw [h1]; exact hi
  have ea : rs[i]? = some rs[i] := List.getElem?_eq_getElem il
  have nL : L ≠ rs[i] := fun z => h3 (z ▸ List.getElem_mem il)
  refine RD.d_ixL (SqL.of h5) (atI_nat (by rw [List.getElem?_map, ea]; rfl)) (k _ (h6 i _ ea) (fun y => ?_) (fun o s b u eb => ?_))
  · refine ⟨rs, h1, h2, h3, h4, by rw [upd_ne nL]; exact h5, fun j a ej => ?_⟩
    unfold WW.push
    by_cases c : j = i
    · subst c
      rw [ea] at ej
      cases ej
      rw [upd_same, if_pos rfl]
    · have na : a ≠ rs[i] := fun z => by
        subst z
        exact c ((List.getElem?_inj (List.getElem?_eq_some_iff.mp ej).1 h2).mp (ej.trans ea.symm))
      rw [upd_ne na, if_neg c]
      exact h6 j a ej
  · have nb : b ≠ rs[i] := ne_of_none eb (h4 _ (List.getElem_mem il))
    rw [upd_ne nb]
    exact s _ _ eb
theorem RowsX.zero {H0 H : Hp} {L p : Addr} {i : Nat} {rs : List Addr} (l : rs.length = i) (nd : rs.Nodup) (nL : L ∉ rs) (f : ∀ a ∈ rs, H0 a = none) (e : H L = some (.lst (rs.map V.ref))) (z : ∀ a ∈ rs, H a = some (.lst [])) (hp : H p = none) (hp0 : H0 p = none) (np : p ≠ L) :
    (rs ++ [p]).length = i + 1 ∧ (rs ++ [p]).Nodup ∧ L ∉ rs ++ [p] ∧ (∀ a ∈ rs ++ [p], H0 a = none) ∧ (upd (upd H p (.lst [])) L (.lst (rs.map V.ref ++ [.ref p]))) L = some (.lst ((rs ++ [p]).map V.ref)) ∧ ∀ a ∈ rs ++ [p], (upd (upd H p (.lst [])) L (.lst (rs.map V.ref ++ [.ref p]))) a = some (.lst []) := by
  have pn : p ∉ rs := fun m => by rw [z p m] at hp; cases hp
  refine ⟨by rw [List.length_append, l]; rfl, ?_, ?_, ?_, ?_, ?_⟩
  · rw [List.nodup_append]
    refine ⟨nd, by simp, fun a ha b hb q => ?_⟩
    rw [List.mem_singleton] at hb
    subst hb; subst q
    exact pn ha
  · intro m
    rcases List.mem_append.mp m with m | m
    · exact nL m
    · exact np (List.mem_singleton.mp m).symm
  · intro a m
    rcases List.mem_append.mp m with m | m
    · exact f a m
    · rw [List.mem_singleton.mp m]; exact hp0
  · rw [upd_same, List.map_append]; rfl
  · intro a m
    rcases List.mem_append.mp m with m | m
    · have na : a ≠ L := fun q => nL (q ▸ m)
      have np' : a ≠ p := fun q => pn (q ▸ m)
      rw [upd_ne na, upd_ne np']; exact z a m
    · rw [List.mem_singleton.mp m, upd_ne np, upd_same]
/-- the links of W by the pieces ws, which may be alike -/
structure LksG (ws : List WW.Wd) (W : WW.Wd) (rows : Nat → List Nat) : Prop where
  mem : ∀ i j, j ∈ rows i ↔ WW.Link ws W i j
  up : ∀ i, (rows i).Pairwise (· ≤ ·)
  nd : ws.Nodup → ∀ i, (rows i).Nodup
/-- the links of W by the book of ws -/
structure Lks (ws : List WW.Wd) (W : WW.Wd) (rows : Nat → List Nat) : Prop where
  mem : ∀ i j, j ∈ rows i ↔ WW.Link ws W i j
  up : ∀ i, (rows i).Pairwise (· < ·)
theorem LksG.strict {ws : List WW.Wd} {W : WW.Wd} {rows : Nat → List Nat} (h : LksG ws W rows) (nd : ws.Nodup) : Lks ws W rows := ⟨h.mem, fun i => WW.strict_of (h.up i) (h.nd nd i)⟩
/-- pieces that may be looked for in W -/
structure Okp (ws : List WW.Wd) (W : WW.Wd) : Prop where
  ne : ∀ w ∈ ws, w ≠ []
  sz : ∀ w ∈ ws, w.length ≤ sizeLine
  many : ws.length ≤ 1000
  len : W.length ≤ 1000
theorem Okw.pieces {ws : List WW.Wd} {W : WW.Wd} (h : Okw ws) (k : IsW 40 W) : Okp ws W :=
  ⟨h.ne, fun w m => Nat.le_trans (h.ok w m).hi (by decide), Nat.le_trans h.len (by decide), Nat.le_trans k.hi (by decide)⟩
def spThrough (K : PySem.W.Frag) : Sp := fun vs H Q _ => ∃ (a : Addr) (ws : List WW.Wd) (l : WW.Wd), vs = [.ref a, .str (WW.S l)] ∧ OQ.SeqAt K H a (WW.Ss ws) ∧ Okp ws l ∧
  ∀ H' L rows, Same H H' → (H L = none ∧ ∀ rs : List Addr, H' L = some (.lst (rs.map V.ref)) → ∀ a ∈ rs, H a = none) → RowsAt H' L (l.length + 1) rows → LksG ws l rows → Q (.ref L) H'
section
variable {P : Program} {w : World} {K : PySem.W.Frag} {mg : Str → Option Value} {base : Heap}
theorem ok_links_through (T : Top K mg) : FnOk P w K mg base CX0 1 T.f_links_through T.fd_links_through ["pieces", "word"] (spThrough K) := by
  refine T.F_links_through.ok sc_links_through (fun vs H Q E h => ?_) (fun cdv A outer s H vs Q E hr h => ?_)
  · obtain ⟨a, ws, l, rfl, _⟩ := h; rfl
  · obtain ⟨a, ws, l, rfl, sa, ok, k⟩ := h
    have l40 := ok.len
    have hz : l.length ≤ sizeLine := Nat.le_trans l40 (by decide)
    refine ⟨_, (pss_cons (ps_setLc (i := 2) (own := [("_", 3)]) (g := (gName 3)) (tt := tYes) rfl sc_links_through.nd rfl rfl (sw_true rfl rfl rfl (by decide +kernel)) (pi_range1 (by rfl) T.n_range (pa_cons (pe_op op_add (pe_callB RD.c_len (by rfl) T.n_len (by decide +kernel) (pa_cons (pv 1) pa_nil)) pe_int) pa_nil)) (blkOk_by (own := [("_", 3)]) (N := ["pieces", "word", "links", "_", "piece", "low", "high", "spots"]) (sc := defScope s_links_through) (by decide +kernel)) (fun _ _ _ _ _ => (pg_name (i := 3) sc_links_through.nd rfl (Or.inl rfl))) (fun _ _ _ _ _ => pts_nil) (fun _ _ _ _ _ => (pe_lst pa_nil)))
 (pss_cons (ps_for PassesOwn.never rfl (OQ.pi_seq (pv 0)) (pg_name (i := 4) sc_links_through.nd rfl (Or.inl rfl))
 (pss_cons (ps_set (i := 5) sc_links_through.nd rfl (Or.inl rfl) (pe_bm PySem.F.plainAttrs_str PySem.F.slot_str_find PySem.F.type_str_find RD.m_find1 (pv 1) (pa_cons (pv 4) pa_nil)))
 (pss_one (ps_while PassesOwn.never (pt_cmpR op_ge (pv 5) pe_int (nomark _))
 (pss_cons (ps_set (i := 6) sc_links_through.nd rfl (Or.inl rfl) (pe_op op_add (pv 5) (pe_callB RD.c_len (by rfl) T.n_len (by decide +kernel) (pa_cons (pv 4) pa_nil))))
 (pss_cons (ps_expr (pe_bm PySem.F.plainAttrs_list PySem.F.slot_list_append PySem.F.type_list_append mt_append (pe_ix ix_list (pv 2) (pv 5) (fun _ _ => rfl)) (pa_cons (pv 6) pa_nil)))
 (pss_cons (ps_expr (pe_bm PySem.F.plainAttrs_list PySem.F.slot_list_append PySem.F.type_list_append mt_append (pe_ix ix_list (pv 2) (pv 6) (fun _ _ => rfl)) (pa_cons (pv 5) pa_nil)))
 (pss_one (ps_set (i := 5) sc_links_through.nd rfl (Or.inl rfl) (pe_bm PySem.F.plainAttrs_str PySem.F.slot_str_find PySem.F.type_str_find RD.m_find2 (pv 1) (pa_cons (pv 4) (pa_cons (pe_op op_add (pv 5) pe_int) pa_nil))))))))))))
 (pss_one (ps_ret (pe_lc (own := [("spots", 7)]) (g := (gName 7)) (tt := tYes) rfl sc_links_through.nd (pi_list (pv 2)) (blkOk_by (own := [("spots", 7)]) (N := ["pieces", "word", "links", "_", "piece", "low", "high", "spots"]) (sc := defScope s_links_through) (by decide +kernel)) (fun _ _ _ _ _ => (pg_name (i := 7) sc_links_through.nd rfl (Or.inl rfl))) (fun _ _ _ _ _ => pts_nil) (fun _ _ _ _ _ => (pe_callB (OQ.sortK K) (by rfl) T.n_sorted (by decide +kernel) (pa_cons (pv 7) pa_nil)))))))), ?_⟩
    walk_at "tx"
    refine ⟨_, rfl, by omega, by omega, fun D hD => ?_⟩
    rw [show ((l.length : Int) + 1).toNat = l.length + 1 from by omega]
    refine lc_range (lo := 0) (n := l.length + 1) (fun i H' => Same H H' ∧ ∃ rs : List Addr, rs.length = i ∧ rs.Nodup ∧ D ∉ rs ∧ (∀ a ∈ rs, H a = none) ∧ H' D = some (.lst (rs.map V.ref)) ∧ ∀ a ∈ rs, H' a = some (.lst []))
      ⟨same_upd hD, [], rfl, List.nodup_nil, (fun z => nomatch z), (fun _ z => nomatch z), upd_same, fun _ z => nomatch z⟩ ?_ ?_
    · rintro i H' il ⟨s1, rs, h1, h2, h3, h4, h5, h6⟩
      walk_at "tx"
      refine ⟨by show 0 ≤ sizeLine; decide, fun p hp => ?_⟩
      have np : p ≠ D := (ne_of_none h5 hp).symm
      refine ⟨rs.map V.ref, by rw [upd_ne np.symm]; exact h5, by rw [List.length_map, h1]; exact Nat.lt_of_lt_of_le il (Nat.le_trans (by omega : l.length + 1 ≤ 1001) (by decide)), ?_⟩
      have hp0 := s1.free hp
      exact ⟨fun b u e => by rw [upd_ne (ne_of_none e hD), upd_ne (ne_of_none e hp0)]; exact s1 _ _ e, rs ++ [p], RowsX.zero h1 h2 h3 h4 h5 h6 hp hp0 np⟩
    · rintro H1 ⟨s1, rs, h1, h2, h3, h4, h5, h6⟩
      have R0 : RowsX H H1 D (l.length + 1) (fun _ => []) := ⟨rs, h1, h2, h3, h4, h5, fun i a e => h6 a (List.mem_of_getElem? e)⟩
      clear h1 h2 h3 h4 h5 h6
      walk_at "tx"
      refine OQ.d_seqVar2 rfl sa s1 (fun J G hw hG => ?_)
      refine RD.f_it hw (fun kk σ' H' => Same H H' ∧ (∃ rows, RowsX H H' D (l.length + 1) rows ∧ WW.LkJ rows (WW.LkG ws l kk 0) ws.Nodup (kk * (l.length + 1))) ∧ ∃ v3 v4 v5 v6 v7 : Option V, σ' = [some (.ref a), some (.str (WW.S l)), some (.ref D), v3, v4, v5, v6, v7])
        ⟨s1, ⟨_, R0, WW.LkJ.zero.iff (fun _ _ => Iff.rfl) (Nat.zero_le _)⟩, none, none, none, none, none, rfl⟩ (fun kk σ' H' _ q => hG _ q.1) ?_ ?_
      · rintro kk y σ' H2' H2 hkk ⟨s2, ⟨rows, R, I⟩, v3, v4, v5, v6, v7, rfl⟩ ⟨rfl, hy⟩
        obtain ⟨wd, ew, rfl⟩ := WW.Ss_get hy
        have mw := List.mem_of_getElem? ew
        have wne := ok.ne wd mw
        have wz := ok.sz wd mw
        have w1 : 0 < wd.length := List.length_pos_iff.mpr wne
        have kl : kk < ws.length := (List.getElem?_eq_some_iff.mp ew).1
        have bnd : ∀ j, WW.Hit l j wd → j + wd.length ≤ l.length := fun j h => h.bound wne
        have K1 : (kk + 1) * (l.length + 1) = kk * (l.length + 1) + (l.length + 1) := Nat.succ_mul _ _
        have Kb : (kk + 1) * (l.length + 1) ≤ 1000 * 1001 := Nat.mul_le_mul (Nat.le_trans kl ok.many) (by omega)
        generalize hM : kk * (l.length + 1) = M at *
        walk_at "tx"
        refine ⟨RD.tyS, ?_⟩
        walk_at "tx"
        refine RD.d_find1 wne (fun v nx => ?_)
        walk_at "tx"
        have start : ∀ (lo : Nat) (rows : Nat → List Nat) (v : Int), WW.Nx l wd lo v → lo ≤ l.length + 1 → WW.LkJ rows (WW.LkG ws l kk lo) ws.Nodup (M + lo) →
            ∃ lo', lo ≤ lo' ∧ WW.LkJ rows (WW.LkG ws l kk lo') ws.Nodup (M + lo') ∧ ((v = lo' ∧ WW.Hit l lo' wd ∧ lo' ≤ l.length) ∨ (v = -1 ∧ lo' = l.length + 1)) := by
          rintro lo rows v (⟨i, rfl, h1, h2, h3⟩ | ⟨rfl, h1⟩) hlo I
          · exact ⟨i, h1, I.iff (fun a b => WW.LkG.skip ew h1 h3 a b) (by omega), .inl ⟨rfl, h2, by have := bnd i h2; omega⟩⟩
          · exact ⟨l.length + 1, hlo, I.iff (fun a b => WW.LkG.skip ew hlo (fun j j1 _ => h1 j j1) a b) (by omega), .inr ⟨rfl, rfl⟩⟩
        obtain ⟨lo, h0lo, I, hv⟩ := start 0 rows v nx (Nat.zero_le _) (I.iff (fun _ _ => Iff.rfl) (Nat.le_refl _))
        refine ⟨fun m σ' H' => ∃ (lo : Nat) (rows : Nat → List Nat) (v : Int), m = l.length + 1 - lo ∧ Same H H' ∧ RowsX H H' D (l.length + 1) rows ∧ WW.LkJ rows (WW.LkG ws l kk lo) ws.Nodup (M + lo) ∧ ((v = lo ∧ WW.Hit l lo wd ∧ lo ≤ l.length) ∨ (v = -1 ∧ lo = l.length + 1)) ∧
          ∃ v6 v7 : Option V, σ' = [some (.ref a), some (.str (WW.S l)), some (.ref D), v3, some (.str (WW.S wd)), some (.int v), v6, v7], ⟨_, lo, rows, v, rfl, s2, R, I, hv, v6, v7, rfl⟩, ?_⟩
        rintro m σ' H3 ⟨lo, rows, v, rfl, s3, R, I, hv, v6, v7, rfl⟩
        walk_at "tx"
        rcases hv with ⟨rfl, hit, hlo⟩ | ⟨rfl, rfl⟩
        · rw [decide_eq_true (by omega : (lo : Int) ≥ 0)]
          refine RD.d_iteT ?_
          have hb := bnd lo hit
          have n1 : ws.Nodup → ¬ WW.LkG ws l kk lo lo (lo + wd.length) := fun nd => (WW.LkG.new nd ok.ne ew hit).1
          have n2 : ws.Nodup → ¬ WW.LkG ws l kk lo (lo + wd.length) lo := fun nd => (WW.LkG.new nd ok.ne ew hit).2
          have I' := I.add (a := lo) (b := lo + wd.length) (by omega) n1 n2
          have len41 := I.len
          refine ⟨fun σ' H' => ∃ (lo' : Nat) (rows : Nat → List Nat) (v : Int), lo < lo' ∧ Same H H' ∧ RowsX H H' D (l.length + 1) rows ∧ WW.LkJ rows (WW.LkG ws l kk lo') ws.Nodup (M + lo') ∧ ((v = lo' ∧ WW.Hit l lo' wd ∧ lo' ≤ l.length) ∨ (v = -1 ∧ lo' = l.length + 1)) ∧
            ∃ v6 v7 : Option V, σ' = [some (.ref a), some (.str (WW.S l)), some (.ref D), v3, some (.str (WW.S wd)), some (.int v), v6, v7], ?_, ?_⟩
          · rintro σ' H' ⟨lo', rows, v, lt, rest⟩
            exact ⟨_, (by omega : l.length + 1 - lo' < l.length + 1 - lo), lo', rows, v, rfl, rest⟩
          · walk_at "tx"
            refine RD.d_bm ?_
            walk_at "tx"
            refine RowsX.row R (i := lo) (by omega) (by omega) (fun a1 ea Ra sa1 => ?_)
            refine ⟨RD.tyL ea, ?_⟩
            walk_at "tx"
            rw [show ((lo : Int) + wd.length) = ((lo + wd.length : Nat) : Int) from by omega]
            have s24 : 1001 * 1000 + 1001 < sizeLine := by decide
            refine RD.d_app ea (by rw [WW.Ns_len]; have := len41 lo; omega) ?_
            rw [WW.Ns_app]
            replace Ra := Ra (lo + wd.length)
            have ga := sa1 (.lst (Ns (rows lo ++ [lo + wd.length]))) s3
            generalize upd H3 a1 (.lst (Ns (rows lo ++ [lo + wd.length]))) = H4 at *
            walk_at "tx"
            refine RD.d_bm ?_
            walk_at "tx"
            refine RowsX.row Ra (i := lo + wd.length) (by omega) (by omega) (fun a2 ea2 Ra2 sa2 => ?_)
            refine ⟨RD.tyL ea2, ?_⟩
            walk_at "tx"
            have e2 : WW.push rows lo (lo + wd.length) (lo + wd.length) = rows (lo + wd.length) := if_neg (by omega)
            refine RD.d_app ea2 (by rw [WW.Ns_len, e2]; have := len41 (lo + wd.length); omega) ?_
            rw [WW.Ns_app]
            have ga2 := sa2 (.lst (Ns (WW.push rows lo (lo + wd.length) (lo + wd.length) ++ [lo]))) ga
            replace Ra2 := Ra2 lo
            generalize upd H4 a2 (.lst (Ns (WW.push rows lo (lo + wd.length) (lo + wd.length) ++ [lo]))) = H5 at *
            walk_at "tx"
            refine ⟨RD.tyS, ?_⟩
            walk_at "tx"
            refine RD.d_find2 wne (show ((lo : Int) + 1) = ((lo + 1 : Nat) : Int) from by omega) (fun v nx => ?_)
            obtain ⟨lo', h1, I2, hv⟩ := start (lo + 1) _ v nx (by omega) (I'.iff (fun i j => WW.LkG.hit ew hit i j) (Nat.le_refl _))
            walk_at "tx"
            exact ⟨lo', _, v, h1, ga2, Ra2, I2, hv, _, _, rfl⟩
        · refine RD.iteD (fun c => absurd c (by omega)) (fun _ => ?_)
          rw [K1]
          refine ⟨s3, ⟨rows, R, I.iff (fun i j => WW.LkG.next ew (fun j j1 z => by have := bnd j z; omega)) (Nat.le_refl _)⟩, _, _, _, _, _, rfl⟩
      · rintro σ' H2 ⟨s2, ⟨rows, R, I⟩, v3, v4, v5, v6, v7, rfl⟩
        rw [WW.Ss_len] at I
        walk_at "tx"
        replace I := I.iff (fun i j => (WW.LkG.all (i := i) (j := j)).symm) (Nat.le_refl _)
        obtain ⟨rs, h1, h2, h3, h4, h5, h6⟩ := R
        refine ⟨D, rfl, ⟨_, SqL.of h5⟩, fun D2 hD2 => ?_⟩
        have hD2' := s2.free hD2
        refine lc_list (K := K) (a := D) (xs := rs.map V.ref) (fun i H' => Same H2 H' ∧ ∃ (qs : List Addr) (out : Nat → List Nat), qs.length = i ∧ H' D2 = some (.lst (qs.map V.ref)) ∧ (D2 ∉ qs ∧ ∀ q ∈ qs, H2 q = none) ∧
            (∀ (j : Nat) (a : Addr), qs[j]? = some a → H' a = some (.lst (Ns (out j)))) ∧ ∀ j, j < i → (out j).Perm (rows j) ∧ (out j).Pairwise (· ≤ ·))
          ⟨same_upd hD2, [], fun _ => [], rfl, upd_same, ⟨(fun z => nomatch z), (fun _ z => nomatch z)⟩, (fun _ _ z => nomatch z), fun _ z => nomatch z⟩ ?_ ?_ ?_
        · rintro i H' _ ⟨s3, _⟩
          exact SqL.of (s3 _ _ h5)
        · rintro i y H' hi ⟨s3, qs, out, g1, g2, g3, g4, g5⟩
          rw [List.getElem?_map] at hi
          cases ea : rs[i]? with
          | none => rw [ea] at hi; cases hi
          | some a =>
            rw [ea] at hi
            cases hi
            have il : i < l.length + 1 := by have := (List.getElem?_eq_some_iff.mp ea).1; omega
            have ra := s3 _ _ (h6 i a ea)
            walk_at "tx"
            refine ⟨a, (rows i).map fun (j : Nat) => (j : Int), rfl, SqL.of (by rw [ra]; unfold Ns; rw [List.map_map]; rfl), fun ns p pm so hp => ?_⟩
            obtain ⟨q, rfl, mq, uq⟩ := WW.sorted_natsG pm so
            have np : p ≠ D2 := (ne_of_none g2 hp).symm
            refine ⟨qs.map V.ref, by rw [upd_ne np.symm]; exact g2, by rw [List.length_map, g1]; exact Nat.lt_of_lt_of_le il (Nat.le_trans (by omega : l.length + 1 ≤ 1001) (by decide)), fun b u e => ?_, qs ++ [p], (fun j => if j = i then q else out j), by rw [List.length_append, g1]; rfl, ?_, ?_, ?_, ?_⟩
            · have := s3 _ _ e
              rw [upd_ne (ne_of_none e hD2), upd_ne (ne_of_none this hp)]; exact this
            · rw [upd_same, List.map_append]; rfl
            · refine ⟨fun m => ?_, fun b m => ?_⟩
              · rcases List.mem_append.mp m with m | m
                · exact g3.1 m
                · exact np (List.mem_singleton.mp m).symm
              · rcases List.mem_append.mp m with m | m
                · exact g3.2 b m
                · rw [List.mem_singleton.mp m]; exact s3.free hp
            · intro j b e
              by_cases c : j = i
              · subst c
                rw [List.getElem?_append_right (by omega), g1, Nat.sub_self] at e
                cases e
                rw [upd_ne np, upd_same]
                simp only [if_pos]
                unfold Ns
                rw [List.map_map]; rfl
              · have jl : j < qs.length := by
                  have := (List.getElem?_eq_some_iff.mp e).1
                  rw [List.length_append, List.length_singleton] at this; omega
                rw [List.getElem?_append_left jl] at e
                have nb : b ≠ D2 := fun z => g3.1 (z ▸ List.mem_of_getElem? e)
                rw [upd_ne nb, upd_ne (ne_of_none (g4 j b e) hp)]
                simp only [if_neg c]
                exact g4 j b e
            · intro j jl
              by_cases c : j = i
              · subst c
                simp only [if_pos]
                exact ⟨mq, uq⟩
              · simp only [if_neg c]
                exact g5 j (by omega)
        · rintro H' ⟨s3, qs, out, g1, g2, g3, g4, g5⟩
          rw [List.length_map, h1] at g1 g5
          refine k H' D2 (fun j => if j < l.length + 1 then out j else []) (s2.trans s3) ⟨hD2', fun rs' e a m => ?_⟩ ⟨qs, g1, g2, fun i a e => ?_⟩ ⟨fun i j => ?_, fun i => ?_, fun nd i => ?_⟩
          · rw [g2] at e
            have e' : qs.map V.ref = rs'.map V.ref := (HO.lst.inj (Option.some.inj e))
            have m' : V.ref a ∈ rs'.map V.ref := List.mem_map.mpr ⟨a, m, rfl⟩
            rw [← e'] at m'
            obtain ⟨q, mq, eq⟩ := List.mem_map.mp m'
            cases eq
            exact s2.free (g3.2 _ mq)
          · have c : i < l.length + 1 := by have := (List.getElem?_eq_some_iff.mp e).1; omega
            simp only [if_pos c]
            exact g4 i a e
          · by_cases c : i < l.length + 1
            · simp only [if_pos c]
              rw [(g5 i c).1.mem_iff, I.mem]
            · simp only [if_neg c]
              exact ⟨fun z => (nomatch z), fun z => by have := (WW.Link.le ok.ne z).1; omega⟩
          · by_cases c : i < l.length + 1
            · simp only [if_pos c]; exact (g5 i c).2
            · simp only [if_neg c]; exact .nil
          · by_cases c : i < l.length + 1
            · simp only [if_pos c]; exact (g5 i c).1.nodup_iff.mpr (I.nd nd i)
            · simp only [if_neg c]; exact .nil
end

open WW (Ns)
def spLinks (K : PySem.W.Frag) (C : Addr) : Sp := fun vs H Q _ => ∃ (x : Addr) (ws : List WW.Wd) (l : WW.Wd), vs = [.ref x, .str (WW.S l)] ∧ BookAt K C H x ws ∧ Okw ws ∧ IsW 40 l ∧
  ∀ H' L rows, Same H H' → (H L = none ∧ ∀ rs : List Addr, H' L = some (.lst (rs.map V.ref)) → ∀ a ∈ rs, H a = none) → RowsAt H' L (l.length + 1) rows → Lks ws l rows → Q (.ref L) H'
section
variable {P : Program} {w : World} {K : PySem.W.Frag} {mg : Str → Option Value} {base : Heap}
theorem ok_links_of (T : Top K mg) : FnOk P w K mg base CX0 2 T.f_links_of T.fd_links_of ["book", "word"] (spLinks K T.C_Book) := by
  refine T.F_links_of.ok sc_links_of (fun vs H Q E h => ?_) (fun cdv A outer s H vs Q E hr h => ?_)
  · obtain ⟨x, ws, l, rfl, _⟩ := h; rfl
  · obtain ⟨x, ws, l, rfl, ⟨dx, t, ex, sq⟩, ok, hl, k⟩ := h
    refine ⟨_, (pss_one (ps_ret (pe_call (ok_links_through T) (hr.mono (by decide)) (by rfl) T.g_links_through T.F_links_through.kp T.b_links_through .nil pass0 (pa_cons (pe_fld (pv 0) (by rfl)) (pa_cons (pv 1) pa_nil))))), ?_⟩
    walk_at "tx"
    refine ⟨x, T.C_Book, dx, _, _, rfl, ex, T.cl_Book, T.na_Book_watches, lk_eq, ?_⟩
    walk_at "tx"
    refine ⟨t, ws, l, rfl, .inr sq, ok.pieces hl, fun H' L rows s1 f R g => k H' L rows s1 f R (g.strict ok.nd)⟩
end

/-! ### the steps to a spot -/
open WW (Ns)
theorem d_disp {trs : List (TE × TE)} {σ : L2.St} {H : Hp} {Q : VK} (h : ∀ p, H p = none → tPairs trs σ (upd H p (.dK [])) fun ps H2 => H2 p = some (.dK []) ∧ ∃ kvs : List (Key × V), ps = kvs.map (fun kv => (kV kv.1, kv.2)) ∧ kvs.length ≤ 15 ∧ Q (.ref p) (upd H2 p (.dK (mergeK [] kvs)))) : tDisp trs σ H Q := h
def spSteps (K : PySem.W.Frag) : Sp := fun vs H Q _ => ∃ (L : Addr) (n g : Nat) (rows : Nat → List Nat), vs = [.ref L, .int g] ∧ RowsAt H L n rows ∧ (∀ i j, j ∈ rows i → j < n) ∧ g < n ∧ n ≤ 41 ∧
  ∀ H' d ps, Same H H' → H d = none → H' d = some (.dK (WW.Dk ps)) → (∀ v r, WW.look ps v = some r ↔ WW.Ds (fun i j => j ∈ rows i) g r v) → (ps.map (·.1)).Nodup → Q (.ref d) H'
theorem RowsAt.ix {K : PySem.W.Frag} {H0 H : Hp} {L : Addr} {n i : Nat} {rows : Nat → List Nat} {iv : Int} {Q : VK} (h : RowsAt H0 L n rows) (s : Same H0 H) (hi : i < n) (e : iv = i) (k : ∀ a, H0 a = some (.lst (Ns (rows i))) → Q (.ref a) H) : rIxL K (.ref L) (.int iv) H Q := by
  subst e
  obtain ⟨rs, h1, h2, h3⟩ := h
  have il : i < rs.length := by rw [h1]; exact hi
  have ea : rs[i]? = some rs[i] := List.getElem?_eq_getElem il
  exact RD.d_ixL (SqL.of (s _ _ h2)) (atI_nat (by rw [List.getElem?_map, ea]; rfl)) (k _ (h3 i _ ea))
section
variable {P : Program} {w : World} {K : PySem.W.Frag} {mg : Str → Option Value} {base : Heap}
theorem ok_steps_to (T : Top K mg) : FnOk P w K mg base CX0 1 T.f_steps_to T.fd_steps_to ["links", "goal"] (spSteps K) := by
  refine T.F_steps_to.ok sc_steps_to (fun vs H Q E h => ?_) (fun cdv A outer s H vs Q E hr h => ?_)
  · obtain ⟨L, n, g, rows, rfl, _⟩ := h; rfl
  · obtain ⟨L, n, g, rows, rfl, R, lt, hg, n41, k⟩ := h
    refine ⟨_, (pss_cons (ps_set (i := 2) sc_steps_to.nd rfl (Or.inl rfl) (pe_disp (pps_cons (pv 1) pe_int pps_nil) (by rfl) (by rfl) (by simp) (by decide)))
 (pss_cons (ps_set (i := 3) sc_steps_to.nd rfl (Or.inl rfl) (pe_lst (pa_cons (pv 1) pa_nil)))
 (pss_cons (ps_while PassesOwn.never (pt_truth (pv 3) (fun _ => rfl))
 (pss_cons (ps_set (i := 4) sc_steps_to.nd rfl (Or.inl rfl) (pe_lst pa_nil))
 (pss_cons (ps_for PassesOwn.never rfl (pi_list (pv 3)) (pg_name (i := 5) sc_steps_to.nd rfl (Or.inl rfl))
 (pss_one (ps_for PassesOwn.never rfl (pi_list (pe_ix ix_list (pv 0) (pv 5) (fun _ _ => rfl))) (pg_name (i := 6) sc_steps_to.nd rfl (Or.inl rfl))
 (pss_one (ps_if (pt_cmp (pc_dnotin (hu_of hr) (pv 6) (pv 2)))
 (pss_cons (ps_dput (hu_of hr) (pv 2) (pv 6) (pe_op op_add (pe_dget (hu_of hr) (pv 2) (pv 5) (fun _ _ => rfl)) pe_int) rfl)
 (pss_one (ps_expr (pe_bm PySem.F.plainAttrs_list PySem.F.slot_list_append PySem.F.type_list_append mt_append (pv 4) (pa_cons (pv 6) pa_nil)))))
 pss_nil)))))
 (pss_one (ps_set (i := 3) sc_steps_to.nd rfl (Or.inl rfl) (pv 4))))))
 (pss_one (ps_ret (pv 2)))))), ?_⟩
    walk_at "tx"
    refine d_disp (fun d hd => ?_)
    refine ⟨_, rfl, upd_same, [(Sum.inl (g : Int), .int 0)], rfl, (by show 1 ≤ 15; decide), ?_⟩
    rw [upd_upd, show mergeK [] [(Sum.inl (g : Int), V.int 0)] = WW.Dk [(g, 0)] from rfl]
    have s1 := same_upd (o := HO.dK (WW.Dk [(g, 0)])) hd
    have e1 : upd H d (.dK (WW.Dk [(g, 0)])) d = some (.dK (WW.Dk [(g, 0)])) := upd_same
    generalize upd H d (.dK (WW.Dk [(g, 0)])) = H1 at *
    walk_at "tx"
    refine ⟨by show 1 ≤ sizeLine; decide, fun fa hfa => ?_⟩
    have s2 := s1.trans (same_upd (o := HO.lst [V.int (g : Nat)]) hfa)
    have e2 : upd H1 fa (.lst [V.int (g : Nat)]) d = some (.dK (WW.Dk [(g, 0)])) := by rw [upd_ne (ne_of_none e1 hfa)]; exact e1
    have e3 : upd H1 fa (.lst [V.int (g : Nat)]) fa = some (.lst (Ns [g])) := upd_same
    generalize upd H1 fa (.lst [V.int (g : Nat)]) = H2 at *
    walk_at "tx"
    let E : Nat → Nat → Prop := fun i j => j ∈ rows i
    refine ⟨fun m σ' H' => ∃ r ps ring fa, m = (n - ps.length) + (if ring = [] then 0 else 1) ∧ Same H H' ∧ H' d = some (.dK (WW.Dk ps)) ∧ H' fa = some (.lst (Ns ring)) ∧ WW.Bo E g n r ps ring ∧ ∃ v4 v5 v6 : Option V, σ' = [some (.ref L), some (.int g), some (.ref d), some (.ref fa), v4, v5, v6],
      ⟨_, 0, [(g, 0)], [g], fa, rfl, s2, e2, e3, WW.Bo.zero hg, none, none, none, rfl⟩, ?_⟩
    clear e3 e2 s2 hfa e1 s1 H2 H1 fa
    rintro m σ' H' ⟨r, ps, ring, fa, rfl, s1, e1, e2, B, v4, v5, v6, rfl⟩
    walk_at "tx"
    refine ⟨_, .inl ⟨_, SqL.of e2, rfl⟩, ?_⟩
    have er : (Ns ring).isEmpty = ring.isEmpty := by cases ring <;> rfl
    rw [er]
    cases ring with
    | nil =>
      refine RD.d_iteF ?_
      walk_at "tx"
      exact k H' d ps s1 hd e1 B.end_ B.nd
    | cons r0 rr =>
      refine RD.d_iteT ?_
      have rne : ¬ (r0 :: rr = []) := by simp
      generalize hring : r0 :: rr = ring at *
      clear hring er
      refine ⟨fun σ' H' => ∃ ps' far fb, (n - ps'.length) + (if far = [] then 0 else 1) < (n - ps.length) + (if ring = [] then 0 else 1) ∧ Same H H' ∧ H' d = some (.dK (WW.Dk ps')) ∧ H' fb = some (.lst (Ns far)) ∧ WW.Bo E g n (r + 1) ps' far ∧ ∃ v4 v5 v6 : Option V, σ' = [some (.ref L), some (.int g), some (.ref d), some (.ref fb), v4, v5, v6], ?_, ?_⟩
      · rintro σ' H' ⟨ps', far, fb, lt', h1, h2, h3, h4, v4, v5, v6, rfl⟩
        exact ⟨_, lt', r + 1, ps', far, fb, rfl, h1, h2, h3, h4, v4, v5, v6, rfl⟩
      · walk_at "tx"
        refine ⟨by show 0 ≤ sizeLine; decide, fun fb hfb => ?_⟩
        have hfb0 := s1.free hfb
        have nbd : d ≠ fb := ne_of_none e1 hfb
        have nba : fa ≠ fb := ne_of_none e2 hfb
        have nad : fa ≠ d := fun z => by subst z; rw [e1] at e2; cases e2
        have s2 : Same H (upd H' fb (.lst [])) := s1.trans (same_upd hfb)
        have f1 : upd H' fb (.lst []) d = some (.dK (WW.Dk ps)) := by rw [upd_ne nbd]; exact e1
        have f2 : upd H' fb (.lst []) fa = some (.lst (Ns ring)) := by rw [upd_ne nba]; exact e2
        have f3 : upd H' fb (.lst []) fb = some (.lst (Ns [])) := upd_same
        generalize upd H' fb (.lst []) = H2 at *
        walk_at "tx"
        refine RD.f_list (K := K) (a := fa) (xs := Ns ring) (fun a σ' H' => Same H H' ∧ H' fa = some (.lst (Ns ring)) ∧ (∃ ps' far, H' d = some (.dK (WW.Dk ps')) ∧ H' fb = some (.lst (Ns far)) ∧ ps'.length = ps.length + far.length ∧ WW.Bf E g n r ps' far (fun v => ∃ i, i < a ∧ ∃ u, ring[i]? = some u ∧ E u v)) ∧
            ∃ v5 v6 : Option V, σ' = [some (.ref L), some (.int g), some (.ref d), some (.ref fa), some (.ref fb), v5, v6])
          ⟨s2, f2, ⟨ps, [], f1, f3, rfl, B.begin.iff fun v => by simp⟩, v5, v6, rfl⟩ ?_ ?_ ?_
        · rintro a σ' H' _ ⟨_, q, _⟩
          exact SqL.of q
        · rintro a y σ' H3 hy ⟨s3, g2, ⟨ps', far, g1, g3, gl, C⟩, v5, v6, rfl⟩
          obtain ⟨u, hu, rfl⟩ := WW.Ns_get hy
          have du : WW.Ds E g r u := (B.ring u).mp (List.mem_of_getElem? hu)
          have un : u < n := by
            have := C.here du
            obtain ⟨p, mp, rfl⟩ : ∃ p ∈ ps', p.1 = u := by
              have : ¬ u ∉ ps'.map (·.1) := fun z => by rw [WW.look_none.mpr z] at this; cases this
              obtain ⟨p, mp, e⟩ := List.mem_map.mp (Classical.not_not.mp this)
              exact ⟨p, mp, e⟩
            exact C.lt p mp
          walk_at "tx"
          refine RowsAt.ix R s3 un rfl (fun ra hra0 => ?_)
          have hra := s3 _ _ hra0
          refine ⟨ra, rfl, ⟨_, SqL.of hra⟩, ?_⟩
          have nrd : ra ≠ d := ne_of_none hra0 hd
          have nrb : ra ≠ fb := ne_of_none hra0 hfb0
          refine RD.f_list (K := K) (a := ra) (xs := Ns (rows u)) (fun b σ' H' => Same H H' ∧ H' fa = some (.lst (Ns ring)) ∧ H' ra = some (.lst (Ns (rows u))) ∧ (∃ ps' far, H' d = some (.dK (WW.Dk ps')) ∧ H' fb = some (.lst (Ns far)) ∧ ps'.length = ps.length + far.length ∧
                WW.Bf E g n r ps' far (fun v => (∃ i, i < a ∧ ∃ u, ring[i]? = some u ∧ E u v) ∨ ∃ j, j < b ∧ (rows u)[j]? = some v)) ∧
              ∃ v6 : Option V, σ' = [some (.ref L), some (.int g), some (.ref d), some (.ref fa), some (.ref fb), some (.int u), v6])
            ⟨s3, g2, hra, ⟨ps', far, g1, g3, gl, C.iff fun v => by simp⟩, v6, rfl⟩ ?_ ?_ ?_
          · rintro b σ' H' _ ⟨_, _, q, _⟩
            exact SqL.of q
          · rintro b y σ' H4 hy ⟨s4, i2, ira, ⟨ps2, far2, i1, i3, il, D⟩, v6, rfl⟩
            obtain ⟨v, hv, rfl⟩ := WW.Ns_get hy
            have ev : E u v := List.mem_of_getElem? hv
            have seen : ∀ w, ((∃ i, i < a ∧ ∃ u, ring[i]? = some u ∧ E u w) ∨ ∃ j, j < b + 1 ∧ (rows u)[j]? = some w) ↔ ((∃ i, i < a ∧ ∃ u, ring[i]? = some u ∧ E u w) ∨ ∃ j, j < b ∧ (rows u)[j]? = some w) ∨ w = v := fun w => by
              constructor
              · rintro (z | ⟨j, jl, ej⟩)
                · exact .inl (.inl z)
                · by_cases c : j = b
                  · subst c; rw [hv] at ej; cases ej; exact .inr rfl
                  · exact .inl (.inr ⟨j, by omega, ej⟩)
              · rintro ((z | ⟨j, jl, ej⟩) | rfl)
                · exact .inl z
                · exact .inr ⟨j, by omega, ej⟩
                · exact .inr ⟨b, by omega, hv⟩
            walk_at "tx"
            refine ⟨d, _, rfl, DGet.k (k := Sum.inl (v : Int)) i1, _, rfl, ?_⟩
            rw [WW.valV_Dk]
            cases ev2 : WW.look ps2 v with
            | some dd =>
              refine RD.d_iteF ?_
              walk_at "tx"
              exact ⟨s4, i2, ira, ⟨ps2, far2, i1, i3, il, (D.old (by rw [ev2]; simp)).iff seen⟩, _, rfl⟩
            | none =>
              refine RD.d_iteT ?_
              have len2 := D.len
              have sz : ps2.length < sizeLine := Nat.lt_of_le_of_lt (Nat.le_trans len2 n41) (by decide)
              have nbd' : fb ≠ d := nbd.symm
              walk_at "tx"
              refine RD.d_dput ?_
              walk_at "tx"
              refine ⟨d, _, rfl, .inl ⟨WW.Dk ps2, Sum.inl (u : Int), .inl i1, rfl, by rw [WW.valV_Dk, D.here du]; rfl⟩, ?_⟩
              walk_at "tx"
              refine ⟨d, _, rfl, DPut.k (k := Sum.inl (v : Int)) i1 (by unfold WW.Dk; rw [List.length_map]; exact sz), ?_⟩
              rw [show V.int ((r : Int) + 1) = V.int ((r + 1 : Nat) : Int) from rfl, WW.Dk_put ev2]
              have s5 : Same H (upd H4 d (.dK (WW.Dk (ps2 ++ [(v, r + 1)])))) := fun b o e => by rw [upd_ne (ne_of_none e hd)]; exact s4 _ _ e
              have j1 : upd H4 d (.dK (WW.Dk (ps2 ++ [(v, r + 1)]))) d = some (.dK (WW.Dk (ps2 ++ [(v, r + 1)]))) := upd_same
              have j2 : upd H4 d (.dK (WW.Dk (ps2 ++ [(v, r + 1)]))) fa = some (.lst (Ns ring)) := by rw [upd_ne nad]; exact i2
              have j3 : upd H4 d (.dK (WW.Dk (ps2 ++ [(v, r + 1)]))) fb = some (.lst (Ns far2)) := by rw [upd_ne nbd']; exact i3
              have j4 : upd H4 d (.dK (WW.Dk (ps2 ++ [(v, r + 1)]))) ra = some (.lst (Ns (rows u))) := by rw [upd_ne nrd]; exact ira
              generalize upd H4 d (.dK (WW.Dk (ps2 ++ [(v, r + 1)]))) = H5 at *
              walk_at "tx"
              refine ⟨RD.tyL j3, ?_⟩
              walk_at "tx"
              refine RD.d_app j3 (by rw [WW.Ns_len]; omega) ?_
              rw [WW.Ns_app]
              refine ⟨fun b o e => by rw [upd_ne (ne_of_none e hfb0)]; exact s5 _ _ e, by rw [upd_ne nba]; exact j2, by rw [upd_ne nrb]; exact j4, ⟨_, _, by rw [upd_ne nbd]; exact j1, upd_same, ?_, (D.new du ev (lt _ _ ev) ev2).iff seen⟩, _, rfl⟩
              rw [List.length_append, List.length_append, il]; simp; omega
          · rintro σ' H4 ⟨s4, i2, ira, ⟨ps2, far2, i1, i3, il, D⟩, v6, rfl⟩
            refine ⟨s4, i2, ⟨ps2, far2, i1, i3, il, D.iff fun w => ?_⟩, _, _, rfl⟩
            rw [WW.Ns_len]
            constructor
            · rintro ⟨i, il', z, ez, q⟩
              by_cases c : i = a
              · subst c
                rw [hu] at ez; cases ez
                obtain ⟨j, hj⟩ := List.getElem?_of_mem q
                exact .inr ⟨j, (List.getElem?_eq_some_iff.mp hj).1, hj⟩
              · exact .inl ⟨i, by omega, z, ez, q⟩
            · rintro (⟨i, il', z, ez, q⟩ | ⟨j, jl, ej⟩)
              · exact ⟨i, by omega, z, ez, q⟩
              · exact ⟨a, by omega, u, hu, List.mem_of_getElem? ej⟩
        · rintro σ' H3 ⟨s3, g2, ⟨ps', far, g1, g3, gl, C⟩, v5, v6, rfl⟩
          rw [WW.Ns_len] at C
          have lenp := C.len
          walk_at "tx"
          refine ⟨ps', far, fb, ?_, s3, g1, g3, C.done B.ring (fun u v mu e => ?_), _, _, _, rfl⟩
          · rw [if_neg rne]
            by_cases c : far = []
            · subst c
              rw [if_pos rfl]
              simp at gl
              omega
            · rw [if_neg c]
              have : 0 < far.length := List.length_pos_iff.mpr c
              omega
          · obtain ⟨i, hi⟩ := List.getElem?_of_mem mu
            exact ⟨i, (List.getElem?_eq_some_iff.mp hi).1, u, hi, e⟩
end

/-! ### words drawn letter by letter -/
theorem alpha_lit : (Str.ofString "abcdefghijklmnopqrstuvwxyz") = WW.S (List.range' 97 26) := WW.alpha_S
theorem nil_lit : (Str.ofString "") = WW.S [] := by decide +kernel
theorem But.trans {h : Addr} {H H1 H2 : Hp} (a : But h H H1) (b : But h H1 H2) : But h H H2 := fun c n => (b c n).trans (a c n)
theorem But.kp {h : Addr} {H H' : Hp} (b : But h H H') : Kx h H H' := fun c o n e => by rw [b c n]; exact e
theorem TapeAt.same {H H' : Hp} {h c : Addr} (x : TapeAt H h c) (s : Same H H') : TapeAt H' h c := by
  obtain ⟨cs, p, q, m, n, e1, e2, ne, hp⟩ := x
  exact ⟨cs, p, q, m, n, s _ _ e1, s _ _ e2, ne, hp⟩
theorem TapeAt.free {H : Hp} {h c p : Addr} (x : TapeAt H h c) (hp : H p = none) : p ≠ h ∧ p ≠ c := by
  obtain ⟨cs, p1, q, m, n', e1, e2, ne, hp1⟩ := x
  exact ⟨(ne_of_none e1 hp).symm, (ne_of_none e2 hp).symm⟩
theorem TapeAt.upd {H : Hp} {h c p : Addr} {o : HO} (x : TapeAt H h c) (n : p ≠ h) (m : p ≠ c) : TapeAt (upd H p o) h c := by
  obtain ⟨cs, p1, q, m1, n', e1, e2, ne, hp⟩ := x
  exact ⟨cs, p1, q, m1, n', by rw [upd_ne n.symm]; exact e1, by rw [upd_ne m.symm]; exact e2, ne, hp⟩
theorem Kx.fresh {h p : Addr} {H H' : Hp} {o : HO} (k : Kx h H H') (hp : H p = none) : Kx h H (L2.upd H' p o) := fun b u n e => by
  rw [upd_ne (ne_of_none e hp)]; exact k b u n e
/-- what is new behind H is new to H -/
theorem Kx.free {h p : Addr} {H H' : Hp} (k : Kx h H H') (n : p ≠ h) (hp : H' p = none) : H p = none := by
  cases e : H p with
  | none => rfl
  | some o => rw [k p o n e] at hp; cases hp
theorem log2_lt {i : Int} (k : i.natAbs < 1000000) : i.natAbs.log2 < 9000 := by
  by_cases z : i.natAbs = 0
  · rw [z]; decide
  · exact Nat.lt_trans ((Nat.log2_lt z).mpr (Nat.lt_trans k (by decide : 1000000 < 2 ^ 64))) (by decide)
def spLets : Sp := fun vs H Q _ => ∃ (h c : Addr) (n : Nat), vs = [.ref h, .int n] ∧ TapeAt H h c ∧ n ≤ 100 ∧
  ∀ (p : Addr) (ls : List WW.Wd) (H' : Hp), TapeAt H' h c → Kx h H H' → H p = none → p ≠ h → H' p = some (.lst (WW.Ss ls)) → WW.Ones ls → ls.length = n → Q (.ref p) H'
def spWrd : Sp := fun vs H Q _ => ∃ (h c : Addr) (most : Nat), vs = [.ref h, .int most] ∧ TapeAt H h c ∧ 1 ≤ most ∧ most ≤ 100 ∧
  ∀ (l : WW.Wd) (H' : Hp), TapeAt H' h c → Kx h H H' → IsW most l → Q (.str (WW.S l)) H'
def spWtc : Sp := fun vs H Q _ => ∃ (h c : Addr) (w : WW.Wd) (m most : Nat), vs = [.ref h, .str (WW.S w), .int most] ∧ TapeAt H h c ∧ 1 ≤ most ∧ most ≤ 100 ∧ IsW m w ∧ m ≤ 100 ∧
  ∀ (l : WW.Wd) (H' : Hp), TapeAt H' h c → Kx h H H' → IsW most l → Q (.str (WW.S l)) H'
section
variable {P : Program} {w : World} {K : PySem.W.Frag} {mg : Str → Option Value} {base : Heap}
theorem ok_law_letters (T : Top K mg) : FnOk P w K mg base CX0 3 T.f_law_letters T.fd_law_letters ["tape", "many"] spLets := by
  refine T.F_law_letters.ok sc_law_letters (fun vs H Q E h => ?_) (fun cdv A outer s H vs Q E hr h => ?_)
  · obtain ⟨h, c, n, rfl, _⟩ := h; rfl
  · obtain ⟨h, c, n, rfl, hT, n9, k⟩ := h
    refine ⟨_, (pss_cons (ps_set (i := 2) sc_law_letters.nd rfl (Or.inr rfl) (pe_call (ok_law_pick T) (hr.mono (by decide)) (by rfl) T.g_law_pick T.F_law_pick.kp T.b_law_pick .nil pass0 (pa_cons (pv 0) (pa_cons pe_int pa_nil))))
 (pss_cons (ps_set (i := 3) sc_law_letters.nd rfl (Or.inr rfl) (pe_ix ix_list (pe_lst (pa_cons pe_int (pa_cons pe_int (pa_cons pe_int (pa_cons pe_int (pa_cons pe_int (pa_cons pe_int pa_nil))))))) (pe_call (ok_law_pick T) (hr.mono (by decide)) (by rfl) T.g_law_pick T.F_law_pick.kp T.b_law_pick .nil pass0 (pa_cons (pv 0) (pa_cons pe_int pa_nil))) (fun _ _ => rfl)))
 (pss_one (ps_ret (pe_lc (own := [("k", 4)]) (g := (gName 4)) (tt := tYes) rfl sc_law_letters.nd (pi_range1 (by rfl) T.n_range (pa_cons (pv 1) pa_nil)) (blkOk_by (own := [("k", 4)]) (N := ["tape", "many", "start", "step", "k"]) (sc := defScope s_law_letters) (by decide +kernel)) (fun _ _ _ _ _ => (pg_name (i := 4) sc_law_letters.nd rfl (Or.inl rfl))) (fun _ _ _ _ _ => pts_nil) (fun _ _ _ _ _ => (pe_ix ix_str pe_str (pe_op op_mod (pe_callTy RD.c_int (by rfl) T.n_int (by decide +kernel) (pa_cons (pe_op op_add (pv 2) (pe_op op_mul (pv 3) (pv 4))) pa_nil)) pe_int) (fun _ _ => rfl)))))))), ?_⟩
    rw [alpha_lit]
    walk_at "tx"
    refine ⟨h, c, 26, rfl, hT, by decide, log2_lt (by decide), fun r0 H1 a0 b0 hT1 k1 => ?_⟩
    walk_at "tx"
    refine ⟨by show 6 ≤ sizeLine; decide, fun q hq => ?_⟩
    have hT2 := hT1.same (same_upd (o := HO.lst [V.int 1, V.int 3, V.int 5, V.int 7, V.int 9, V.int 11]) hq)
    have nq : q ≠ h := (hT1.free hq).1
    have k2 : Kx h H (upd H1 q (.lst [V.int 1, V.int 3, V.int 5, V.int 7, V.int 9, V.int 11])) := k1.kp.trans (Same.kx (same_upd hq))
    have eq : upd H1 q (.lst [V.int 1, V.int 3, V.int 5, V.int 7, V.int 9, V.int 11]) q = some (.lst ([1, 3, 5, 7, 9, 11].map V.int)) := upd_same
    generalize upd H1 q (.lst [V.int 1, V.int 3, V.int 5, V.int 7, V.int 9, V.int 11]) = H2 at *
    walk_at "tx"
    refine ⟨h, c, 6, rfl, hT2, by decide, log2_lt (by decide), fun r1 H3 a1 b1 hT3 k3 => ?_⟩
    obtain ⟨st, est, s0, s1⟩ : ∃ st : Int, atI (([1, 3, 5, 7, 9, 11] : List Int).map V.int) r1 = some (.int st) ∧ 0 ≤ st ∧ st ≤ 17 := by
      obtain ⟨n, rfl⟩ := Int.eq_ofNat_of_zero_le a1
      have : n < 6 := by omega
      match n, this with
      | 0, _ => exact ⟨1, rfl, by decide, by decide⟩
      | 1, _ => exact ⟨3, rfl, by decide, by decide⟩
      | 2, _ => exact ⟨5, rfl, by decide, by decide⟩
      | 3, _ => exact ⟨7, rfl, by decide, by decide⟩
      | 4, _ => exact ⟨9, rfl, by decide, by decide⟩
      | 5, _ => exact ⟨11, rfl, by decide, by decide⟩
    refine RD.d_ixL (SqL.of (by rw [k3 q nq]; exact eq)) est ?_
    have k23 : Kx h H H3 := k2.trans k3.kp
    walk_at "tx"
    refine ⟨_, rfl, by omega, by omega, fun D hD => ?_⟩
    have nD := (hT3.free hD).1
    have hD0 := k23.free nD hD
    rw [show ((n : Int)).toNat = n from by omega]
    refine lc_range (lo := 0) (n := n) (fun i H' => Same H3 H' ∧ ∃ ls : List WW.Wd, ls.length = i ∧ WW.Ones ls ∧ H' D = some (.lst (WW.Ss ls))) ⟨same_upd hD, [], rfl, (fun _ z => nomatch z), upd_same⟩ ?_ ?_
    · rintro i H' il ⟨s2, ls, ll, lo, eD⟩
      walk_at "tx"
      have e0 : 0 ≤ (r0 + st * (0 + (i : Int))) % 26 := Int.emod_nonneg _ (by decide)
      have e1 : (r0 + st * (0 + (i : Int))) % 26 < 26 := Int.emod_lt_of_pos _ (by decide)
      generalize (r0 + st * (0 + (i : Int))) % 26 = y at *
      refine RD.d_ixS (a := y.toNat) (by omega) (by rw [List.length_range']; decide) (WW.alpha_at (by omega)) ?_
      refine ⟨_, eD, by rw [WW.Ss_len, ll]; exact Nat.lt_of_lt_of_le il (Nat.le_trans n9 (by decide)), fun b o e => ?_, ls ++ [[97 + y.toNat]], by rw [List.length_append, ll]; rfl, lo.snoc ⟨by omega, by omega⟩, by rw [upd_same, WW.Ss_app]⟩
      rw [upd_ne (ne_of_none e hD)]; exact s2 _ _ e
    · rintro H' ⟨s2, ls, ll, lo, eD⟩
      walk_at "tx"
      exact k D ls H' (hT3.same s2) (k23.trans (Same.kx s2)) hD0 nD eD lo ll
/-- a comprehension of drawn letters -/
structure Dr (H0 H : Hp) (h c D : Addr) (i : Nat) (ls : List WW.Wd) : Prop where
  t : TapeAt H h c
  k : Kx h H0 H
  e : H D = some (.lst (WW.Ss ls))
  o : WW.Ones ls
  n : ls.length = i
theorem joined {K : PySem.W.Frag} {H : Hp} {D : Addr} {ls : List WW.Wd} {Q : VK} (e : H D = some (.lst (WW.Ss ls))) (o : WW.Ones ls) (n : ls.length ≤ 1000) (k : Q (.str (WW.S ls.flatten)) H) :
    ∃ a p, ∃ ys : List Str, V.str (WW.S []) = .str a ∧ [V.ref D] = [.ref p] ∧ (SqL K H p (ys.map V.str) ∨ SqT K H p (ys.map V.str)) ∧ (ys.map (·.length)).sum + ys.length * a.length ≤ 16777216 ∧ Q (.str (Txt.join a ys)) H :=
  ⟨_, D, ls.map WW.S, rfl, rfl, .inl (SqL.of (by rw [e]; unfold WW.Ss; rw [List.map_map]; rfl)), by rw [o.sum, WW.S_len]; simp; omega, by rw [WW.S_join]; exact k⟩
theorem ok_law_word (T : Top K mg) : FnOk P w K mg base CX0 5 T.f_law_word T.fd_law_word ["tape", "most"] spWrd := by
  refine T.F_law_word.ok sc_law_word (fun vs H Q E h => ?_) (fun cdv A outer s H vs Q E hr h => ?_)
  · obtain ⟨h, c, most, rfl, _⟩ := h; rfl
  · obtain ⟨h, c, most, rfl, hT, m1, m9, k⟩ := h
    refine ⟨_, (pss_cons (ps_set (i := 2) sc_law_word.nd rfl (Or.inl rfl) (pe_op op_add pe_int (pe_call (ok_law_pick T) (hr.mono (by decide)) (by rfl) T.g_law_pick T.F_law_pick.kp T.b_law_pick .nil pass0 (pa_cons (pv 0) (pa_cons (pv 1) pa_nil)))))
 (pss_cons (ps_set (i := 3) sc_law_word.nd rfl (Or.inl rfl) (pe_call (ok_law_pick T) (hr.mono (by decide)) (by rfl) T.g_law_pick T.F_law_pick.kp T.b_law_pick .nil pass0 (pa_cons (pv 0) (pa_cons pe_int pa_nil))))
 (pss_cons (ps_set (i := 4) sc_law_word.nd rfl (Or.inr rfl) (pe_call (ok_law_letters T) (hr.mono (by decide)) (by rfl) T.g_law_letters T.F_law_letters.kp T.b_law_letters .nil pass0 (pa_cons (pv 0) (pa_cons (pe_op op_add pe_int (pe_callB (call_min2 rfl) (by rfl) T.n_min (by decide +kernel) (pa_cons (pv 3) (pa_cons pe_int pa_nil)))) pa_nil))))
 (pss_cons (ps_if (pt_cmpR op_eq (pv 3) pe_int (nomark _))
 (pss_cons (ps_set (i := 5) sc_law_word.nd rfl (Or.inr rfl) (pe_lc (own := [("k", 6)]) (g := (gName 6)) (tt := tYes) rfl sc_law_word.nd (pi_range1 (by rfl) T.n_range (pa_cons (pe_op op_add pe_int (pe_call (ok_law_pick T) (hr.mono (by decide)) (by rfl) T.g_law_pick T.F_law_pick.kp T.b_law_pick .nil pass0 (pa_cons (pv 0) (pa_cons pe_int pa_nil)))) pa_nil)) (blkOk_by (own := [("k", 6)]) (N := ["tape", "most", "size", "kind", "letters", "part", "k"]) (sc := defScope s_law_word) (by decide +kernel)) (fun _ _ _ _ _ => (pg_name (i := 6) sc_law_word.nd rfl (Or.inl rfl))) (fun _ _ _ _ _ => pts_nil) (fun _ _ _ _ _ => (pe_ix (OQ.ixL K) (pv 4) (pe_call (ok_law_pick T) (hr.mono (by decide)) (by rfl) T.g_law_pick T.F_law_pick.kp T.b_law_pick .nil pass0 (pa_cons (pv 0) (pa_cons pe_int pa_nil))) (fun _ _ => rfl)))))
 (pss_one (ps_ret (pe_join pe_str (pe_lc (own := [("k", 6)]) (g := (gName 6)) (tt := tYes) rfl sc_law_word.nd (pi_range1 (by rfl) T.n_range (pa_cons (pv 2) pa_nil)) (blkOk_by (own := [("k", 6)]) (N := ["tape", "most", "size", "kind", "letters", "part", "k"]) (sc := defScope s_law_word) (by decide +kernel)) (fun _ _ _ _ _ => (pg_name (i := 6) sc_law_word.nd rfl (Or.inl rfl))) (fun _ _ _ _ _ => pts_nil) (fun _ _ _ _ _ => (pe_ix (OQ.ixL K) (pv 5) (pe_op op_mod (pe_callTy RD.c_int (by rfl) T.n_int (by decide +kernel) (pa_cons (pv 6) pa_nil)) (pe_callB (OQ.lenK K) (by rfl) T.n_len (by decide +kernel) (pa_cons (pv 5) pa_nil))) (fun _ _ => rfl))))))))
 pss_nil)
 (pss_one (ps_ret (pe_join pe_str (pe_lc (own := [("k", 6)]) (g := (gName 6)) (tt := tYes) rfl sc_law_word.nd (pi_range1 (by rfl) T.n_range (pa_cons (pv 2) pa_nil)) (blkOk_by (own := [("k", 6)]) (N := ["tape", "most", "size", "kind", "letters", "part", "k"]) (sc := defScope s_law_word) (by decide +kernel)) (fun _ _ _ _ _ => (pg_name (i := 6) sc_law_word.nd rfl (Or.inl rfl))) (fun _ _ _ _ _ => pts_nil) (fun _ _ _ _ _ => (pe_ix (OQ.ixL K) (pv 4) (pe_call (ok_law_pick T) (hr.mono (by decide)) (by rfl) T.g_law_pick T.F_law_pick.kp T.b_law_pick .nil pass0 (pa_cons (pv 0) (pa_cons (pe_callB (OQ.lenK K) (by rfl) T.n_len (by decide +kernel) (pa_cons (pv 4) pa_nil)) pa_nil))) (fun _ _ => rfl))))))))))), ?_⟩
    rw [nil_lit]
    walk_at "tx"
    refine ⟨h, c, most, rfl, hT, by omega, log2_lt (by omega), fun r0 H1 a0 b0 hT1 k1 => ?_⟩
    walk_at "tx"
    refine ⟨h, c, 4, rfl, hT1, by decide, log2_lt (by decide), fun kind H2 a1 b1 hT2 k2 => ?_⟩
    walk_at "tx"
    refine ⟨_, _, rfl, ?_⟩
    walk_at "tx"
    have emin : (1 : Int) + (if (2 : Int) < kind then 2 else kind) = ((1 + (min kind.toNat 2) : Nat) : Int) := by split <;> omega
    rw [emin]
    refine ⟨h, c, _, rfl, hT2, by omega, fun p ls H3 hT3 k3 hp np ep lo ll => ?_⟩
    have k03 : Kx h H H3 := (k1.kp.trans k2.kp).trans k3
    have lsn : 1 ≤ ls.length := by omega
    walk_at "tx"
    refine RD.iteD (fun c1 => ?_) (fun c1 => ?_)
    · walk_at "tx"
      refine ⟨h, c, 3, rfl, hT3, by decide, log2_lt (by decide), fun r4 H4 a4 b4 hT4 k4 => ?_⟩
      walk_at "tx"
      refine ⟨_, rfl, by omega, by omega, fun D hD => ?_⟩
      have hD0 := hT4.free hD
      have k04 : Kx h H H4 := k03.trans k4.kp
      have sD := same_upd (o := HO.lst []) hD
      have eP4 : H4 p = some (.lst (WW.Ss ls)) := by rw [k4 p np]; exact ep
      have nDp : p ≠ D := ne_of_none eP4 hD
      have l2 : ls.length = 2 := by omega
      refine lc_range (lo := 0) (n := ((2 : Int) + r4).toNat) (fun i H' => H' p = some (.lst (WW.Ss ls)) ∧ ∃ qs, Dr H H' h c D i qs) ⟨by rw [upd_ne nDp]; exact eP4, [], ⟨hT4.same sD, k04.trans (Same.kx sD), upd_same, (fun _ z => nomatch z), rfl⟩⟩ ?_ ?_
      · rintro i H' il ⟨eP, qs, d⟩
        walk_at "tx"
        refine ⟨h, c, 2, rfl, d.t, by decide, log2_lt (by decide), fun r5 H5 a5 b5 hT5 k5 => ?_⟩
        have r5l : r5.toNat < ls.length := by omega
        obtain ⟨ch, ech, hch⟩ := lo _ (List.getElem_mem r5l)
        refine RD.d_ixL (SqL.of (by rw [k5 p np]; exact eP)) (v := .str (WW.S [ch])) (by
          have := atI_nat (xs := WW.Ss ls) (j := r5.toNat) (v := .str (WW.S [ch])) (by unfold WW.Ss; rw [List.getElem?_map, List.getElem?_eq_getElem r5l, ech]; rfl)
          rwa [Int.toNat_of_nonneg a5] at this) ?_
        have eD5 : H5 D = some (.lst (WW.Ss qs)) := by rw [k5 D hD0.1]; exact d.e
        refine ⟨_, eD5, by rw [WW.Ss_len, d.n]; exact Nat.lt_of_lt_of_le (by omega : i < 6) (by decide), by rw [upd_ne nDp, k5 p np]; exact eP, qs ++ [[ch]], ⟨hT5.upd hD0.1 hD0.2, (d.k.trans k5.kp).fresh (k04.free hD0.1 hD), by rw [upd_same, WW.Ss_app], d.o.snoc hch, by rw [List.length_append, d.n]; rfl⟩⟩
      · rintro H5 ⟨eP, qs, d⟩
        have qn := d.n
        walk_at "tx"
        refine RD.d_m1 ?_
        walk_at "tx"
        refine ⟨⟨_, rfl⟩, ?_⟩
        walk_at "tx"
        refine ⟨_, rfl, by omega, by omega, fun D2 hD2 => ?_⟩
        have sD2 := same_upd (o := HO.lst []) hD2
        refine lc_range (lo := 0) (n := ((1 : Int) + r0).toNat) (fun i H' => Same H5 H' ∧ ∃ us : List WW.Wd, us.length = i ∧ WW.Ones us ∧ H' D2 = some (.lst (WW.Ss us))) ⟨sD2, [], rfl, (fun _ z => nomatch z), upd_same⟩ ?_ ?_
        · rintro i H' il ⟨s2, us, ul, uo, eU⟩
          have eQ := s2 _ _ d.e
          walk_at "tx"
          have q2 : 2 ≤ qs.length := by omega
          rw [WW.Ss_len]
          refine RD.d_rI (show (0 : Int) < (qs.length : Int) by omega) ?_
          have y0 : 0 ≤ ((0 : Int) + i) % (qs.length : Int) := Int.emod_nonneg _ (by omega)
          have y1 : ((0 : Int) + i) % (qs.length : Int) < qs.length := Int.emod_lt_of_pos _ (by omega)
          generalize ((0 : Int) + i) % (qs.length : Int) = y at *
          have yl : y.toNat < qs.length := by omega
          obtain ⟨ch, ech, hch⟩ := d.o _ (List.getElem_mem yl)
          refine RD.d_ixL (SqL.of eQ) (v := .str (WW.S [ch])) (by
            have := atI_nat (xs := WW.Ss qs) (j := y.toNat) (v := .str (WW.S [ch])) (by unfold WW.Ss; rw [List.getElem?_map, List.getElem?_eq_getElem yl, ech]; rfl)
            rwa [Int.toNat_of_nonneg y0] at this) ?_
          refine ⟨_, eU, by rw [WW.Ss_len, ul]; exact Nat.lt_of_lt_of_le (by omega : i < 101) (by decide), fun b o e => ?_, us ++ [[ch]], by rw [List.length_append, ul]; rfl, uo.snoc hch, by rw [upd_same, WW.Ss_app]⟩
          rw [upd_ne (ne_of_none e hD2)]; exact s2 _ _ e
        · rintro H6 ⟨s2, us, ul, uo, eU⟩
          walk_at "tx"
          refine joined eU uo (by omega) ?_
          obtain ⟨f1, f2⟩ := uo.flat
          exact k _ _ (d.t.same s2) (d.k.trans (Same.kx s2)) ⟨by omega, by omega, f2⟩
    · walk_at "tx"
      refine RD.d_m1 ?_
      walk_at "tx"
      refine ⟨⟨_, rfl⟩, ?_⟩
      walk_at "tx"
      refine ⟨_, rfl, by omega, by omega, fun D hD => ?_⟩
      have hD0 := hT3.free hD
      have sD := same_upd (o := HO.lst []) hD
      have nDp : p ≠ D := ne_of_none ep hD
      refine lc_range (lo := 0) (n := ((1 : Int) + r0).toNat) (fun i H' => H' p = some (.lst (WW.Ss ls)) ∧ ∃ qs, Dr H H' h c D i qs) ⟨by rw [upd_ne nDp]; exact ep, [], ⟨hT3.same sD, k03.trans (Same.kx sD), upd_same, (fun _ z => nomatch z), rfl⟩⟩ ?_ ?_
      · rintro i H' il ⟨eP, qs, d⟩
        walk_at "tx"
        rw [WW.Ss_len]
        refine ⟨h, c, ls.length, rfl, d.t, by omega, log2_lt (by omega), fun r5 H5 a5 b5 hT5 k5 => ?_⟩
        have r5l : r5.toNat < ls.length := by omega
        obtain ⟨ch, ech, hch⟩ := lo _ (List.getElem_mem r5l)
        refine RD.d_ixL (SqL.of (by rw [k5 p np]; exact eP)) (v := .str (WW.S [ch])) (by
          have := atI_nat (xs := WW.Ss ls) (j := r5.toNat) (v := .str (WW.S [ch])) (by unfold WW.Ss; rw [List.getElem?_map, List.getElem?_eq_getElem r5l, ech]; rfl)
          rwa [Int.toNat_of_nonneg a5] at this) ?_
        have eD5 : H5 D = some (.lst (WW.Ss qs)) := by rw [k5 D hD0.1]; exact d.e
        refine ⟨_, eD5, by rw [WW.Ss_len, d.n]; exact Nat.lt_of_lt_of_le (by omega : i < 101) (by decide), by rw [upd_ne nDp, k5 p np]; exact eP, qs ++ [[ch]], ⟨hT5.upd hD0.1 hD0.2, (d.k.trans k5.kp).fresh (k03.free hD0.1 hD), by rw [upd_same, WW.Ss_app], d.o.snoc hch, by rw [List.length_append, d.n]; rfl⟩⟩
      · rintro H5 ⟨eP, qs, d⟩
        have qn := d.n
        walk_at "tx"
        refine joined d.e d.o (by omega) ?_
        obtain ⟨f1, f2⟩ := d.o.flat
        exact k _ _ d.t d.k ⟨by omega, by omega, f2⟩
theorem ok_law_watch (T : Top K mg) : FnOk P w K mg base CX0 3 T.f_law_watch T.fd_law_watch ["tape", "word", "most"] spWtc := by
  refine T.F_law_watch.ok sc_law_watch (fun vs H Q E h => ?_) (fun cdv A outer s H vs Q E hr h => ?_)
  · obtain ⟨h, c, wd, m, most, rfl, _⟩ := h; rfl
  · obtain ⟨h, c, wd, m, most, rfl, hT, m1, m9, ⟨w1, wm, wl⟩, m10, k⟩ := h
    have wz : wd.length ≤ sizeLine := Nat.le_trans (Nat.le_trans wm m10) (by decide)
    refine ⟨_, (pss_cons (ps_set (i := 3) sc_law_watch.nd rfl (Or.inl rfl) (pe_op op_add pe_int (pe_call (ok_law_pick T) (hr.mono (by decide)) (by rfl) T.g_law_pick T.F_law_pick.kp T.b_law_pick .nil pass0 (pa_cons (pv 0) (pa_cons (pe_callB (call_min2 rfl) (by rfl) T.n_min (by decide +kernel) (pa_cons (pv 2) (pa_cons (pe_callB RD.c_len (by rfl) T.n_len (by decide +kernel) (pa_cons (pv 1) pa_nil)) pa_nil))) pa_nil)))))
 (pss_cons (ps_set (i := 4) sc_law_watch.nd rfl (Or.inl rfl) (pe_call (ok_law_pick T) (hr.mono (by decide)) (by rfl) T.g_law_pick T.F_law_pick.kp T.b_law_pick .nil pass0 (pa_cons (pv 0) (pa_cons (pe_op op_add (pe_op op_sub (pe_callB RD.c_len (by rfl) T.n_len (by decide +kernel) (pa_cons (pv 1) pa_nil)) (pv 3)) pe_int) pa_nil))))
 (pss_cons (ps_if (pt_cmpR op_gt (pe_call (ok_law_pick T) (hr.mono (by decide)) (by rfl) T.g_law_pick T.F_law_pick.kp T.b_law_pick .nil pass0 (pa_cons (pv 0) (pa_cons pe_int pa_nil))) pe_int (nomark _))
 (pss_one (ps_ret (pe_slice sl_str (pv 1) (po_some (pv 4)) (po_some (pe_op op_add (pv 4) (pv 3))))))
 pss_nil)
 (pss_one (ps_ret (pe_join pe_str (pe_lc (own := [("k", 5)]) (g := (gName 5)) (tt := tYes) rfl sc_law_watch.nd (pi_range1 (by rfl) T.n_range (pa_cons (pv 3) pa_nil)) (blkOk_by (own := [("k", 5)]) (N := ["tape", "word", "most", "size", "at", "k"]) (sc := defScope s_law_watch) (by decide +kernel)) (fun _ _ _ _ _ => (pg_name (i := 5) sc_law_watch.nd rfl (Or.inl rfl))) (fun _ _ _ _ _ => pts_nil) (fun _ _ _ _ _ => (pe_ix ix_str (pv 1) (pe_call (ok_law_pick T) (hr.mono (by decide)) (by rfl) T.g_law_pick T.F_law_pick.kp T.b_law_pick .nil pass0 (pa_cons (pv 0) (pa_cons (pe_callB (OQ.lenK K) (by rfl) T.n_len (by decide +kernel) (pa_cons (pv 1) pa_nil)) pa_nil))) (fun _ _ => rfl)))))))))), ?_⟩
    rw [nil_lit]
    walk_at "tx"
    refine ⟨_, _, rfl, ?_⟩
    walk_at "tx"
    have emin : (if (wd.length : Int) < (most : Int) then (wd.length : Int) else (most : Int)) = ((min most wd.length : Nat) : Int) := by split <;> omega
    rw [emin]
    refine ⟨h, c, _, rfl, hT, by omega, log2_lt (by omega), fun r0 H1 a0 b0 hT1 k1 => ?_⟩
    walk_at "tx"
    refine ⟨h, c, (wd.length : Int) - (1 + r0) + 1, rfl, hT1, by omega, log2_lt (by omega), fun r1 H2 a1 b1 hT2 k2 => ?_⟩
    walk_at "tx"
    refine ⟨h, c, 8, rfl, hT2, by decide, log2_lt (by decide), fun r2 H3 a2 b2 hT3 k3 => ?_⟩
    have k03 : Kx h H H3 := (k1.kp.trans k2.kp).trans k3.kp
    walk_at "tx"
    refine RD.iteD (fun c1 => ?_) (fun c1 => ?_)
    · walk_at "tx"
      refine RD.d_cutS (a := r1.toNat) (b := (r1 + (1 + r0)).toNat) (by omega) (by omega) wz ?_
      refine k _ _ hT3 k03 ⟨?_, ?_, wl.piece _ _⟩
      · rw [WW.piece_length]; omega
      · rw [WW.piece_length]; omega
    · walk_at "tx"
      refine RD.d_m1 ?_
      walk_at "tx"
      refine ⟨⟨_, rfl⟩, ?_⟩
      walk_at "tx"
      refine ⟨_, rfl, by omega, by omega, fun D hD => ?_⟩
      have hD0 := hT3.free hD
      have sD := same_upd (o := HO.lst []) hD
      refine lc_range (lo := 0) (n := ((1 : Int) + r0).toNat) (fun i H' => ∃ qs, Dr H H' h c D i qs) ⟨[], ⟨hT3.same sD, k03.trans (Same.kx sD), upd_same, (fun _ z => nomatch z), rfl⟩⟩ ?_ ?_
      · rintro i H' il ⟨qs, d⟩
        walk_at "tx"
        refine ⟨h, c, wd.length, rfl, d.t, by omega, log2_lt (by omega), fun r5 H5 a5 b5 hT5 k5 => ?_⟩
        have r5l : r5.toNat < wd.length := by omega
        refine RD.d_ixS (a := r5.toNat) (c := wd[r5.toNat]) (by omega) wz (List.getElem?_eq_getElem r5l) ?_
        have eD5 : H5 D = some (.lst (WW.Ss qs)) := by rw [k5 D hD0.1]; exact d.e
        refine ⟨_, eD5, by rw [WW.Ss_len, d.n]; exact Nat.lt_of_lt_of_le (by omega : i < 101) (by decide), qs ++ [[wd[r5.toNat]]], ⟨hT5.upd hD0.1 hD0.2, (d.k.trans k5.kp).fresh (k03.free hD0.1 hD), by rw [upd_same, WW.Ss_app], d.o.snoc (wl _ (List.getElem_mem r5l)), by rw [List.length_append, d.n]; rfl⟩⟩
      · rintro H5 ⟨qs, d⟩
        have qn := d.n
        walk_at "tx"
        refine joined d.e d.o (by omega) ?_
        obtain ⟨f1, f2⟩ := d.o.flat
        exact k _ _ d.t d.k ⟨by omega, by omega, f2⟩
end

/-! ### unlike watches -/
/-- unlike watches, at most n -/
structure OkS (n : Nat) (ws : List WW.Wd) : Prop where
  len : ws.length ≤ n
  ok : ∀ w ∈ ws, IsW 12 w
  nd : ws.Nodup
theorem OkS.nil {n : Nat} : OkS n [] := ⟨Nat.zero_le _, (fun _ z => nomatch z), List.nodup_nil⟩
theorem OkS.mono {m n : Nat} {ws : List WW.Wd} (h : OkS m ws) (k : m ≤ n) : OkS n ws := ⟨Nat.le_trans h.len k, h.ok, h.nd⟩
theorem OkS.snoc {n : Nat} {ws : List WW.Wd} {w : WW.Wd} (h : OkS n ws) (hw : IsW 12 w) (m : w ∉ ws) : OkS (n + 1) (ws ++ [w]) :=
  ⟨by rw [List.length_append]; exact Nat.succ_le_succ h.len, fun v hv => (List.mem_append.mp hv).elim (h.ok v) (fun z => by rw [List.mem_singleton.mp z]; exact hw), WW.nodup_snoc h.nd m⟩
theorem map_erase {α β : Type} (f : α → β) (l : List α) (k : Nat) : (l.map f).eraseIdx k = (l.eraseIdx k).map f := by
  induction l generalizing k with
  | nil => rfl
  | cons a l ih =>
    cases k with
    | zero => rfl
    | succ k => simp [ih]
theorem OkS.sub {n : Nat} {ws vs : List WW.Wd} (h : OkS n ws) (s : vs.Sublist ws) : OkS n vs := ⟨Nat.le_trans s.length_le h.len, fun w m => h.ok w (s.subset m), h.nd.sublist s⟩
theorem OkS.put {n : Nat} {ws : List WW.Wd} {w : WW.Wd} (h : OkS n ws) (hw : IsW 12 w) (m : w ∉ ws) (i : Nat) : OkS (n + 1) (ws.take i ++ [w] ++ ws.drop i) := by
  have pm : (ws.take i ++ [w] ++ ws.drop i).Perm (ws ++ [w]) := by
    have e : ws ++ [w] = ws.take i ++ ws.drop i ++ [w] := by rw [List.take_append_drop]
    rw [e, List.append_assoc, List.append_assoc]
    exact List.Perm.append_left _ List.perm_append_comm
  have k := h.snoc hw m
  exact ⟨by rw [pm.length_eq]; exact k.len, fun v hv => k.ok v (pm.mem_iff.mp hv), pm.nodup_iff.mpr k.nd⟩
theorem same_put {H H' : Hp} {d : Addr} {o : HO} (s : Same H H') (n : H d = none) : Same H (upd H' d o) := fun b u e => by
  rw [upd_ne (ne_of_none e n)]; exact s _ _ e

/-! ### watches drawn from a word -/
def spWs : Sp := fun vs H Q _ => ∃ (h c : Addr) (w : WW.Wd) (many most : Nat), vs = [.ref h, .str (WW.S w), .int many, .int most] ∧ TapeAt H h c ∧ IsW 40 w ∧ many ≤ 12 ∧ 1 ≤ most ∧ most ≤ 12 ∧
  ∀ (p : Addr) (ws : List WW.Wd) (H' : Hp), TapeAt H' h c → Kx h H H' → H p = none → H' p = some (.lst (WW.Ss ws)) → OkS many ws → (1 ≤ many → ws ≠ []) → Q (.ref p) H'
/-- what is near to a spot -/
def near (ws : List WW.Wd) (w : WW.Wd) (s : Nat) : List Nat := (List.range (w.length + 1)).filter fun o => decide (o ≠ s ∧ WW.piece w (min s o) (max s o) ∈ ws)
theorem near_mem {ws : List WW.Wd} {w : WW.Wd} {s o : Nat} (n : ∀ v ∈ ws, v ≠ []) (hs : s ≤ w.length) : o ∈ near ws w s ↔ WW.Link ws w s o := by
  unfold near
  rw [List.mem_filter, List.mem_range, decide_eq_true_eq]
  constructor
  · rintro ⟨ol, ne, m⟩
    refine ⟨_, m, ?_⟩
    have e : (WW.piece w (min s o) (max s o)).length = max s o - min s o := by rw [WW.piece_length]; omega
    rcases Nat.lt_or_ge s o with c | c
    · refine .inl ⟨?_, by rw [e]; omega⟩
      unfold WW.Hit
      rw [e, show min s o = s from by omega, show max s o = o from by omega, show s + (o - s) = o from by omega]
    · refine .inr ⟨?_, by rw [e]; omega⟩
      unfold WW.Hit
      rw [e, show min s o = o from by omega, show max s o = s from by omega, show o + (s - o) = s from by omega]
  · rintro k
    have b := k.le n
    obtain ⟨v, m, ⟨h, rfl⟩ | ⟨h, rfl⟩⟩ := k
    · refine ⟨by omega, by omega, ?_⟩
      rw [show min s (s + v.length) = s from by omega, show max s (s + v.length) = s + v.length from by omega]
      unfold WW.Hit at h
      rw [h]; exact m
    · refine ⟨by omega, by omega, ?_⟩
      rw [show min (o + v.length) o = o from by omega, show max (o + v.length) o = o + v.length from by omega]
      unfold WW.Hit at h
      rw [h]; exact m
theorem near_up (ws : List WW.Wd) (w : WW.Wd) (s : Nat) : (near ws w s).Pairwise (· < ·) := List.Pairwise.filter _ List.pairwise_lt_range
def spNear (K : PySem.W.Frag) : Sp := fun vs H Q _ => ∃ (a : Addr) (ws : List WW.Wd) (w : WW.Wd) (s : Nat), vs = [.ref a, .str (WW.S w), .int s] ∧ SqL K H a (WW.Ss ws) ∧ w.length ≤ 100 ∧ s ≤ w.length ∧
  ∀ p H', Same H H' → H p = none → H' p = some (.lst (WW.Ns (near ws w s))) → Q (.ref p) H'
section
variable {P : Program} {w : World} {K : PySem.W.Frag} {mg : Str → Option Value} {base : Heap}
theorem ok_law_near (T : Top K mg) : FnOk P w K mg base CX0 1 T.f_law_near T.fd_law_near ["watches", "word", "spot"] (spNear K) := by
  refine T.F_law_near.ok sc_law_near (fun vs H Q E h => ?_) (fun cdv A outer s H vs Q E hr h => ?_)
  · obtain ⟨a, ws, l, s, rfl, _⟩ := h; rfl
  · obtain ⟨a, ws, l, s, rfl, sa, l9, sl, k⟩ := h
    have lz : l.length ≤ sizeLine := Nat.le_trans l9 (by decide)
    refine ⟨_, (pss_cons (ps_set (i := 3) sc_law_near.nd rfl (Or.inl rfl) (pe_lst pa_nil))
 (pss_cons (ps_for PassesOwn.never rfl (pi_range1 (by rfl) T.n_range (pa_cons (pe_op op_add (pe_callB RD.c_len (by rfl) T.n_len (by decide +kernel) (pa_cons (pv 1) pa_nil)) pe_int) pa_nil)) (pg_name (i := 4) sc_law_near.nd rfl (Or.inl rfl))
 (pss_one (ps_if (PW.pt (pw_and (pt_cmpR op_ne (pv 4) (pv 2) (nomark _)) (pw_and1 (pt_cmpR op_in_seq (pe_slice sl_str (pv 1) (po_some (pe_callB (call_min2 rfl) (by rfl) T.n_min (by decide +kernel) (pa_cons (pv 2) (pa_cons (pv 4) pa_nil)))) (po_some (pe_callB (call_max2 rfl) (by rfl) T.n_max (by decide +kernel) (pa_cons (pv 2) (pa_cons (pv 4) pa_nil))))) (pv 0) rfl))))
 (pss_one (ps_expr (pe_bm PySem.F.plainAttrs_list PySem.F.slot_list_append PySem.F.type_list_append mt_append (pv 3) (pa_cons (pv 4) pa_nil))))
 pss_nil)))
 (pss_one (ps_ret (pv 3))))), ?_⟩
    walk_at "tx"
    refine ⟨by show 0 ≤ sizeLine; decide, fun p hp => ?_⟩
    have s0 := same_upd (o := HO.lst []) hp
    have e0 : upd H p (.lst []) p = some (.lst (WW.Ns [])) := upd_same
    generalize upd H p (.lst []) = H0 at *
    walk_at "tx"
    refine ⟨_, rfl, by omega, by omega, ?_⟩
    rw [show ((l.length : Int) + 1).toNat = l.length + 1 from by omega]
    let f : Nat → Bool := fun o => decide (o ≠ s ∧ WW.piece l (min s o) (max s o) ∈ ws)
    refine RD.f_range (lo := 0) (n := l.length + 1) (fun i σ' H' => Same H H' ∧ H' p = some (.lst (WW.Ns ((List.range i).filter f))) ∧ ∃ v : Option V, σ' = [some (.ref a), some (.str (WW.S l)), some (.int s), some (.ref p), v])
      ⟨s0, e0, none, rfl⟩ ?_ ?_
    · rintro i σ' H1 il ⟨s1, e1, v, rfl⟩
      have rs : (List.range (i + 1)).filter f = (List.range i).filter f ++ (if f i = true then [i] else []) := by
        rw [List.range_succ, List.filter_append]
        congr 1
        by_cases c : f i = true
        · rw [if_pos c]; simp [c]
        · rw [if_neg c]; simp [c]
      have fl : ((List.range i).filter f).length ≤ 101 := Nat.le_trans (List.length_filter_le ..) (by rw [List.length_range]; omega)
      walk_at "tx"
      have ei : ((0 : Int) + i) = (i : Int) := by omega
      rw [ei]
      refine RD.iteN (fun c1 => ?_) (fun c1 => ?_)
      · walk_at "tx"
        refine ⟨_, _, rfl, ?_⟩
        walk_at "tx"
        refine ⟨_, _, rfl, ?_⟩
        walk_at "tx"
        have emin : (if (i : Int) < (s : Int) then (i : Int) else (s : Int)) = ((min s i : Nat) : Int) := by split <;> omega
        have emax : (if (i : Int) > (s : Int) then (i : Int) else (s : Int)) = ((max s i : Nat) : Int) := by split <;> omega
        refine RD.d_cutS (a := min s i) (b := max s i) emin emax lz ?_
        walk_at "tx"
        refine OQ.d_inSs (.inl (s1.seq sa)) ?_
        walk_at "tx"
        refine RD.iteD (fun c2 => ?_) (fun c2 => ?_)
        · walk_at "tx"
          refine ⟨RD.tyL e1, ?_⟩
          walk_at "tx"
          refine RD.d_app e1 (by rw [WW.Ns_len]; exact Nat.lt_of_le_of_lt fl (by decide)) ?_
          rw [WW.Ns_app]
          have fi : f i = true := decide_eq_true ⟨fun z => c1 (by rw [z]), c2⟩
          rw [if_pos fi] at rs
          exact ⟨fun b o e => by rw [upd_ne (ne_of_none e hp)]; exact s1 _ _ e, by rw [upd_same, rs], _, rfl⟩
        · walk_at "tx"
          have fi : ¬ f i = true := fun z => c2 (of_decide_eq_true z).2
          rw [if_neg fi, List.append_nil] at rs
          exact ⟨s1, by rw [rs]; exact e1, _, rfl⟩
      · walk_at "tx"
        have fi : ¬ f i = true := fun z => (of_decide_eq_true z).1 (by omega)
        rw [if_neg fi, List.append_nil] at rs
        exact ⟨s1, by rw [rs]; exact e1, _, rfl⟩
    · rintro σ' H1 ⟨s1, e1, v, rfl⟩
      walk_at "tx"
      exact k p H1 s1 hp e1
theorem ok_law_watches (T : Top K mg) : FnOk P w K mg base CX0 5 T.f_law_watches T.fd_law_watches ["tape", "word", "many", "most"] spWs := by
  refine T.F_law_watches.ok sc_law_watches (fun vs H Q E h => ?_) (fun cdv A outer s H vs Q E hr h => ?_)
  · obtain ⟨h, c, l, many, most, rfl, _⟩ := h; rfl
  · obtain ⟨h, c, l, many, most, rfl, hT, hl, m12, mo1, mo12, k⟩ := h
    have l1 := hl.lo
    have l40 := hl.hi
    have lz : l.length ≤ sizeLine := Nat.le_trans hl.hi (by decide)
    refine ⟨_, (pss_cons (ps_set (i := 4) sc_law_watches.nd rfl (Or.inl rfl) (pe_lst pa_nil))
 (C8.pss_cut (ps_if (PW.pt (pw_and (pt_cmpR op_gt (pv 2) pe_int (nomark _)) (pw_and (pt_cmpR op_gt (pe_callB RD.c_len (by rfl) T.n_len (by decide +kernel) (pa_cons (pv 1) pa_nil)) pe_int (nomark _)) (pw_and1 (pt_cmpR op_eq (pe_call (ok_law_pick T) (hr.mono (by decide)) (by rfl) T.g_law_pick T.F_law_pick.kp T.b_law_pick .nil pass0 (pa_cons (pv 0) (pa_cons pe_int pa_nil))) pe_int (nomark _))))))
 (pss_cons (ps_set (i := 5) sc_law_watches.nd rfl (Or.inl rfl) (pe_op op_add pe_int (pe_call (ok_law_pick T) (hr.mono (by decide)) (by rfl) T.g_law_pick T.F_law_pick.kp T.b_law_pick .nil pass0 (pa_cons (pv 0) (pa_cons (pe_op op_sub (pe_callB RD.c_len (by rfl) T.n_len (by decide +kernel) (pa_cons (pv 1) pa_nil)) pe_int) pa_nil)))))
 (pss_cons (ps_set (i := 6) sc_law_watches.nd rfl (Or.inl rfl) (pe_op op_add (pe_op op_add (pv 5) pe_int) (pe_call (ok_law_pick T) (hr.mono (by decide)) (by rfl) T.g_law_pick T.F_law_pick.kp T.b_law_pick .nil pass0 (pa_cons (pv 0) (pa_cons (pe_op op_sub (pe_op op_sub (pe_callB RD.c_len (by rfl) T.n_len (by decide +kernel) (pa_cons (pv 1) pa_nil)) (pv 5)) pe_int) pa_nil)))))
 (pss_cons (ps_for PassesOwn.never rfl (pi_list (pe_lst (pa_cons (pe_slice sl_str (pv 1) po_none (po_some (pv 6))) (pa_cons (pe_slice sl_str (pv 1) (po_some (pv 5)) (po_some (pv 6))) (pa_cons (pe_slice sl_str (pv 1) (po_some (pv 5)) po_none) pa_nil))))) (pg_name (i := 7) sc_law_watches.nd rfl (Or.inl rfl))
 (pss_one (ps_if (PW.pt (pw_and (pt_cmpR op_le (pe_callB RD.c_len (by rfl) T.n_len (by decide +kernel) (pa_cons (pv 7) pa_nil)) (pv 3) (nomark _)) (pw_and1 (pt_cmpR op_notIn_seq (pv 7) (pv 4) rfl))))
 (pss_one (ps_expr (pe_bm PySem.F.plainAttrs_list PySem.F.slot_list_append PySem.F.type_list_append mt_append (pv 4) (pa_cons (pv 7) pa_nil))))
 pss_nil)))
 (pss_one (ps_if (PW.pt (pw_and (pt_cmpR op_eq (pe_callB RD.c_len (by rfl) T.n_len (by decide +kernel) (pa_cons (pv 4) pa_nil)) pe_int (nomark _)) (pw_and1 (pt_cmpR op_gt (pe_call (ok_law_pick T) (hr.mono (by decide)) (by rfl) T.g_law_pick T.F_law_pick.kp T.b_law_pick .nil pass0 (pa_cons (pv 0) (pa_cons pe_int pa_nil))) pe_int (nomark _)))))
 (pss_one (ps_ret (pv 4)))
 pss_nil)))))
 pss_nil)
 (pss_cons (ps_for PassesOwn.never rfl (pi_range1 (by rfl) T.n_range (pa_cons (pe_op op_sub (pv 2) (pe_callB RD.c_len (by rfl) T.n_len (by decide +kernel) (pa_cons (pv 4) pa_nil))) pa_nil)) (pg_name (i := 8) sc_law_watches.nd rfl (Or.inl rfl))
 (pss_cons (ps_set (i := 9) sc_law_watches.nd rfl (Or.inl rfl) (pe_call (ok_law_watch T) (hr.mono (by decide)) (by rfl) T.g_law_watch T.F_law_watch.kp T.b_law_watch .nil pass0 (pa_cons (pv 0) (pa_cons (pv 1) (pa_cons (pv 3) pa_nil)))))
 (pss_one (ps_if (pt_cmpR op_notIn_seq (pv 9) (pv 4) rfl)
 (pss_one (ps_expr (pe_bm PySem.F.plainAttrs_list PySem.F.slot_list_append PySem.F.type_list_append mt_append (pv 4) (pa_cons (pv 9) pa_nil))))
 pss_nil))))
 (pss_one (ps_ret (pv 4)))))), ?_⟩
    walk_at "tx"
    refine ⟨by show 0 ≤ sizeLine; decide, fun p hp => ?_⟩
    obtain ⟨np, npc⟩ := hT.free hp
    have hT1 := hT.same (same_upd (o := HO.lst []) hp)
    have k1 : Kx h H (upd H p (.lst [])) := Same.kx (same_upd hp)
    have e1 : upd H p (.lst []) p = some (.lst (WW.Ss [])) := upd_same
    generalize upd H p (.lst []) = H1 at *
    walk_at "tx"
    refine RD.d_cut (fun σ' H' => TapeAt H' h c ∧ Kx h H H' ∧ ∃ (ws : List WW.Wd) (v5 v6 v7 : Option V), H' p = some (.lst (WW.Ss ws)) ∧ OkS many ws ∧ σ' = [some (.ref h), some (.str (WW.S l)), some (.int many), some (.int most), some (.ref p), v5, v6, v7, none, none]) ?_ ?_
    · walk_at "tx"
      refine RD.iteD (fun c1 => ?_) (fun c1 => ?_)
      · walk_at "tx"
        refine RD.iteD (fun c2 => ?_) (fun c2 => ?_)
        · walk_at "tx"
          refine ⟨h, c, 2, rfl, hT1, by decide, log2_lt (by decide), fun r2 H2 a2 b2 hT2 k2 => ?_⟩
          have k12 := k1.trans k2.kp
          have e2 : H2 p = some (.lst (WW.Ss [])) := by rw [k2 p np]; exact e1
          walk_at "tx"
          refine RD.iteD (fun c3 => ?_) (fun c3 => ?_)
          · walk_at "tx"
            refine ⟨h, c, (l.length : Int) - 2, rfl, hT2, by omega, log2_lt (by omega), fun r3 H3 a3 b3 hT3 k3 => ?_⟩
            walk_at "tx"
            refine ⟨h, c, (l.length : Int) - (1 + r3) - 1, rfl, hT3, by omega, log2_lt (by omega), fun r4 H4 a4 b4 hT4 k4 => ?_⟩
            have e4 : H4 p = some (.lst (WW.Ss [])) := by rw [k4 p np, k3 p np]; exact e2
            have k14 : Kx h H H4 := (k12.trans k3.kp).trans k4.kp
            walk_at "tx"
            refine RD.d_cutSHi (b := (1 + r3 + 1 + r4).toNat) (by omega) lz ?_
            walk_at "tx"
            refine RD.d_cutS (a := (1 + r3).toNat) (b := (1 + r3 + 1 + r4).toNat) (by omega) (by omega) lz ?_
            walk_at "tx"
            refine RD.d_cutSLo (a := (1 + r3).toNat) (by omega) lz ?_
            walk_at "tx"
            refine ⟨by show 3 ≤ sizeLine; decide, fun u hu => ?_⟩
            have lo := (1 + r3).toNat
            have pcs : ∀ x ∈ [l.take (1 + r3 + 1 + r4).toNat, WW.piece l (1 + r3).toNat (1 + r3 + 1 + r4).toNat, l.drop (1 + r3).toNat], 1 ≤ x.length ∧ x.length ≤ 40 ∧ WW.Lw x := by
              intro x mx
              rcases List.mem_cons.mp mx with rfl | mx
              · exact ⟨by rw [List.length_take]; omega, by rw [List.length_take]; omega, hl.lw.take _⟩
              rcases List.mem_cons.mp mx with rfl | mx
              · exact ⟨by rw [WW.piece_length]; omega, by rw [WW.piece_length]; omega, hl.lw.piece _ _⟩
              · rw [List.mem_singleton.mp mx]
                exact ⟨by rw [List.length_drop]; omega, by rw [List.length_drop]; omega, hl.lw.drop _⟩
            have nu : u ≠ p := (ne_of_none e4 hu).symm
            have hT5 := hT4.same (same_upd (o := HO.lst [V.str (WW.S (l.take (1 + r3 + 1 + r4).toNat)), V.str (WW.S (WW.piece l (1 + r3).toNat (1 + r3 + 1 + r4).toNat)), V.str (WW.S (l.drop (1 + r3).toNat))]) hu)
            have k15 : Kx h H (upd H4 u (.lst [V.str (WW.S (l.take (1 + r3 + 1 + r4).toNat)), V.str (WW.S (WW.piece l (1 + r3).toNat (1 + r3 + 1 + r4).toNat)), V.str (WW.S (l.drop (1 + r3).toNat))])) := k14.trans (Same.kx (same_upd hu))
            have e5 : upd H4 u (.lst [V.str (WW.S (l.take (1 + r3 + 1 + r4).toNat)), V.str (WW.S (WW.piece l (1 + r3).toNat (1 + r3 + 1 + r4).toNat)), V.str (WW.S (l.drop (1 + r3).toNat))]) p = some (.lst (WW.Ss [])) := by rw [upd_ne nu.symm]; exact e4
            have eu : upd H4 u (.lst [V.str (WW.S (l.take (1 + r3 + 1 + r4).toNat)), V.str (WW.S (WW.piece l (1 + r3).toNat (1 + r3 + 1 + r4).toNat)), V.str (WW.S (l.drop (1 + r3).toNat))]) u = some (.lst (WW.Ss [l.take (1 + r3 + 1 + r4).toNat, WW.piece l (1 + r3).toNat (1 + r3 + 1 + r4).toNat, l.drop (1 + r3).toNat])) := upd_same
            generalize upd H4 u (.lst [V.str (WW.S (l.take (1 + r3 + 1 + r4).toNat)), V.str (WW.S (WW.piece l (1 + r3).toNat (1 + r3 + 1 + r4).toNat)), V.str (WW.S (l.drop (1 + r3).toNat))]) = H5 at *
            generalize hm : [l.take (1 + r3 + 1 + r4).toNat, WW.piece l (1 + r3).toNat (1 + r3 + 1 + r4).toNat, l.drop (1 + r3).toNat] = md at *
            have ml : md.length = 3 := by rw [← hm]; rfl
            clear hm lo
            walk_at "tx"
            refine RD.f_list (K := K) (a := u) (xs := WW.Ss md) (fun i σ' H' => TapeAt H' h c ∧ Kx h H H' ∧ H' u = some (.lst (WW.Ss md)) ∧ ∃ (qs : List WW.Wd) (v7 : Option V), H' p = some (.lst (WW.Ss qs)) ∧ OkS i qs ∧ σ' = [some (.ref h), some (.str (WW.S l)), some (.int many), some (.int most), some (.ref p), some (.int (1 + r3)), some (.int (1 + r3 + 1 + r4)), v7, none, none])
              ⟨hT5, k15, eu, [], none, e5, .nil, rfl⟩ ?_ ?_ ?_
            · rintro i σ' H' _ ⟨_, _, q, _⟩
              exact SqL.of q
            · rintro i y σ' H6 hy ⟨hT6, k6, eu6, qs, v7, e6, ok6, rfl⟩
              obtain ⟨wd, ew, rfl⟩ := WW.Ss_get hy
              have il := (List.getElem?_eq_some_iff.mp ew).1
              obtain ⟨w1, w40, wl⟩ := pcs wd (List.mem_of_getElem? ew)
              have wz : wd.length ≤ sizeLine := Nat.le_trans w40 (by decide)
              walk_at "tx"
              refine RD.iteD (fun c4 => ?_) (fun c4 => ?_)
              · walk_at "tx"
                refine OQ.d_notInSs (.inl (SqL.of e6)) ?_
                walk_at "tx"
                refine RD.iteN (fun c5 => ?_) (fun c5 => ?_)
                · walk_at "tx"
                  refine ⟨RD.tyL e6, ?_⟩
                  walk_at "tx"
                  refine RD.d_app e6 (by rw [WW.Ss_len]; exact Nat.lt_of_le_of_lt ok6.len (Nat.lt_of_lt_of_le (by omega : i < 4) (by decide))) ?_
                  rw [WW.Ss_app]
                  exact ⟨hT6.upd np npc, k6.fresh hp, by rw [upd_ne nu]; exact eu6, _, _, upd_same, ok6.snoc ⟨w1, by omega, wl⟩ c5, rfl⟩
                · walk_at "tx"
                  exact ⟨hT6, k6, eu6, qs, _, e6, ok6.mono (Nat.le_succ _), rfl⟩
              · walk_at "tx"
                exact ⟨hT6, k6, eu6, qs, _, e6, ok6.mono (Nat.le_succ _), rfl⟩
            · rintro σ' H6 ⟨hT6, k6, eu6, qs, v7, e6, ok6, rfl⟩
              rw [WW.Ss_len, ml] at ok6
              walk_at "tx"
              rw [WW.Ss_len]
              have okm : OkS many qs := ok6.mono (by omega)
              refine RD.iteD (fun c4 => ?_) (fun c4 => ?_)
              · walk_at "tx"
                refine ⟨h, c, 3, rfl, hT6, by decide, log2_lt (by decide), fun r7 H7 a7 b7 hT7 k7 => ?_⟩
                have e7 : H7 p = some (.lst (WW.Ss qs)) := by rw [k7 p np]; exact e6
                have k17 := k6.trans k7.kp
                walk_at "tx"
                refine RD.iteD (fun c5 => ?_) (fun c5 => ?_)
                · walk_at "tx"
                  exact k p qs H7 hT7 k17 hp e7 okm (fun _ z => by rw [z] at c4; cases c4)
                · walk_at "tx"
                  exact ⟨hT7, k17, qs, _, _, _, e7, okm, rfl⟩
              · walk_at "tx"
                exact ⟨hT6, k6, qs, _, _, _, e6, okm, rfl⟩
          · walk_at "tx"
            exact ⟨hT2, k12, [], _, _, _, e2, .nil, rfl⟩
        · walk_at "tx"
          exact ⟨hT1, k1, [], _, _, _, e1, .nil, rfl⟩
      · walk_at "tx"
        exact ⟨hT1, k1, [], _, _, _, e1, .nil, rfl⟩
    · rintro σ' H2 ⟨hT2, k2, ws, v5, v6, v7, e2, ok, rfl⟩
      have wl := ok.len
      walk_at "tx"
      refine ⟨_, rfl, by rw [WW.Ss_len]; omega, by rw [WW.Ss_len]; omega, ?_⟩
      rw [WW.Ss_len]
      refine RD.f_range (lo := 0) (n := ((many : Int) - ws.length).toNat) (fun i σ' H' => TapeAt H' h c ∧ Kx h H H' ∧ ∃ (qs : List WW.Wd) (v8 v9 : Option V), H' p = some (.lst (WW.Ss qs)) ∧ OkS (ws.length + i) qs ∧ (ws.length + i ≠ 0 → qs ≠ []) ∧ σ' = [some (.ref h), some (.str (WW.S l)), some (.int many), some (.int most), some (.ref p), v5, v6, v7, v8, v9])
        ⟨hT2, k2, ws, none, none, e2, ⟨Nat.le_refl _, ok.ok, ok.nd⟩, fun z y => z (by rw [y]; rfl), rfl⟩ ?_ ?_
      · rintro i σ' H3 il ⟨hT3, k3, qs, v8, v9, e3, okq, ne3, rfl⟩
        walk_at "tx"
        refine ⟨h, c, l, 40, most, rfl, hT3, mo1, by omega, hl, by decide, fun wd H4 hT4 k4 hw => ?_⟩
        have e4 := k4 _ _ np e3
        walk_at "tx"
        refine OQ.d_notInSs (.inl (SqL.of e4)) ?_
        walk_at "tx"
        refine RD.iteN (fun c2 => ?_) (fun c2 => ?_)
        · walk_at "tx"
          refine ⟨RD.tyL e4, ?_⟩
          walk_at "tx"
          refine RD.d_app e4 (by rw [WW.Ss_len]; exact Nat.lt_of_le_of_lt okq.len (Nat.lt_of_lt_of_le (by omega : ws.length + i < 13) (by decide))) ?_
          rw [WW.Ss_app]
          exact ⟨hT4.upd np npc, (k3.trans k4).fresh hp, _, _, _, upd_same, okq.snoc (hw.mono mo12) c2, (fun _ => by simp), rfl⟩
        · walk_at "tx"
          exact ⟨hT4, k3.trans k4, qs, _, _, e4, okq.mono (by omega), (fun _ z => by rw [z] at c2; cases c2), rfl⟩
      · rintro σ' H3 ⟨hT3, k3, qs, v8, v9, e3, okq, ne3, rfl⟩
        walk_at "tx"
        have := ok.len
        exact k p qs H3 hT3 k3 hp e3 (okq.mono (by omega)) (fun m1 => ne3 (by omega))
end

/-! ### the walk with the fewest spots -/
open WW (Ns)
/-- what zigzag tells: nothing, or the least of the shortest ways -/
def WayAt (H : Hp) (ws : List WW.Wd) (l : WW.Wd) (v : V) : Prop := (v = .non ∧ ¬ WW.Told ws l) ∨ ∃ t p k0, v = .ref t ∧ H t = some (.tup (Ns p)) ∧ WW.Lst (WW.Link ws l) 0 k0 p l.length ∧ WW.Ds (WW.Link ws l) 0 k0 l.length
def spFew (K : PySem.W.Frag) (C : Addr) : Sp := fun vs H Q _ => ∃ (x : Addr) (ws : List WW.Wd) (l : WW.Wd), vs = [.ref x, .str (WW.S l)] ∧ BookAt K C H x ws ∧ Okw ws ∧ IsW 40 l ∧
  ∀ v H', Same H H' → WayAt H' ws l v → Q v H'
theorem atI_last (p : List Nat) (v : Nat) : atI (Ns (p ++ [v])) (-1) = some (.int v) := by
  have e : ixN (Ns (p ++ [v])).length (-1) = some p.length := by
    rw [WW.Ns_len, List.length_append, List.length_singleton]
    unfold ixN
    rw [if_neg (by omega), if_pos (by omega)]
    congr 1; omega
  unfold atI
  rw [e]
  show (Ns (p ++ [v]))[p.length]? = _
  unfold Ns
  rw [List.getElem?_map, List.getElem?_append_right (Nat.le_refl _), Nat.sub_self]
  rfl
section
variable {P : Program} {w : World} {K : PySem.W.Frag} {mg : Str → Option Value} {base : Heap}
theorem ok_fewest_walk (T : Top K mg) : FnOk P w K mg base CX0 3 T.f_fewest_walk T.fd_fewest_walk ["book", "word"] (spFew K T.C_Book) := by
  refine T.F_fewest_walk.ok sc_fewest_walk (fun vs H Q E h => ?_) (fun cdv A outer s H vs Q E hr h => ?_)
  · obtain ⟨x, ws, l, rfl, _⟩ := h; rfl
  · obtain ⟨x, ws, l, rfl, b, ok, hl, k⟩ := h
    have hz : l.length ≤ sizeLine := Nat.le_trans hl.hi (by decide)
    have l40 := hl.hi
    have l1 := hl.lo
    refine ⟨_, (pss_cons (ps_set (i := 2) sc_fewest_walk.nd rfl (Or.inl rfl) (pe_call (ok_links_of T) (hr.mono (by decide)) (by rfl) T.g_links_of T.F_links_of.kp T.b_links_of .nil pass0 (pa_cons (pv 0) (pa_cons (pv 1) pa_nil))))
 (pss_cons (ps_set (i := 3) sc_fewest_walk.nd rfl (Or.inr rfl) (pe_call (ok_steps_to T) (hr.mono (by decide)) (by rfl) T.g_steps_to T.F_steps_to.kp T.b_steps_to .nil pass0 (pa_cons (pv 2) (pa_cons (pe_callB RD.c_len (by rfl) T.n_len (by decide +kernel) (pa_cons (pv 1) pa_nil)) pa_nil))))
 (pss_cons (ps_if (pt_cmp (pc_dnotin (hu_of hr) pe_int (pv 3)))
 (pss_one (ps_ret pe_non))
 pss_nil)
 (pss_cons (ps_set (i := 4) sc_fewest_walk.nd rfl (Or.inl rfl) (pe_lst (pa_cons pe_int pa_nil)))
 (pss_cons (ps_while PassesOwn.never (pt_cmpR op_ne (pe_ix ix_list (pv 4) (pe_un un_neg pe_int) (fun _ _ => rfl)) (pe_callB RD.c_len (by rfl) T.n_len (by decide +kernel) (pa_cons (pv 1) pa_nil)) (nomark _))
 (pss_cons (ps_set (i := 5) sc_fewest_walk.nd rfl (Or.inr rfl) (pe_ix ix_list (pv 4) (pe_un un_neg pe_int) (fun _ _ => rfl)))
 (pss_cons (ps_setLc (i := 6) (own := [("spot", 7)]) (g := (gName 7)) (tt := _) rfl sc_fewest_walk.nd rfl rfl (sw_true rfl rfl rfl (by decide +kernel)) (pi_list (pe_ix ix_list (pv 2) (pv 5) (fun _ _ => rfl))) (blkOk_by (own := [("spot", 7)]) (N := ["book", "word", "links", "steps", "walk", "here", "nearer", "spot"]) (sc := defScope s_fewest_walk) (by decide +kernel)) (fun _ _ _ _ _ => (pg_name (i := 7) sc_fewest_walk.nd rfl (Or.inl rfl))) (fun _ _ _ _ _ => (pts_one (pt_cmpR op_lt (pe_dget (hu_of hr) (pv 3) (pv 7) (fun _ _ => rfl)) (pe_dget (hu_of hr) (pv 3) (pv 5) (fun _ _ => rfl)) (nomark _)))) (fun _ _ _ _ _ => (pv 7)))
 (pss_one (ps_expr (pe_bm PySem.F.plainAttrs_list PySem.F.slot_list_append PySem.F.type_list_append mt_append (pv 4) (pa_cons (pe_ix ix_list (pv 6) pe_int (fun _ _ => rfl)) pa_nil)))))))
 (pss_one (ps_ret (pe_callTy (OQ.tupK K) (by rfl) T.n_tuple (by decide +kernel) (pa_cons (pv 4) pa_nil))))))))), ?_⟩
    walk_at "tx"
    refine ⟨x, ws, l, rfl, b, ok, hl, fun H2 L rows s2 hL R lk => ?_⟩
    walk_at "tx"
    refine ⟨L, l.length + 1, l.length, rows, rfl, R, fun i j m => ?_, by omega, by omega, fun H3 d ps s3 hd ed hp nd => ?_⟩
    · have := (((lk.mem i j).mp m).le ok.ne).2.1
      omega
    have eE : (fun i j => j ∈ rows i) = WW.Link ws l := funext fun i => funext fun j => propext (lk.mem i j)
    rw [eE] at hp
    have s03 := s2.trans s3
    have hd0 := s2.free hd
    walk_at "tx"
    refine RD.d_dnotin ?_
    walk_at "tx"
    refine ⟨d, _, rfl, DGet.k (k := Sum.inl (0 : Int)) ed, ?_⟩
    have e0 : valV (WW.Dk ps) (Sum.inl (0 : Int)) = (WW.look ps 0).map fun (d : Nat) => V.int d := WW.valV_Dk ps 0
    rw [e0]
    have sy : ∀ u v, WW.Link ws l u v → WW.Link ws l v u := fun _ _ => WW.Link.symm
    cases el : WW.look ps 0 with
    | none =>
      walk_at "tx"
      refine k .non H3 s03 (.inl ⟨rfl, fun t => ?_⟩)
      obtain ⟨r, dr⟩ := (WW.Rc.symm sy t).ds
      rw [(hp 0 r).mpr dr] at el
      cases el
    | some k0 =>
      have dk0 := (hp 0 k0).mp el
      walk_at "tx"
      refine RD.d_iteNT ?_
      walk_at "tx"
      refine ⟨by show 1 ≤ sizeLine; decide, fun wa hwa => ?_⟩
      have hwa0 := s03.free hwa
      have s4 := s03.trans (same_upd (o := HO.lst [V.int 0]) hwa)
      have e4 : upd H3 wa (.lst [V.int 0]) wa = some (.lst (Ns ([] ++ [0]))) := upd_same
      have ed4 : upd H3 wa (.lst [V.int 0]) d = some (.dK (WW.Dk ps)) := by rw [upd_ne (ne_of_none ed hwa)]; exact ed
      have s24 : Same H2 (upd H3 wa (.lst [V.int 0])) := s3.trans (same_upd hwa)
      have nwd : wa ≠ d := (ne_of_none ed hwa).symm
      generalize upd H3 wa (.lst [V.int 0]) = H4 at *
      have hwa2 : H2 wa = none := by
        cases e : H2 wa with
        | none => rfl
        | some o => rw [s3 _ _ e] at hwa; cases hwa
      walk_at "tx"
      refine ⟨fun m σ' H' => ∃ (i : Nat) (p : List Nat) (v : Nat), m = k0 - i ∧ Same H2 H' ∧ H' d = some (.dK (WW.Dk ps)) ∧ H' wa = some (.lst (Ns (p ++ [v]))) ∧ WW.Gr (WW.Link ws l) l.length k0 i (p ++ [v]) v ∧ v ≤ l.length ∧
          ∃ v5 v6 v7 : Option V, σ' = [some (.ref x), some (.str (WW.S l)), some (.ref L), some (.ref d), some (.ref wa), v5, v6, v7], ⟨_, 0, [], 0, rfl, s24, ed4, e4, WW.Gr.zero dk0, by omega, none, none, none, rfl⟩, ?_⟩
      clear s24 ed4 e4 s4 hwa
      rintro m σ' H5 ⟨i, p, v, rfl, s5, ed5, e5, g, vl, v5, v6, v7, rfl⟩
      have k40 : k0 + 1 ≤ l.length + 1 := dk0.bound fun s u hu => by
        cases s with
        | zero =>
          have : u = l.length := hu.1
          omega
        | succ s =>
          obtain ⟨z, _, e⟩ := hu.back
          have := (e.le ok.ne).2.1
          omega
      walk_at "tx"
      refine RD.d_ixL (SqL.of e5) (atI_last p v) ?_
      walk_at "tx"
      refine RD.iteN (fun c => ?_) (fun c => ?_)
      · have cv : v ≠ l.length := fun z => c (by rw [z])
        have il := g.lt cv
        refine ⟨fun σ' H' => ∃ (p : List Nat) (v : Nat), Same H2 H' ∧ H' d = some (.dK (WW.Dk ps)) ∧ H' wa = some (.lst (Ns (p ++ [v]))) ∧ WW.Gr (WW.Link ws l) l.length k0 (i + 1) (p ++ [v]) v ∧ v ≤ l.length ∧
          ∃ v5 v6 v7 : Option V, σ' = [some (.ref x), some (.str (WW.S l)), some (.ref L), some (.ref d), some (.ref wa), v5, v6, v7], ?_, ?_⟩
        · rintro σ' H' ⟨p', v', h1, h2, h3, h4, h5, h6⟩
          exact ⟨k0 - (i + 1), by omega, i + 1, p', v', rfl, h1, h2, h3, h4, h5, h6⟩
        · walk_at "tx"
          refine RD.d_ixL (SqL.of e5) (atI_last p v) ?_
          walk_at "tx"
          refine RowsAt.ix R s5 (i := v) (by omega) rfl (fun ra hra0 => ?_)
          have hra := s5 _ _ hra0
          refine ⟨ra, rfl, ⟨_, SqL.of hra⟩, fun D hD => ?_⟩
          have nDw : wa ≠ D := ne_of_none e5 hD
          have nDd : d ≠ D := ne_of_none ed5 hD
          have sD := same_upd (o := HO.lst []) hD
          have hD2 := s5.free hD
          have edge : ∀ u, u ∈ rows v ↔ WW.Link ws l v u := fun u => lk.mem v u
          have dist : ∀ u, u ∈ rows v → ∃ du, WW.look ps u = some du := fun u mu => by
            rcases g.d.step ((edge u).mp mu) with z | ⟨s, _, z⟩
            · exact ⟨_, (hp u _).mpr z⟩
            · exact ⟨_, (hp u _).mpr z⟩
          have dv := (hp v _).mpr g.d
          let f : Nat → Bool := fun u => decide ((WW.look ps u).getD 0 < k0 - i)
          have rl : (rows v).length ≤ 41 := WW.nodup_len 41 _ (List.Pairwise.imp (fun h => Nat.ne_of_lt h) (lk.up v)) (fun u mu => by have := (((edge u).mp mu).le ok.ne).2.1; omega)
          refine lc_list (K := K) (a := ra) (xs := Ns (rows v)) (fun j H' => Same H2 H' ∧ H' d = some (.dK (WW.Dk ps)) ∧ H' wa = some (.lst (Ns (p ++ [v]))) ∧ H' D = some (.lst (Ns (((rows v).take j).filter f)))) ⟨s5.trans sD, by rw [upd_ne nDd]; exact ed5, by rw [upd_ne nDw]; exact e5, upd_same⟩ ?_ ?_ ?_
          · rintro j H' _ ⟨s6, _⟩
            exact SqL.of (s6 _ _ hra0)
          · rintro j y H' hy ⟨s6, ed6, e6, eD⟩
            obtain ⟨u, hu, rfl⟩ := WW.Ns_get hy
            have mu := List.mem_of_getElem? hu
            obtain ⟨du, edu⟩ := dist u mu
            have tk : ((rows v).take (j + 1)).filter f = ((rows v).take j).filter f ++ (if f u = true then [u] else []) := by
              rw [List.take_succ, hu, List.filter_append]
              congr 1
              by_cases c : f u = true
              · rw [if_pos c]; simp [c]
              · rw [if_neg c]; simp [c]
            have fl : (((rows v).take j).filter f).length ≤ 41 := Nat.le_trans (List.length_filter_le ..) (by rw [List.length_take]; omega)
            walk_at "tx"
            refine ⟨d, _, rfl, .inl ⟨WW.Dk ps, Sum.inl (u : Int), .inl ed6, rfl, by rw [WW.valV_Dk, edu]; rfl⟩, ?_⟩
            walk_at "tx"
            refine ⟨d, _, rfl, .inl ⟨WW.Dk ps, Sum.inl (v : Int), .inl ed6, rfl, by rw [WW.valV_Dk, dv]; rfl⟩, ?_⟩
            walk_at "tx"
            refine RD.iteD (fun c1 => ?_) (fun c1 => ?_)
            · walk_at "tx"
              have fu : f u = true := decide_eq_true (by rw [edu]; show du < k0 - i; omega)
              rw [if_pos fu] at tk
              refine ⟨_, eD, by rw [WW.Ns_len]; exact Nat.lt_of_le_of_lt fl (by decide), fun b o e => ?_, by rw [upd_ne nDd]; exact ed6, by rw [upd_ne nDw]; exact e6, by rw [upd_same, WW.Ns_app, tk]⟩
              rw [upd_ne (ne_of_none e hD2)]; exact s6 _ _ e
            · have fu : ¬ f u = true := fun z => c1 (by have := of_decide_eq_true z; rw [edu] at this; have : du < k0 - i := this; omega)
              rw [if_neg fu, List.append_nil] at tk
              exact ⟨s6, ed6, e6, by rw [tk]; exact eD⟩
          · rintro H6 ⟨s6, ed6, e6, eD⟩
            rw [WW.Ns_len, List.take_length] at eD
            have inN : ∀ u, u ∈ (rows v).filter f ↔ WW.Link ws l v u ∧ ∃ du, WW.Ds (WW.Link ws l) l.length du u ∧ du < k0 - i := fun u => by
              rw [List.mem_filter]
              constructor
              · rintro ⟨mu, fu⟩
                obtain ⟨du, edu⟩ := dist u mu
                have := of_decide_eq_true fu
                rw [edu] at this
                exact ⟨(edge u).mp mu, du, (hp u du).mp edu, this⟩
              · rintro ⟨e, du, dd, lt⟩
                have edu := (hp u du).mpr dd
                exact ⟨(edge u).mpr e, decide_eq_true (by rw [edu]; exact lt)⟩
            obtain ⟨x0, d0, q1, q2, q3⟩ := g.some sy cv
            have ne : x0 ∈ (rows v).filter f := (inN x0).mpr ⟨q1, d0, q2, q3⟩
            have upF : ((rows v).filter f).Pairwise (· < ·) := (lk.up v).filter _
            cases hN : (rows v).filter f with
            | nil => rw [hN] at ne; cases ne
            | cons y ys =>
              rw [hN] at eD inN upF
              obtain ⟨ey, dy, dsy, dyl⟩ := (inN y).mp (List.mem_cons_self ..)
              have g2 := g.step sy cv ey dsy dyl (fun z d' ez dz lz => by
                rcases List.mem_cons.mp ((inN z).mpr ⟨ez, d', dz, lz⟩) with rfl | m
                · exact Nat.le_refl _
                · exact Nat.le_of_lt (List.rel_of_pairwise_cons upF m))
              have pl := g.isp.len
              walk_at "tx"
              refine ⟨RD.tyL e6, ?_⟩
              walk_at "tx"
              refine RD.d_ixL (SqL.of eD) (v := .int (y : Nat)) (atI_nat (j := 0) rfl) ?_
              walk_at "tx"
              refine RD.d_app e6 (by rw [WW.Ns_len]; exact Nat.lt_of_le_of_lt (by omega : (p ++ [v]).length ≤ 42) (by decide)) ?_
              rw [WW.Ns_app]
              exact ⟨p ++ [v], y, fun b o e => by rw [upd_ne (ne_of_none e hwa2)]; exact s6 _ _ e, by rw [upd_ne nwd.symm]; exact ed6, upd_same, g2, (ey.le ok.ne).2.1, _, _, _, rfl⟩
      · have cv : v = l.length := by omega
        subst cv
        walk_at "tx"
        refine ⟨wa, _, rfl, .inl ⟨SqL.of e5, fun t ht => ?_⟩⟩
        exact k (.ref t) _ (s2.trans (s5.trans (same_upd ht))) (.inr ⟨t, p ++ [l.length], k0, rfl, upd_same, g.lst, dk0.symm sy⟩)
end

section
variable {P : Program} {w : World} {K : PySem.W.Frag} {mg : Str → Option Value} {base : Heap}
theorem ok_zigzag (T : Top K mg) : FnOk P w K mg base CX0 8 T.f_zigzag T.fd_zigzag ["book", "word"] (spFew K T.C_Book) := by
  refine T.F_zigzag.ok sc_zigzag (fun vs H Q E h => ?_) (fun cdv A outer s H vs Q E hr h => ?_)
  · obtain ⟨x, ws, l, rfl, _⟩ := h; rfl
  · obtain ⟨x, ws, l, rfl, b, ok, hl, k⟩ := h
    refine ⟨_, (pss_cons (ps_expr (pe_call (ok_check_asked T) (hr.mono (by decide)) (by rfl) T.g_check_asked T.F_check_asked.kp T.b_check_asked .nil pass0 (pa_cons (pv 0) (pa_cons (pv 1) pa_nil))))
 (pss_one (ps_ret (pe_call (ok_fewest_walk T) (hr.mono (by decide)) (by rfl) T.g_fewest_walk T.F_fewest_walk.kp T.b_fewest_walk .nil pass0 (pa_cons (pv 0) (pa_cons (pv 1) pa_nil)))))), ?_⟩
    walk_at "tx"
    refine ⟨x, ws, l, rfl, b, hl, fun H1 s1 => ?_⟩
    walk_at "tx"
    refine ⟨x, ws, l, rfl, b.same s1, ok, hl, fun v H2 s2 hv => ?_⟩
    exact k v H2 (s1.trans s2) hv
end

/-! ### the costs of calm ways -/
open WW (Ns)
open CM (Cit Dj Al pushes)
def enc (q : Cit) : List Int := [(q.1.1 : Int), (q.1.2 : Int), (q.2.1 : Int), if q.2.2 = true then 1 else -1]
def kk (x : Nat × Bool) : List Key := [Sum.inl (x.1 : Int), Sum.inl (if x.2 = true then (1 : Int) else -1)]
theorem kk_inj {x y : Nat × Bool} (h : kk x = kk y) : x = y := by
  obtain ⟨a, u⟩ := x
  obtain ⟨b, v⟩ := y
  unfold kk at h
  obtain ⟨h1, h2⟩ := List.cons.inj h
  obtain ⟨h3, _⟩ := List.cons.inj h2
  have e1 := Sum.inl.inj h1
  have e2 := Sum.inl.inj h3
  dsimp only at e1 e2
  have : a = b := by omega
  subst this
  cases u <;> cases v <;> first | rfl | (simp at e2)
/-- the dict at d tells the costs ps -/
def CD (H : Hp) (d : Addr) (ps : List Cit) : Prop := ∃ kvs : List (List Key × V), H d = some (.dT kvs) ∧ kvs.length = ps.length ∧ (∀ x, (¬ ∃ p ∈ ps, p.2 = x) → valV kvs (kk x) = none) ∧ ∀ p ∈ ps, ∃ a, valV kvs (kk p.2) = some (.ref a) ∧ H a = some (.tup [.int p.1.1, .int p.1.2])
theorem CD.same {H H' : Hp} {d : Addr} {ps : List Cit} (h : CD H d ps) (s : Same H H') : CD H' d ps := by
  obtain ⟨kvs, e, l, n, y⟩ := h
  exact ⟨kvs, s _ _ e, l, n, fun p m => by obtain ⟨a, e1, e2⟩ := y p m; exact ⟨a, e1, s _ _ e2⟩⟩
/-- other objects written -/
theorem CD.upd {H : Hp} {d b : Addr} {o : HO} {ps : List Cit} (h : CD H d ps) (n : ∀ kvs, H b ≠ some (.dT kvs)) (m : ∀ vs, H b ≠ some (.tup vs)) : CD (upd H b o) d ps := by
  obtain ⟨kvs, e, l, k, y⟩ := h
  refine ⟨kvs, by rw [upd_ne (fun z => n kvs (by rw [← z]; exact e))]; exact e, l, k, fun p q => ?_⟩
  obtain ⟨a, e1, e2⟩ := y p q
  exact ⟨a, e1, by rw [upd_ne (fun z => m _ (by rw [← z]; exact e2))]; exact e2⟩
theorem CD.put {H : Hp} {d a : Addr} {ps : List Cit} {q : Cit} {kvs : List (List Key × V)} (h : CD H d ps) (e : H d = some (.dT kvs)) (ea : H a = some (.tup [.int q.1.1, .int q.1.2])) (u : ¬ ∃ p ∈ ps, p.2 = q.2) :
    CD (L2.upd H d (.dT (putK kvs (kk q.2) (.ref a)))) d (ps ++ [q]) := by
  obtain ⟨kvs', e', l, n, y⟩ := h
  rw [e] at e'
  cases e'
  have nv := n q.2 u
  refine ⟨_, upd_same, by rw [putK_new _ nv, List.length_append, List.length_append, l]; rfl, fun x hx => ?_, fun p m => ?_⟩
  · rw [valV_put]
    rw [if_neg (fun z => hx ⟨q, List.mem_append_right _ (List.mem_singleton.mpr rfl), (kk_inj z).symm⟩)]
    exact n x fun ⟨p, m, z⟩ => hx ⟨p, List.mem_append_left _ m, z⟩
  · have tu : ∀ b vs, H b = some (.tup vs) → L2.upd H d (.dT (putK kvs (kk q.2) (.ref a))) b = some (.tup vs) := fun b vs eb => by
      rw [upd_ne (fun z => by rw [z, e] at eb; cases eb)]; exact eb
    rcases List.mem_append.mp m with m | m
    · obtain ⟨b, e1, e2⟩ := y p m
      refine ⟨b, ?_, tu _ _ e2⟩
      rw [valV_put, if_neg (fun z => u ⟨p, m, kk_inj z⟩)]
      exact e1
    · rw [List.mem_singleton.mp m]
      refine ⟨a, ?_, tu _ _ ea⟩
      rw [valV_put, if_pos rfl]
def keyOf (H : Hp) : V → List Int
  | .ref a => match H a with
    | some (.tup vs) => vs.map fun v => match v with
      | .int i => i
      | _ => 0
    | _ => []
  | _ => []
theorem keyOf_tup {H : Hp} {a : Addr} {ns : List Int} (e : H a = some (.tup (ns.map V.int))) : keyOf H (.ref a) = ns := by
  show (match H a with
    | some (.tup vs) => vs.map fun v => match v with
      | .int i => i
      | _ => 0
    | _ => []) = ns
  rw [e]
  show (ns.map V.int).map _ = ns
  rw [List.map_map]
  exact List.map_id' _
/-- the queue: a heap of the items qs -/
structure QK (H : Hp) (zs : List V) (qs : List Cit) : Prop where
  k : ∀ x ∈ zs, OQ.KeyT H x (keyOf H x)
  hl : HQ.HL (fun u v => HT.lexLt (keyOf H u) (keyOf H v)) zs
  pm : (zs.map (keyOf H)).Perm (qs.map enc)
theorem hl_congr {f g : V → List Int} {zs : List V} (e : ∀ x ∈ zs, f x = g x) (h : HQ.HL (fun u v => HT.lexLt (f u) (f v)) zs) : HQ.HL (fun u v => HT.lexLt (g u) (g v)) zs := fun c u v c0 e1 e2 => by
  have := h c u v c0 e1 e2
  dsimp only at this ⊢
  rw [← e u (List.mem_of_getElem? e1), ← e v (List.mem_of_getElem? e2)]
  exact this
theorem QK.mov {H H' : Hp} {zs : List V} {qs : List Cit} (h : QK H zs qs) (s : ∀ t ns, H t = some (.tup ns) → H' t = some (.tup ns)) : QK H' zs qs := by
  have e : ∀ x ∈ zs, keyOf H x = keyOf H' x := fun x m => by
    obtain ⟨t, ex, et⟩ := h.k x m
    rw [ex] at et ⊢
    rw [keyOf_tup (s _ _ et)]
  refine ⟨fun x m => ?_, hl_congr e h.hl, ?_⟩
  · obtain ⟨t, ex, et⟩ := h.k x m
    rw [← e x m]
    exact ⟨t, ex, s _ _ et⟩
  · rw [← List.map_congr_left e]
    exact h.pm
theorem QK.nil {H : Hp} : QK H [] [] := ⟨(fun _ m => nomatch m), (fun c u v _ e => nomatch e), List.Perm.refl _⟩
theorem enc_lt {a b : Cit} (h : HT.lexLt (enc a) (enc b) = false) : CM.le2 b.1 a.1 := by
  unfold enc at h
  rw [HT.lexLt_cons] at h
  unfold CM.le2
  by_cases c : (a.1.1 : Int) = b.1.1
  · rw [if_pos c, HT.lexLt_cons] at h
    by_cases d : (a.1.2 : Int) = b.1.2
    · omega
    · rw [if_neg d] at h
      have := of_decide_eq_false h
      omega
  · rw [if_neg c] at h
    have := of_decide_eq_false h
    omega
theorem enc_tup (q : Cit) : ((enc q).map V.int : List V) = [.int q.1.1, .int q.1.2, .int q.2.1, .int (if q.2.2 = true then 1 else -1)] := rfl
/-- the first item -/
theorem QK.first {H : Hp} {z : V} {zr : List V} {qs : List Cit} (h : QK H (z :: zr) qs) : ∃ q t, z = .ref t ∧ H t = some (.tup ((enc q).map V.int)) ∧ qs.Perm (q :: qs.erase q) ∧ (zr.map (keyOf H)).Perm ((qs.erase q).map enc) ∧ ∀ x ∈ qs, CM.le2 q.1 x.1 := by
  obtain ⟨t, rfl, et⟩ := h.k z List.mem_cons_self
  have m1 : keyOf H (.ref t) ∈ qs.map enc := h.pm.mem_iff.mp List.mem_cons_self
  obtain ⟨q, mq, eq⟩ := List.mem_map.mp m1
  refine ⟨q, t, rfl, by rw [eq]; exact et, List.perm_cons_erase mq, ?_, fun x mx => ?_⟩
  · have p1 := h.pm.trans ((List.perm_cons_erase mq).map enc)
    rw [List.map_cons, List.map_cons, eq] at p1
    exact p1.cons_inv
  · have m2 : enc x ∈ (V.ref t :: zr).map (keyOf H) := h.pm.mem_iff.mpr (List.mem_map.mpr ⟨x, mx, rfl⟩)
    obtain ⟨v, mv, ev⟩ := List.mem_map.mp m2
    obtain ⟨c, hc⟩ := List.getElem?_of_mem mv
    have := h.hl.least (lt := fun u v => HT.lexLt (keyOf H u) (keyOf H v)) ⟨fun x y => HQ.lexLt_swo.asym _ _, fun x y z => HQ.lexLt_swo.tr _ _ _⟩ (x := .ref t) rfl c v hc
    rw [ev, ← eq] at this
    exact enc_lt this
theorem QK.pop {H : Hp} {z : V} {zr ws : List V} {qs rest : List Cit} (h : QK H (z :: zr) qs) (pz : (zr.map (keyOf H)).Perm (rest.map enc)) (pw : ws.Perm zr) (hw : HQ.HL (fun u v => HT.lexLt (keyOf H u) (keyOf H v)) ws) : QK H ws rest :=
  ⟨fun x m => h.k x (List.mem_cons_of_mem _ (pw.mem_iff.mp m)), hw, (pw.map _).trans pz⟩
theorem QK.push {H : Hp} {t : Addr} {zs ws : List V} {qs : List Cit} {q : Cit} (h : QK H zs qs) (et : H t = some (.tup ((enc q).map V.int))) (pw : ws.Perm (zs ++ [.ref t])) (hw : HQ.HL (fun u v => HT.lexLt (keyOf H u) (keyOf H v)) ws) : QK H ws (qs ++ [q]) := by
  refine ⟨fun x m => ?_, hw, ?_⟩
  · rcases List.mem_append.mp (pw.mem_iff.mp m) with m | m
    · exact h.k x m
    · rw [List.mem_singleton.mp m, keyOf_tup et]; exact ⟨t, rfl, et⟩
  · have := pw.map (keyOf H)
    rw [List.map_append, List.map_singleton, keyOf_tup et] at this
    refine this.trans ?_
    rw [List.map_append, List.map_singleton]
    exact h.pm.append_right _
theorem mov_lst {H : Hp} {a : Addr} {xs : List V} {o : HO} (e : H a = some (.lst xs)) : ∀ t ns, H t = some (.tup ns) → L2.upd H a o t = some (.tup ns) := fun t ns et => by
  rw [upd_ne (fun z => by rw [z, e] at et; cases et)]; exact et
theorem QK.len {H : Hp} {zs : List V} {qs : List Cit} (h : QK H zs qs) : zs.length = qs.length := by
  have := h.pm.length_eq
  rwa [List.length_map, List.length_map] at this
theorem d_four {K : PySem.W.Frag} {n i j l m : Nat} {a : Addr} {x y z u : V} {σ : L2.St} {H : Hp} {R : L2.St → Hp → Prop} (en : n = 4) (e : SqT K H a [x, y, z, u]) (k : R ((((σ.set i (some x)).set j (some y)).set l (some z)).set m (some u)) H) :
    gTup K n (gCons (gName i) (gCons (gName j) (gCons (gName l) (gCons (gName m) gNil)))) (.ref a) σ H R := ⟨a, [x, y, z, u], rfl, e, en.symm, x, [y, z, u], rfl, y, [z, u], rfl, z, [u], rfl, u, [], rfl, rfl, k⟩
def sgn (b : Bool) : Int := if b = true then 1 else -1
def spBetween : Sp := fun vs H Q _ => ∃ i j : Nat, vs = [.int i, .int j] ∧ Q (.int (sgn (decide (i < j)))) H
def spCosts (K : PySem.W.Frag) : Sp := fun vs H Q _ => ∃ (L : Addr) (g : Nat) (rows : Nat → List Nat), vs = [.ref L, .int g] ∧ RowsAt H L (g + 1) rows ∧ (∀ i j, j ∈ rows i → i ∈ rows j) ∧ (∀ i j, j ∈ rows i → i ≤ g ∧ j ≤ g ∧ i ≠ j) ∧ (∀ i, (rows i).Nodup) ∧ g ≤ 40 ∧
  ∀ H' d ps, Same H H' → H d = none → CD H' d ps → Al (fun i j => j ∈ rows i) g ps → Q (.ref d) H'
section
variable {P : Program} {w : World} {K : PySem.W.Frag} {mg : Str → Option Value} {base : Heap}
theorem ok_way_between (T : Top K mg) : FnOk P w K mg base CX0 1 T.f_way_between T.fd_way_between ["here", "there"] spBetween := by
  refine T.F_way_between.ok sc_way_between (fun vs H Q E h => ?_) (fun cdv A outer s H vs Q E hr h => ?_)
  · obtain ⟨i, j, rfl, _⟩ := h; rfl
  · obtain ⟨i, j, rfl, k⟩ := h
    refine ⟨_, (pss_one (ps_ret (pe_ifExp (pt_cmpR op_lt (pv 0) (pv 1) (nomark _)) (pe_glob (v := V.int 1) (by rfl) T.g_UP ⟨_, rfl⟩) (pe_glob (v := V.int (-1)) (by rfl) T.g_DOWN ⟨_, rfl⟩)))), ?_⟩
    walk_at "tx"
    unfold sgn at k
    refine RD.iteD (fun c => ?_) (fun c => ?_)
    · walk_at "tx"
      rw [decide_eq_true (by omega), if_pos rfl] at k
      exact k
    · walk_at "tx"
      rw [decide_eq_false (by omega), if_neg (by decide)] at k
      exact k
theorem ok_costs_to (T : Top K mg) : FnOk P w K mg base CX0 3 T.f_costs_to T.fd_costs_to ["links", "goal"] (spCosts K) := by
  refine T.F_costs_to.ok sc_costs_to (fun vs H Q E h => ?_) (fun cdv A outer s H vs Q E hr h => ?_)
  · obtain ⟨L, g, rows, rfl, _⟩ := h; rfl
  · obtain ⟨L, g, rows, rfl, R, sy, le, nd, g40, k⟩ := h
    refine ⟨_, (pss_cons (ps_set (i := 2) sc_costs_to.nd rfl (Or.inl rfl) pe_dnewT)
 (pss_cons (ps_set (i := 3) sc_costs_to.nd rfl (Or.inl rfl) (pe_lst (pa_cons (pe_tup (pa_cons pe_int (pa_cons pe_int (pa_cons (pv 1) (pa_cons (pe_glob (v := V.int 1) (by rfl) T.g_UP ⟨_, rfl⟩) pa_nil))))) pa_nil)))
 (pss_cons (ps_while PassesOwn.never (pt_truth (pv 3) (fun _ => rfl))
 (pss_cons (ps_asg (pe_callBfun (OQ.cr_hpop hr.units) (by rfl) T.g_heappop (pa_cons (pv 3) pa_nil)) (pg_tup (by rfl) (pgs_cons (pg_name (i := 4) sc_costs_to.nd rfl (Or.inl rfl)) (pgs_cons (pg_name (i := 5) sc_costs_to.nd rfl (Or.inl rfl)) (pgs_cons (pg_name (i := 6) sc_costs_to.nd rfl (Or.inl rfl)) (pgs_cons (pg_name (i := 7) sc_costs_to.nd rfl (Or.inl rfl)) pgs_nil))))))
 (pss_cons (ps_if (pt_cmp (pc_din (hu_of hr) (pe_tup (pa_cons (pv 6) (pa_cons (pv 7) pa_nil))) (pv 2)))
 (pss_one ps_continue)
 pss_nil)
 (pss_cons (ps_dput (hu_of hr) (pv 2) (pe_tup (pa_cons (pv 6) (pa_cons (pv 7) pa_nil))) (pe_tup (pa_cons (pv 4) (pa_cons (pv 5) pa_nil))) rfl)
 (pss_one (ps_for PassesOwn.never rfl (pi_list (pe_ix ix_list (pv 0) (pv 6) (fun _ _ => rfl))) (pg_name (i := 8) sc_costs_to.nd rfl (Or.inl rfl))
 (pss_one (ps_if (pt_cmpR op_eq (pe_call (ok_way_between T) (hr.mono (by decide)) (by rfl) T.g_way_between T.F_way_between.kp T.b_way_between .nil pass0 (pa_cons (pv 8) (pa_cons (pv 6) pa_nil))) (pv 7) (nomark _))
 (pss_cons (ps_expr (pe_callBfun (OQ.cr_hpush hr.units) (by rfl) T.g_heappush (pa_cons (pv 3) (pa_cons (pe_tup (pa_cons (pv 4) (pa_cons (pe_op op_add (pv 5) pe_int) (pa_cons (pv 8) (pa_cons (pv 7) pa_nil))))) pa_nil))))
 (pss_one (ps_expr (pe_callBfun (OQ.cr_hpush hr.units) (by rfl) T.g_heappush (pa_cons (pv 3) (pa_cons (pe_tup (pa_cons (pe_op op_add (pv 4) pe_int) (pa_cons (pe_op op_add (pv 5) pe_int) (pa_cons (pv 8) (pa_cons (pe_un un_neg (pv 7)) pa_nil))))) pa_nil))))))
 pss_nil))))))))
 (pss_one (ps_ret (pv 2)))))), ?_⟩
    let E : Nat → Nat → Prop := fun i j => j ∈ rows i
    have bd : ∀ t n s w, CM.Cs E g t n s w → s ≤ g := fun t n s w ⟨p, c⟩ => by
      cases c with
      | zero => exact Nat.le_refl _
      | step e _ => exact (le _ _ e).1
    walk_at "tx"
    intro d hd
    have s1 := same_upd (o := HO.dT []) hd
    have e1 : upd H d (.dT []) d = some (.dT []) := upd_same
    generalize upd H d (.dT []) = H1 at *
    walk_at "tx"
    refine ⟨by show 4 ≤ sizeLine; decide, fun t ht => ?_⟩
    have s2 := s1.trans (same_upd (o := HO.tup [V.int 0, V.int 0, V.int (g : Nat), V.int 1]) ht)
    have e2 : upd H1 t (.tup [V.int 0, V.int 0, V.int (g : Nat), V.int 1]) t = some (.tup ((enc ((0, 0), (g, true))).map V.int)) := upd_same
    have ed2 : upd H1 t (.tup [V.int 0, V.int 0, V.int (g : Nat), V.int 1]) d = some (.dT []) := by rw [upd_ne (ne_of_none e1 ht)]; exact e1
    generalize upd H1 t (.tup [V.int 0, V.int 0, V.int (g : Nat), V.int 1]) = H2 at *
    walk_at "tx"
    refine ⟨by show 1 ≤ sizeLine; decide, fun qa hqa => ?_⟩
    have hqa0 := s2.free hqa
    have s3 := s2.trans (same_upd (o := HO.lst [V.ref t]) hqa)
    have e3 : upd H2 qa (.lst [V.ref t]) qa = some (.lst [V.ref t]) := upd_same
    have et3 : upd H2 qa (.lst [V.ref t]) t = some (.tup ((enc ((0, 0), (g, true))).map V.int)) := by rw [upd_ne (ne_of_none e2 hqa)]; exact e2
    have ed3 : upd H2 qa (.lst [V.ref t]) d = some (.dT []) := by rw [upd_ne (ne_of_none ed2 hqa)]; exact ed2
    have nqd : qa ≠ d := (ne_of_none ed2 hqa).symm
    generalize upd H2 qa (.lst [V.ref t]) = H3 at *
    walk_at "tx"
    have q0 : QK H3 [.ref t] [((0, 0), (g, true))] := ⟨fun x m => by rw [List.mem_singleton.mp m, keyOf_tup et3]; exact ⟨t, rfl, et3⟩, fun c u v c0 e1 e2 => by
      have := (List.getElem?_eq_some_iff.mp e1).1
      simp at this; omega, by rw [List.map_singleton, keyOf_tup et3]; exact List.Perm.refl _⟩
    have c0 : CD H3 d [] := ⟨[], ed3, rfl, (fun _ _ => rfl), (fun _ m => nomatch m)⟩
    clear et3 ed3 e2 ed2 hqa s2 ht H2 e1 s1 H1
    refine ⟨fun m σ' H' => ∃ ps qs zs, m = 200 * (100 - ps.length) + qs.length ∧ qs.length ≤ 82 * ps.length + 1 ∧ Same H H' ∧ CD H' d ps ∧ H' qa = some (.lst zs) ∧ QK H' zs qs ∧ Dj E g ps qs ∧ ∃ v4 v5 v6 v7 v8 : Option V, σ' = [some (.ref L), some (.int g), some (.ref d), some (.ref qa), v4, v5, v6, v7, v8],
      ⟨_, [], [((0, 0), (g, true))], [.ref t], rfl, Nat.le_refl _, s3, c0, e3, q0, Dj.zero, none, none, none, none, none, rfl⟩, ?_⟩
    clear c0 q0 e3 s3 t H3
    rintro m σ' H' ⟨ps, qs, zs, rfl, ql, s1, cd, eq, qk, D, v4, v5, v6, v7, v8, rfl⟩
    walk_at "tx"
    refine ⟨_, .inl ⟨_, SqL.of eq, rfl⟩, ?_⟩
    cases zs with
    | nil =>
      refine RD.d_iteF ?_
      walk_at "tx"
      have qn : qs = [] := by
        have := qk.pm.length_eq
        rw [List.length_map, List.length_map] at this
        exact List.length_eq_zero_iff.mp this.symm
      subst qn
      exact k H' d ps s1 hd cd (D.al bd)
    | cons z zr =>
      refine RD.d_iteT ?_
      obtain ⟨q, t, rfl, et, pq, pz, least⟩ := qk.first
      have D2 : Dj E g ps (q :: qs.erase q) := D.perm fun x => pq.mem_iff.symm
      have least2 : ∀ x ∈ q :: qs.erase q, CM.le2 q.1 x.1 := fun x m => least x (pq.mem_iff.mpr m)
      have lq : qs.length = (qs.erase q).length + 1 := pq.length_eq
      generalize qs.erase q = rest at *
      refine ⟨fun σ' H' => ∃ ps' qs' zs', 200 * (100 - ps'.length) + qs'.length < 200 * (100 - ps.length) + qs.length ∧ qs'.length ≤ 82 * ps'.length + 1 ∧ Same H H' ∧ CD H' d ps' ∧ H' qa = some (.lst zs') ∧ QK H' zs' qs' ∧ Dj E g ps' qs' ∧ ∃ v4 v5 v6 v7 v8 : Option V, σ' = [some (.ref L), some (.int g), some (.ref d), some (.ref qa), v4, v5, v6, v7, v8], ?_, ?_⟩
      · rintro σ' H' ⟨ps', qs', zs', lt', l0, h1, h2, h3, h4, h5, v4, v5, v6, v7, v8, rfl⟩
        exact ⟨_, lt', ps', qs', zs', rfl, l0, h1, h2, h3, h4, h5, v4, v5, v6, v7, v8, rfl⟩
      · walk_at "tx"
        refine ⟨qa, .ref t, zr, keyOf H', rfl, eq, qk.k, qk.hl, fun ws pw hw => ?_⟩
        have qk2 := (qk.pop pz pw hw).mov (mov_lst (o := .lst ws) eq)
        have cd2 : CD (upd H' qa (.lst ws)) d ps := cd.upd (fun _ z => by rw [eq] at z; cases z) (fun _ z => by rw [eq] at z; cases z)
        have s2 : Same H (upd H' qa (.lst ws)) := fun b o e => by rw [upd_ne (ne_of_none e hqa0)]; exact s1 _ _ e
        have et2 := mov_lst (o := .lst ws) eq _ _ et
        have eq2 : upd H' qa (.lst ws) qa = some (.lst ws) := upd_same
        generalize upd H' qa (.lst ws) = H2 at *
        clear qk cd s1 et eq pw hw pz D pq least
        refine d_four rfl (SqT.of et2) ?_
        walk_at "tx"
        refine RD.d_din ?_
        walk_at "tx"
        refine ⟨by show 2 ≤ sizeLine; decide, fun ka hka => ?_⟩
        have sk := same_upd (o := HO.tup [V.int q.2.1, V.int (if q.2.2 = true then 1 else -1)]) hka
        have ek : upd H2 ka (.tup [V.int q.2.1, V.int (if q.2.2 = true then 1 else -1)]) ka = some (.tup ((kk q.2).map kV)) := upd_same
        have qk3 := qk2.mov (fun _ _ e => sk _ _ e)
        have cd3 := cd2.same sk
        have s3 := s2.trans sk
        have eq3 := sk _ _ eq2
        generalize upd H2 ka (.tup [V.int q.2.1, V.int (if q.2.2 = true then 1 else -1)]) = H3 at *
        clear qk2 cd2 s2 et2 eq2 sk hka
        obtain ⟨kvs, edk, lk, nk, yk⟩ := id cd3
        walk_at "tx"
        refine ⟨d, _, rfl, DGet.t (k := kk q.2) edk ek, ?_⟩
        by_cases st : ∃ p ∈ ps, p.2 = q.2
        · have e0 : (valV kvs (kk q.2)).isSome = true := by
            obtain ⟨p, mp, ep⟩ := st
            obtain ⟨a, ea, _⟩ := yk p mp
            rw [← ep, ea]; rfl
          rw [e0]
          refine ⟨true, rfl, RD.d_iteT ?_⟩
          walk_at "tx"
          exact ⟨ps, rest, ws, by omega, by omega, s3, cd3, eq3, qk3, D2.skip st, _, _, _, _, _, rfl⟩
        · rw [nk _ st]
          refine ⟨false, rfl, RD.d_iteF ?_⟩
          walk_at "tx"
          refine RD.d_dput ?_
          walk_at "tx"
          refine ⟨by show 2 ≤ sizeLine; decide, fun va hva => ?_⟩
          have sv := same_upd (o := HO.tup [V.int q.1.1, V.int q.1.2]) hva
          have ev : upd H3 va (.tup [V.int q.1.1, V.int q.1.2]) va = some (.tup [V.int q.1.1, V.int q.1.2]) := upd_same
          have qk4 := qk3.mov (fun _ _ e => sv _ _ e)
          have cd4 := cd3.same sv
          have s4 := s3.trans sv
          have eq4 := sv _ _ eq3
          have edk4 := sv _ _ edk
          generalize upd H3 va (.tup [V.int q.1.1, V.int q.1.2]) = H4 at *
          clear qk3 cd3 s3 eq3 edk sv hva ek yk
          walk_at "tx"
          refine ⟨by show 2 ≤ sizeLine; decide, fun kb hkb => ?_⟩
          have sk := same_upd (o := HO.tup [V.int q.2.1, V.int (if q.2.2 = true then 1 else -1)]) hkb
          have ek : upd H4 kb (.tup [V.int q.2.1, V.int (if q.2.2 = true then 1 else -1)]) kb = some (.tup ((kk q.2).map kV)) := upd_same
          have qk5 := qk4.mov (fun _ _ e => sk _ _ e)
          have cd5 := cd4.same sk
          have s5 := s4.trans sk
          have eq5 := sk _ _ eq4
          have edk5 := sk _ _ edk4
          have ev5 := sk _ _ ev
          generalize upd H4 kb (.tup [V.int q.2.1, V.int (if q.2.2 = true then 1 else -1)]) = H5 at *
          clear qk4 cd4 s4 eq4 edk4 sk hkb ev
          have pl := D2.len bd
          have D3 := D2.new st least2 (row := rows q.2.1) (fun e => ⟨fun m => sy _ _ m, fun m => sy _ _ m⟩)
          have qg := bd _ _ _ _ (D2.qc q List.mem_cons_self)
          have ps3 : (ps ++ [q]).length = ps.length + 1 := by rw [List.length_append]; rfl
          have plen := D3.len bd
          refine ⟨d, _, rfl, DPut.t (k := kk q.2) edk5 ek (by rw [lk]; exact Nat.lt_of_le_of_lt (Nat.le_trans pl (by omega : 2 * (g + 1) ≤ 82)) (by decide)), ?_⟩
          have cd6 := cd5.put edk5 ev5 st
          have nd6 : ∀ t ns, H5 t = some (.tup ns) → upd H5 d (.dT (putK kvs (kk q.2) (.ref va))) t = some (.tup ns) := fun t ns et => by
            rw [upd_ne (fun z => by rw [z, edk5] at et; cases et)]; exact et
          have qk6 := qk5.mov nd6
          have s6 : Same H (upd H5 d (.dT (putK kvs (kk q.2) (.ref va)))) := fun b o e => by rw [upd_ne (ne_of_none e hd)]; exact s5 _ _ e
          have eq6 : upd H5 d (.dT (putK kvs (kk q.2) (.ref va))) qa = some (.lst ws) := by rw [upd_ne nqd]; exact eq5
          generalize upd H5 d (.dT (putK kvs (kk q.2) (.ref va))) = H6 at *
          clear cd5 edk5 ev5 qk5 nd6 s5 eq5 ek lk nk
          walk_at "tx"
          refine RowsAt.ix R s6 (i := q.2.1) (by omega) rfl (fun ra hra0 => ?_)
          refine ⟨ra, rfl, ⟨_, SqL.of (s6 _ _ hra0)⟩, ?_⟩
          have rl : (rows q.2.1).length ≤ 41 := WW.nodup_len 41 _ (nd _) (fun u mu => by have := (le _ _ mu).2.1; omega)
          have pushl : ∀ j, (pushes q ((rows q.2.1).take j)).length ≤ 82 := fun j => by
            have := CM.pushes_len q ((rows q.2.1).take j)
            rw [List.length_take] at this
            omega
          refine RD.f_list (K := K) (a := ra) (xs := Ns (rows q.2.1)) (fun j σ' H' => Same H H' ∧ CD H' d (ps ++ [q]) ∧ (∃ zs', H' qa = some (.lst zs') ∧ QK H' zs' (rest ++ pushes q ((rows q.2.1).take j))) ∧
              ∃ v8 : Option V, σ' = [some (.ref L), some (.int g), some (.ref d), some (.ref qa), some (.int q.1.1), some (.int q.1.2), some (.int q.2.1), some (.int (if q.2.2 = true then 1 else -1)), v8])
            ⟨s6, cd6, ⟨ws, eq6, by rw [List.take_zero]; show QK H6 ws (rest ++ []); rw [List.append_nil]; exact qk6⟩, v8, rfl⟩ ?_ ?_ ?_
          · rintro j σ' H' _ ⟨q1, _⟩
            exact SqL.of (q1 _ _ hra0)
          · rintro j y σ' H7 hy ⟨s7, cd7, ⟨z7, eq7, qk7⟩, v8, rfl⟩
            obtain ⟨e, he, rfl⟩ := WW.Ns_get hy
            have tk : (rows q.2.1).take (j + 1) = (rows q.2.1).take j ++ [e] := by rw [List.take_succ, he]; rfl
            have ps2 : pushes q ((rows q.2.1).take (j + 1)) = pushes q ((rows q.2.1).take j) ++ (if decide (e < q.2.1) = q.2.2 then [((q.1.1, q.1.2 + 1), (e, q.2.2)), ((q.1.1 + 1, q.1.2 + 1), (e, !q.2.2))] else []) := by
              rw [tk, CM.pushes_snoc]
            have pl7 := pushl j
            have zl7 := qk7.len
            rw [List.length_append] at zl7
            walk_at "tx"
            refine ⟨e, q.2.1, rfl, ?_⟩
            walk_at "tx"
            by_cases c : decide (e < q.2.1) = q.2.2
            · rw [if_pos c] at ps2
              rw [decide_eq_true (by rw [c]; rfl)]
              refine RD.d_iteT ?_
              walk_at "tx"
              refine ⟨by show 4 ≤ sizeLine; decide, fun ta hta => ?_⟩
              have sta := same_upd (o := HO.tup [V.int q.1.1, V.int ((q.1.2 : Int) + 1), V.int (e : Nat), V.int (if q.2.2 = true then 1 else -1)]) hta
              have eta : upd H7 ta (.tup [V.int q.1.1, V.int ((q.1.2 : Int) + 1), V.int (e : Nat), V.int (if q.2.2 = true then 1 else -1)]) ta = some (.tup ((enc ((q.1.1, q.1.2 + 1), (e, q.2.2))).map V.int)) := by rw [upd_same]; rfl
              have qka := qk7.mov (fun _ _ e => sta _ _ e)
              have cda := cd7.same sta
              have sa := s7.trans sta
              have eqa := sta _ _ eq7
              generalize upd H7 ta (.tup [V.int q.1.1, V.int ((q.1.2 : Int) + 1), V.int (e : Nat), V.int (if q.2.2 = true then 1 else -1)]) = H8 at *
              clear qk7 cd7 s7 eq7 sta hta
              walk_at "tx"
              refine ⟨qa, .ref ta, z7, keyOf H8, rfl, eqa, qka.k, ⟨ta, rfl, by rw [keyOf_tup eta]; exact eta⟩, qka.hl, Nat.le_trans (Nat.succ_le_succ (by omega : z7.length ≤ 7000)) (by decide), fun w8 pa ha => ?_⟩
              have qqa := (qka.push eta pa ha).mov (mov_lst (o := .lst w8) eqa)
              have cca : CD (upd H8 qa (.lst w8)) d (ps ++ [q]) := cda.upd (fun _ z => by rw [eqa] at z; cases z) (fun _ z => by rw [eqa] at z; cases z)
              have ssa : Same H (upd H8 qa (.lst w8)) := fun b o e => by rw [upd_ne (ne_of_none e hqa0)]; exact sa _ _ e
              have eea : upd H8 qa (.lst w8) qa = some (.lst w8) := upd_same
              generalize upd H8 qa (.lst w8) = H9 at *
              have wla := qqa.len
              simp only [List.length_append, List.length_singleton] at wla
              clear qka cda sa eqa eta pa ha
              walk_at "tx"
              refine ⟨by show 4 ≤ sizeLine; decide, fun tb htb => ?_⟩
              have stb := same_upd (o := HO.tup [V.int ((q.1.1 : Int) + 1), V.int ((q.1.2 : Int) + 1), V.int (e : Nat), V.int (-(if q.2.2 = true then 1 else -1))]) htb
              have etb : upd H9 tb (.tup [V.int ((q.1.1 : Int) + 1), V.int ((q.1.2 : Int) + 1), V.int (e : Nat), V.int (-(if q.2.2 = true then 1 else -1))]) tb = some (.tup ((enc ((q.1.1 + 1, q.1.2 + 1), (e, !q.2.2))).map V.int)) := by rw [upd_same]; cases q.2.2 <;> rfl
              have qkb := qqa.mov (fun _ _ e => stb _ _ e)
              have cdb := cca.same stb
              have sb := ssa.trans stb
              have eqb := stb _ _ eea
              generalize upd H9 tb (.tup [V.int ((q.1.1 : Int) + 1), V.int ((q.1.2 : Int) + 1), V.int (e : Nat), V.int (-(if q.2.2 = true then 1 else -1))]) = HA at *
              clear qqa cca ssa eea stb htb
              walk_at "tx"
              refine ⟨qa, .ref tb, w8, keyOf HA, rfl, eqb, qkb.k, ⟨tb, rfl, by rw [keyOf_tup etb]; exact etb⟩, qkb.hl, Nat.le_trans (Nat.succ_le_succ (by omega : w8.length ≤ 7000)) (by decide), fun w9 pb hb => ?_⟩
              have qqb := (qkb.push etb pb hb).mov (mov_lst (o := .lst w9) eqb)
              have ccb : CD (upd HA qa (.lst w9)) d (ps ++ [q]) := cdb.upd (fun _ z => by rw [eqb] at z; cases z) (fun _ z => by rw [eqb] at z; cases z)
              have ssb : Same H (upd HA qa (.lst w9)) := fun b o e => by rw [upd_ne (ne_of_none e hqa0)]; exact sb _ _ e
              have eeb : upd HA qa (.lst w9) qa = some (.lst w9) := upd_same
              generalize upd HA qa (.lst w9) = HB at *
              have wlb := qqb.len
              simp only [List.length_append, List.length_singleton] at wlb
              clear qkb cdb sb eqb etb pb hb
              rw [ps2]
              rw [List.append_assoc, List.append_assoc] at qqb
              exact ⟨ssb, ccb, ⟨w9, eeb, qqb⟩, _, rfl⟩
            · rw [if_neg c, List.append_nil] at ps2
              rw [decide_eq_false (by intro z; apply c; revert z; unfold sgn; cases decide (e < q.2.1) <;> cases q.2.2 <;> decide)]
              refine RD.d_iteF ?_
              walk_at "tx"
              exact ⟨s7, cd7, ⟨z7, eq7, by rw [ps2]; exact qk7⟩, _, rfl⟩
          · rintro σ' H7 ⟨s7, cd7, ⟨z7, eq7, qk7⟩, v8, rfl⟩
            rw [WW.Ns_len, List.take_length] at qk7
            have pl7 := pushl (rows q.2.1).length
            rw [List.take_length] at pl7
            refine ⟨ps ++ [q], rest ++ pushes q (rows q.2.1), z7, ?_, ?_, s7, cd7, eq7, qk7, D3, _, _, _, _, _, rfl⟩
            · rw [ps3, List.length_append]
              omega
            · rw [ps3, List.length_append]
              omega
end

/-! ### the calmest walk -/
open WW (Ns)
open CM (Cit Al)
/-- what calmest tells: nothing, or the best of the ways -/
def CalmAt (H : Hp) (ws : List WW.Wd) (l : WW.Wd) (v : V) : Prop := (v = .non ∧ ¬ WW.Told ws l) ∨ ∃ t T N p, v = .ref t ∧ H t = some (.tup (Ns (0 :: p))) ∧ CM.Best (WW.Link ws l) l.length T N 0 true p
/-- by m the costs q.1 at q.2 are told -/
def good (ps : List Cit) (q : Cit) (m : Nat) : Prop := ∃ p ∈ ps, p.2 = (m, decide (q.2.1 < m)) ∧ q.1.1 = p.1.1 + (if decide (q.2.1 < m) = q.2.2 then 0 else 1) ∧ q.1.2 = p.1.2 + 1
instance {ps : List Cit} {q : Cit} {m : Nat} : Decidable (good ps q m) := inferInstanceAs (Decidable (∃ p ∈ ps, _ ∧ _ ∧ _))
/-- the tuples of the spots l, with the ways to them -/
def GS (H : Hp) (s : Nat) (gs : List V) (l : List Nat) : Prop := gs.length = l.length ∧ ∀ (i m : Nat), l[i]? = some m → ∃ r, gs[i]? = some (V.ref r) ∧ H r = some (.tup [.int (m : Nat), .int (sgn (decide (s < m)))])
theorem GS.mov {H H' : Hp} {s : Nat} {gs : List V} {l : List Nat} (h : GS H s gs l) (k : ∀ t ns, H t = some (.tup ns) → H' t = some (.tup ns)) : GS H' s gs l := ⟨h.1, fun i m e => by obtain ⟨r, e1, e2⟩ := h.2 i m e; exact ⟨r, e1, k _ _ e2⟩⟩
theorem GS.snoc {H : Hp} {s m : Nat} {gs : List V} {l : List Nat} {r : Addr} (h : GS H s gs l) (e : H r = some (.tup [.int (m : Nat), .int (sgn (decide (s < m)))])) : GS H s (gs ++ [V.ref r]) (l ++ [m]) := by
  refine ⟨by rw [List.length_append, List.length_append, h.1]; rfl, fun i m' e' => ?_⟩
  by_cases c : i < l.length
  · rw [List.getElem?_append_left c] at e'
    obtain ⟨r', e1, e2⟩ := h.2 i m' e'
    exact ⟨r', by rw [List.getElem?_append_left (by rw [h.1]; exact c)]; exact e1, e2⟩
  · have li := (List.getElem?_eq_some_iff.mp e').1
    rw [List.length_append, List.length_singleton] at li
    have : i = l.length := by omega
    subst this
    rw [List.getElem?_append_right (Nat.le_refl _), Nat.sub_self] at e'
    cases e'
    exact ⟨r, (by rw [← h.1, List.getElem?_append_right (Nat.le_refl _), Nat.sub_self]; exact rfl), e⟩
theorem eqv2 {a b c d : Int} : PyData.eqv (.tuple [.int a, .int b]) (.tuple [.int c, .int d]) = decide (a = c ∧ b = d) := by
  rw [PyData.eqv, PyData.eqvAll, PyData.eqvAll, PyData.eqvAll, PyData.eqv, PyData.eqv, Bool.and_true]
  by_cases h1 : a = c <;> by_cases h2 : b = d <;> simp [h1, h2]
theorem shaped2 {a b : Int} : SeqAt.shaped (.tuple [.int a, .int b]) = true := by
  unfold SeqAt.shaped
  rw [PyData.canLay0, PyData.depth, PyData.canLayAll0, PyData.canLayAll0, PyData.canLayAll0, PyData.canLay0, PyData.canLay0, PyData.depthAll, PyData.depthAll, PyData.depthAll, PyData.depth, PyData.depth]
  rfl
def spCStep (K : PySem.W.Frag) : Sp := fun vs H Q _ => ∃ (L d : Addr) (g : Nat) (rows : Nat → List Nat) (ps : List Cit) (q : Cit), vs = [.ref L, .ref d, .int q.2.1, .int (sgn q.2.2)] ∧ RowsAt H L (g + 1) rows ∧ (∀ i j, j ∈ rows i → i ≤ g ∧ j ≤ g ∧ i ≠ j) ∧ (∀ i, (rows i).Pairwise (· < ·)) ∧ g ≤ 40 ∧
  CD H d ps ∧ Al (fun i j => j ∈ rows i) g ps ∧ q ∈ ps ∧ q.2.1 ≠ g ∧
  ∀ H' r m, Same H H' → m ∈ rows q.2.1 → good ps q m → (∀ m', m' ∈ rows q.2.1 → good ps q m' → m ≤ m') → H' r = some (.tup [.int (m : Nat), .int (sgn (decide (q.2.1 < m)))]) → Q (.ref r) H'
def spCalm (K : PySem.W.Frag) (C : Addr) : Sp := fun vs H Q _ => ∃ (x : Addr) (ws : List WW.Wd) (l : WW.Wd), vs = [.ref x, .str (WW.S l)] ∧ BookAt K C H x ws ∧ Okw ws ∧ IsW 40 l ∧
  ∀ v H', Same H H' → CalmAt H' ws l v → Q v H'
theorem good_some {rows : Nat → List Nat} {g : Nat} {ps : List Cit} {q : Cit} (A : Al (fun i j => j ∈ rows i) g ps) (m : q ∈ ps) (ne : q.2.1 ≠ g) : ∃ m, m ∈ rows q.2.1 ∧ good ps q m := by
  obtain ⟨p, c⟩ := A.pc q m
  obtain ⟨t', n', u, p', rfl, e, c', h1, h2⟩ := c.uncons ne
  obtain ⟨x, mx, ex⟩ := A.all t' n' u _ ⟨p', c'⟩
  refine ⟨u, e, x, mx, ex, ?_⟩
  have a1 := A.mn x mx t' n' (by rw [ex]; exact ⟨p', c'⟩)
  have cx := A.pc x mx
  rw [ex] at cx
  have a2 := A.mn q m _ _ (CM.Cs.step (w := q.2.2) (s := q.2.1) (m := u) e cx)
  unfold CM.le2 at a1 a2
  dsimp only at a1 a2
  omega
section
variable {P : Program} {w : World} {K : PySem.W.Frag} {mg : Str → Option Value} {base : Heap}
theorem ok_calmest_step (T : Top K mg) : FnOk P w K mg base CX0 3 T.f_calmest_step T.fd_calmest_step ["links", "costs", "here", "way"] (spCStep K) := by
  refine T.F_calmest_step.ok sc_calmest_step (fun vs H Q E h => ?_) (fun cdv A outer s H vs Q E hr h => ?_)
  · obtain ⟨L, d, g, rows, ps, q, rfl, _⟩ := h; rfl
  · obtain ⟨L, d, g, rows, ps, q, rfl, R, le, up, g40, cd, al, mq, ne, k⟩ := h
    have qg : q.2.1 ≤ g := by
      obtain ⟨p, c⟩ := al.pc q mq
      obtain ⟨_, _, u, _, _, e, _⟩ := c.uncons ne
      exact (le _ _ e).1
    refine ⟨_, (pss_cons (ps_set (i := 4) sc_calmest_step.nd rfl (Or.inl rfl) (pe_lst pa_nil))
 (pss_cons (ps_for PassesOwn.never rfl (pi_list (pe_ix ix_list (pv 0) (pv 2) (fun _ _ => rfl))) (pg_name (i := 5) sc_calmest_step.nd rfl (Or.inl rfl))
 (pss_cons (ps_set (i := 6) sc_calmest_step.nd rfl (Or.inl rfl) (pe_call (ok_way_between T) (hr.mono (by decide)) (by rfl) T.g_way_between T.F_way_between.kp T.b_way_between .nil pass0 (pa_cons (pv 2) (pa_cons (pv 5) pa_nil))))
 (pss_one (ps_if (pt_cmp (pc_din (hu_of hr) (pe_tup (pa_cons (pv 5) (pa_cons (pv 6) pa_nil))) (pv 1)))
 (pss_cons (ps_asg (pe_dget (hu_of hr) (pv 1) (pe_tup (pa_cons (pv 5) (pa_cons (pv 6) pa_nil))) (fun _ _ => rfl)) (pg_tup (by rfl) (pgs_cons (pg_name (i := 7) sc_calmest_step.nd rfl (Or.inl rfl)) (pgs_cons (pg_name (i := 8) sc_calmest_step.nd rfl (Or.inl rfl)) pgs_nil))))
 (C8.pss_cut (ps_set (i := 9) sc_calmest_step.nd rfl (Or.inl rfl) (pe_ifExp (pt_cmpR op_eq (pv 6) (pv 3) (nomark _)) (pv 7) (pe_op op_add (pv 7) pe_int)))
 (pss_one (ps_if (pt_cmpR (op_eqD hr.units) (pe_tup (pa_cons (pv 9) (pa_cons (pe_op op_add (pv 8) pe_int) pa_nil))) (pe_dget (hu_of hr) (pv 1) (pe_tup (pa_cons (pv 2) (pa_cons (pv 3) pa_nil))) (fun _ _ => rfl)) (nomark _))
 (pss_one (ps_expr (pe_bm PySem.F.plainAttrs_list PySem.F.slot_list_append PySem.F.type_list_append mt_append (pv 4) (pa_cons (pe_tup (pa_cons (pv 5) (pa_cons (pv 6) pa_nil))) pa_nil))))
 pss_nil))))
 pss_nil))))
 (pss_one (ps_ret (pe_ix ix_list (pv 4) pe_int (fun _ _ => rfl)))))), ?_⟩
    walk_at "tx"
    refine ⟨by show 0 ≤ sizeLine; decide, fun ga hga => ?_⟩
    have s1 := same_upd (o := HO.lst []) hga
    have e1 : upd H ga (.lst []) ga = some (.lst []) := upd_same
    generalize upd H ga (.lst []) = H1 at *
    walk_at "tx"
    refine RowsAt.ix R s1 (i := q.2.1) (by omega) rfl (fun ra hra0 => ?_)
    refine ⟨ra, rfl, ⟨_, SqL.of (s1 _ _ hra0)⟩, ?_⟩
    have rl : (rows q.2.1).length ≤ 41 := WW.nodup_len 41 _ ((up _).imp fun h => Nat.ne_of_lt h) (fun u mu => by have := (le _ _ mu).2.1; omega)
    let f : Nat → Bool := fun m => decide (good ps q m)
    refine RD.f_list (K := K) (a := ra) (xs := Ns (rows q.2.1)) (fun j σ' H' => Same H H' ∧ (∃ gs, H' ga = some (.lst gs) ∧ GS H' q.2.1 gs (((rows q.2.1).take j).filter f)) ∧
        ∃ v5 v6 v7 v8 v9 : Option V, σ' = [some (.ref L), some (.ref d), some (.int q.2.1), some (.int (sgn q.2.2)), some (.ref ga), v5, v6, v7, v8, v9])
      ⟨s1, ⟨[], e1, rfl, fun i m e => by simp at e⟩, none, none, none, none, none, rfl⟩ ?_ ?_ ?_
    · rintro j σ' H' _ ⟨q1, _⟩
      exact SqL.of (q1 _ _ hra0)
    · rintro j y σ' H2 hy ⟨s2, ⟨gs, eg, G⟩, v5, v6, v7, v8, v9, rfl⟩
      obtain ⟨m, hm, rfl⟩ := WW.Ns_get hy
      have tk : ((rows q.2.1).take (j + 1)).filter f = ((rows q.2.1).take j).filter f ++ (if f m = true then [m] else []) := by
        rw [List.take_succ, hm, List.filter_append]
        congr 1
        by_cases c : f m = true
        · rw [if_pos c]; simp [c]
        · rw [if_neg c]; simp [c]
      walk_at "tx"
      refine ⟨q.2.1, m, rfl, ?_⟩
      walk_at "tx"
      refine RD.d_din ?_
      walk_at "tx"
      refine ⟨by show 2 ≤ sizeLine; decide, fun ka hka => ?_⟩
      have sk := same_upd (o := HO.tup [V.int (m : Nat), V.int (sgn (decide (q.2.1 < m)))]) hka
      have ek : upd H2 ka (.tup [V.int (m : Nat), V.int (sgn (decide (q.2.1 < m)))]) ka = some (.tup ((kk (m, decide (q.2.1 < m))).map kV)) := upd_same
      have G3 := G.mov (fun _ _ e => sk _ _ e)
      have s3 := s2.trans sk
      have eg3 := sk _ _ eg
      generalize upd H2 ka (.tup [V.int (m : Nat), V.int (sgn (decide (q.2.1 < m)))]) = H3 at *
      clear G eg sk hka
      have cd3 := cd.same s3
      obtain ⟨kvs, edk, lk, nk, yk⟩ := id cd3
      walk_at "tx"
      refine ⟨d, _, rfl, DGet.t (k := kk (m, decide (q.2.1 < m))) edk ek, ?_⟩
      by_cases st : ∃ p ∈ ps, p.2 = (m, decide (q.2.1 < m))
      · obtain ⟨p, mp, ep⟩ := st
        obtain ⟨a, ea, eta⟩ := yk p mp
        rw [ep] at ea
        rw [ea]
        refine ⟨true, rfl, RD.d_iteT ?_⟩
        walk_at "tx"
        refine ⟨by show 2 ≤ sizeLine; decide, fun kb hkb => ?_⟩
        have sk := same_upd (o := HO.tup [V.int (m : Nat), V.int (sgn (decide (q.2.1 < m)))]) hkb
        have ek2 : upd H3 kb (.tup [V.int (m : Nat), V.int (sgn (decide (q.2.1 < m)))]) kb = some (.tup ((kk (m, decide (q.2.1 < m))).map kV)) := upd_same
        have G4 := G3.mov (fun _ _ e => sk _ _ e)
        have s4 := s3.trans sk
        have eg4 := sk _ _ eg3
        have edk4 := sk _ _ edk
        have eta4 := sk _ _ eta
        generalize upd H3 kb (.tup [V.int (m : Nat), V.int (sgn (decide (q.2.1 < m)))]) = H4 at *
        clear G3 s3 eg3 edk eta ek sk hkb yk nk cd3
        refine ⟨d, _, rfl, by have := DGet.t (k := kk (m, decide (q.2.1 < m))) edk4 ek2; rwa [ea] at this, ?_⟩
        refine RD.d_two rfl (SqT.of eta4) ?_
        walk_at "tx"
        refine RD.d_cut (fun σ' H' => H' = H4 ∧ σ' = [some (.ref L), some (.ref d), some (.int q.2.1), some (.int (sgn q.2.2)), some (.ref ga), some (.int m), some (.int (sgn (decide (q.2.1 < m)))), some (.int p.1.1), some (.int p.1.2), some (.int ((p.1.1 + (if decide (q.2.1 < m) = q.2.2 then 0 else 1) : Nat) : Int))]) ?_ ?_
        · walk_at "tx"
          by_cases c : decide (q.2.1 < m) = q.2.2
          · rw [decide_eq_true (by rw [c])]
            refine RD.d_iteT ?_
            walk_at "tx"
            rw [if_pos c]
            exact ⟨rfl, rfl⟩
          · rw [decide_eq_false (by intro z; apply c; revert z; unfold sgn; cases decide (q.2.1 < m) <;> cases q.2.2 <;> decide)]
            refine RD.d_iteF ?_
            walk_at "tx"
            rw [if_neg c]
            exact ⟨rfl, rfl⟩
        · rintro σ' H' ⟨rfl, rfl⟩
          walk_at "tx"
          refine ⟨by show 2 ≤ sizeLine; decide, fun kc hkc => ?_⟩
          generalize ha : p.1.1 + (if decide (q.2.1 < m) = q.2.2 then 0 else 1) = aa at *
          have sc := same_upd (o := HO.tup [V.int (aa : Nat), V.int ((p.1.2 : Int) + 1)]) hkc
          have ec : upd H' kc (.tup [V.int (aa : Nat), V.int ((p.1.2 : Int) + 1)]) kc = some (.tup [V.int (aa : Nat), V.int ((p.1.2 : Int) + 1)]) := upd_same
          have G5 := G4.mov (fun _ _ e => sc _ _ e)
          have s5 := s4.trans sc
          have eg5 := sc _ _ eg4
          generalize upd H' kc (.tup [V.int (aa : Nat), V.int ((p.1.2 : Int) + 1)]) = H5 at *
          clear G4 s4 eg4 sc hkc edk4 ek2 eta4
          refine RD.d_dget ?_
          walk_at "tx"
          refine ⟨by show 2 ≤ sizeLine; decide, fun kd hkd => ?_⟩
          have sd := same_upd (o := HO.tup [V.int q.2.1, V.int (sgn q.2.2)]) hkd
          have ekd : upd H5 kd (.tup [V.int q.2.1, V.int (sgn q.2.2)]) kd = some (.tup ((kk q.2).map kV)) := upd_same
          have G6 := G5.mov (fun _ _ e => sd _ _ e)
          have s6 := s5.trans sd
          have eg6 := sd _ _ eg5
          have ec6 := sd _ _ ec
          generalize upd H5 kd (.tup [V.int q.2.1, V.int (sgn q.2.2)]) = H6 at *
          clear G5 s5 eg5 sd hkd ec
          obtain ⟨kvs2, edk6, _, _, yk6⟩ := id (cd.same s6)
          obtain ⟨a6, ea6, eta6⟩ := yk6 q mq
          refine ⟨d, _, rfl, by have := DGet.t (k := kk q.2) edk6 ekd; rwa [ea6] at this, ?_⟩
          refine ⟨.tuple [.int aa, .int ((p.1.2 : Int) + 1)], .tuple [.int q.1.1, .int q.1.2], .tup (SqT.of ec6) (.cons (.int _) (.cons (.int _) .nil)), .tup (SqT.of eta6) (.cons (.int _) (.cons (.int _) .nil)), shaped2, shaped2, ?_⟩
          rw [eqv2]
          have gm : good ps q m ↔ ((aa : Int) = q.1.1 ∧ (p.1.2 : Int) + 1 = q.1.2) := by
            constructor
            · rintro ⟨p', mp', ep', h1, h2⟩
              have c1 := al.pc p mp
              have c2 := al.pc p' mp'
              have b1 := al.mn p mp p'.1.1 p'.1.2 (by rw [ep, ← ep']; exact c2)
              have b2 := al.mn p' mp' p.1.1 p.1.2 (by rw [ep', ← ep]; exact c1)
              have e := b1.anti b2
              have e1 : p.1.1 = p'.1.1 := congrArg Prod.fst e
              have e2 : p.1.2 = p'.1.2 := congrArg Prod.snd e
              omega
            · rintro ⟨h1, h2⟩
              exact ⟨p, mp, ep, by omega, by omega⟩
          refine ⟨_, rfl, ?_⟩
          by_cases c : good ps q m
          · have fm : f m = true := decide_eq_true c
            rw [if_pos fm] at tk
            rw [decide_eq_true (gm.mp c)]
            refine RD.d_iteT ?_
            have gl : gs.length ≤ 41 := by
              rw [G6.1]
              exact Nat.le_trans (List.length_filter_le ..) (by rw [List.length_take]; omega)
            walk_at "tx"
            refine ⟨RD.tyL eg6, ?_⟩
            walk_at "tx"
            refine ⟨by show 2 ≤ sizeLine; decide, fun te hte => ?_⟩
            have se := same_upd (o := HO.tup [V.int (m : Nat), V.int (sgn (decide (q.2.1 < m)))]) hte
            have ee : upd H6 te (.tup [V.int (m : Nat), V.int (sgn (decide (q.2.1 < m)))]) te = some (.tup [.int (m : Nat), .int (sgn (decide (q.2.1 < m)))]) := upd_same
            have G7 := G6.mov (fun _ _ e => se _ _ e)
            have s7 := s6.trans se
            have eg7 := se _ _ eg6
            generalize upd H6 te (.tup [V.int (m : Nat), V.int (sgn (decide (q.2.1 < m)))]) = H7 at *
            walk_at "tx"
            refine RD.d_app eg7 (Nat.lt_of_le_of_lt gl (by decide)) ?_
            refine ⟨fun b o e => by rw [upd_ne (ne_of_none e hga)]; exact s7 _ _ e, ⟨_, upd_same, ?_⟩, _, _, _, _, _, rfl⟩
            rw [tk]
            exact (G7.snoc ee).mov (mov_lst eg7)
          · have fm : ¬ f m = true := fun z => c (of_decide_eq_true z)
            rw [if_neg fm, List.append_nil] at tk
            rw [decide_eq_false (fun z => c (gm.mpr z))]
            refine RD.d_iteF ?_
            walk_at "tx"
            exact ⟨s6, ⟨gs, eg6, by rw [tk]; exact G6⟩, _, _, _, _, _, rfl⟩
      · have fm : ¬ f m = true := fun z => by
          obtain ⟨p, mp, ep, _⟩ := of_decide_eq_true z
          exact st ⟨p, mp, ep⟩
        rw [nk _ st]
        refine ⟨false, rfl, RD.d_iteF ?_⟩
        walk_at "tx"
        rw [if_neg fm, List.append_nil] at tk
        exact ⟨s3, ⟨gs, eg3, by rw [tk]; exact G3⟩, _, _, _, _, _, rfl⟩
    · rintro σ' H2 ⟨s2, ⟨gs, eg, G⟩, v5, v6, v7, v8, v9, rfl⟩
      rw [WW.Ns_len, List.take_length] at G
      obtain ⟨m0, mm0, gm0⟩ := good_some al mq ne
      have mf : m0 ∈ (rows q.2.1).filter f := List.mem_filter.mpr ⟨mm0, decide_eq_true gm0⟩
      have upf := (up q.2.1).filter f
      cases hl : (rows q.2.1).filter f with
      | nil => rw [hl] at mf; cases mf
      | cons m l =>
        rw [hl] at G upf
        have mm : m ∈ (rows q.2.1).filter f := by rw [hl]; exact List.mem_cons_self
        obtain ⟨mr, mg⟩ := List.mem_filter.mp mm
        obtain ⟨r, er, et⟩ := G.2 0 m rfl
        walk_at "tx"
        refine RD.d_ixL (SqL.of eg) (v := .ref r) (by exact atI_nat (j := 0) er) ?_
        refine k H2 r m s2 mr (of_decide_eq_true mg) (fun m' mr' gm' => ?_) et
        have : m' ∈ m :: l := by rw [← hl]; exact List.mem_filter.mpr ⟨mr', decide_eq_true gm'⟩
        rcases List.mem_cons.mp this with rfl | z
        · exact Nat.le_refl _
        · exact Nat.le_of_lt (List.rel_of_pairwise_cons upf z)
theorem ok_calmest_walk (T : Top K mg) : FnOk P w K mg base CX0 5 T.f_calmest_walk T.fd_calmest_walk ["book", "word"] (spCalm K T.C_Book) := by
  refine T.F_calmest_walk.ok sc_calmest_walk (fun vs H Q E h => ?_) (fun cdv A outer s H vs Q E hr h => ?_)
  · obtain ⟨x, ws, l, rfl, _⟩ := h; rfl
  · obtain ⟨x, ws, l, rfl, b, ok, hl, k⟩ := h
    have hz : l.length ≤ sizeLine := Nat.le_trans hl.hi (by decide)
    have l40 := hl.hi
    have l1 := hl.lo
    refine ⟨_, (pss_cons (ps_set (i := 2) sc_calmest_walk.nd rfl (Or.inl rfl) (pe_call (ok_links_of T) (hr.mono (by decide)) (by rfl) T.g_links_of T.F_links_of.kp T.b_links_of .nil pass0 (pa_cons (pv 0) (pa_cons (pv 1) pa_nil))))
 (pss_cons (ps_set (i := 3) sc_calmest_walk.nd rfl (Or.inl rfl) (pe_call (ok_costs_to T) (hr.mono (by decide)) (by rfl) T.g_costs_to T.F_costs_to.kp T.b_costs_to .nil pass0 (pa_cons (pv 2) (pa_cons (pe_callB RD.c_len (by rfl) T.n_len (by decide +kernel) (pa_cons (pv 1) pa_nil)) pa_nil))))
 (pss_cons (ps_par (i := 4) (j := 5) (by rfl) sc_calmest_walk.nd rfl rfl (by decide) rfl rfl (pa_cons pe_int (pa_cons (pe_glob (v := V.int 1) (by rfl) T.g_UP ⟨_, rfl⟩) pa_nil)) (by rfl))
 (pss_cons (ps_if (pt_cmp (pc_dnotin (hu_of hr) (pe_tup (pa_cons (pv 4) (pa_cons (pv 5) pa_nil))) (pv 3)))
 (pss_one (ps_ret pe_non))
 pss_nil)
 (pss_cons (ps_set (i := 6) sc_calmest_walk.nd rfl (Or.inl rfl) (pe_lst (pa_cons (pv 4) pa_nil)))
 (pss_cons (ps_while PassesOwn.never (pt_cmpR op_ne (pv 4) (pe_callB RD.c_len (by rfl) T.n_len (by decide +kernel) (pa_cons (pv 1) pa_nil)) (nomark _))
 (pss_cons (ps_asg (pe_call (ok_calmest_step T) (hr.mono (by decide)) (by rfl) T.g_calmest_step T.F_calmest_step.kp T.b_calmest_step .nil pass0 (pa_cons (pv 2) (pa_cons (pv 3) (pa_cons (pv 4) (pa_cons (pv 5) pa_nil))))) (pg_tup (by rfl) (pgs_cons (pg_name (i := 4) sc_calmest_walk.nd rfl (Or.inl rfl)) (pgs_cons (pg_name (i := 5) sc_calmest_walk.nd rfl (Or.inl rfl)) pgs_nil))))
 (pss_one (ps_expr (pe_bm PySem.F.plainAttrs_list PySem.F.slot_list_append PySem.F.type_list_append mt_append (pv 6) (pa_cons (pv 4) pa_nil))))))
 (pss_one (ps_ret (pe_callTy (OQ.tupK K) (by rfl) T.n_tuple (by decide +kernel) (pa_cons (pv 6) pa_nil)))))))))), ?_⟩
    walk_at "tx"
    refine ⟨x, ws, l, rfl, b, ok, hl, fun H2 L rows s2 hL R lk => ?_⟩
    have eE : (fun i j => j ∈ rows i) = WW.Link ws l := funext fun i => funext fun j => propext (lk.mem i j)
    have le : ∀ i j, j ∈ rows i → i ≤ l.length ∧ j ≤ l.length ∧ i ≠ j := fun i j m => ((lk.mem i j).mp m).le ok.ne
    have sy : ∀ u v, WW.Link ws l u v → WW.Link ws l v u := fun _ _ => WW.Link.symm
    walk_at "tx"
    refine ⟨L, l.length, rows, rfl, R, fun i j m => (lk.mem j i).mpr (sy _ _ ((lk.mem i j).mp m)), le, fun i => (lk.up i).imp fun h => Nat.ne_of_lt h, l40, fun H3 d ps s3 hd cd al => ?_⟩
    have s03 := s2.trans s3
    have al' := al
    rw [eE] at al'
    walk_at "tx"
    refine ⟨_, _, rfl, ?_⟩
    walk_at "tx"
    refine RD.d_dnotin ?_
    walk_at "tx"
    refine ⟨by show 2 ≤ sizeLine; decide, fun ka hka => ?_⟩
    have sk := same_upd (o := HO.tup [V.int 0, V.int 1]) hka
    have ek : upd H3 ka (.tup [V.int 0, V.int 1]) ka = some (.tup ((kk (0, true)).map kV)) := upd_same
    have s4 := s03.trans sk
    have s24 := s3.trans sk
    have cd4 := cd.same sk
    generalize upd H3 ka (.tup [V.int 0, V.int 1]) = H4 at *
    clear cd s03 sk hka s3
    obtain ⟨kvs, edk, lk2, nk, yk⟩ := id cd4
    walk_at "tx"
    refine ⟨d, _, rfl, DGet.t (k := kk (0, true)) edk ek, ?_⟩
    by_cases st : ∃ p ∈ ps, p.2 = (0, true)
    · obtain ⟨p0, m0, e0⟩ := st
      obtain ⟨a, ea, eta⟩ := yk p0 m0
      rw [e0] at ea
      rw [ea]
      walk_at "tx"
      refine ⟨by show 1 ≤ sizeLine; decide, fun wa hwa => ?_⟩
      have hwa2 := s24.free hwa
      have s5 := s24.trans (same_upd (o := HO.lst [V.int 0]) hwa)
      have cd5 := cd4.same (same_upd (o := HO.lst [V.int 0]) hwa)
      have e5 : upd H4 wa (.lst [V.int 0]) wa = some (.lst (Ns (0 :: []))) := upd_same
      generalize upd H4 wa (.lst [V.int 0]) = H5 at *
      clear cd4 s4 s24 edk ek hwa yk nk eta ea lk2
      have c0 := al'.pc p0 m0
      rw [e0] at c0
      have fst0 : p0.2.1 = 0 := by rw [e0]
      refine ⟨fun m σ' H' => ∃ (tl : List Nat) (q : Cit), m = q.1.2 ∧ Same H2 H' ∧ CD H' d ps ∧ H' wa = some (.lst (Ns (0 :: tl))) ∧ q ∈ ps ∧ q.2.1 ≤ l.length ∧ (q.2.1 = l.length → q.2.2 = true) ∧ tl.length + q.1.2 = p0.1.2 ∧
          (∀ rest, CM.Best (WW.Link ws l) l.length q.1.1 q.1.2 q.2.1 q.2.2 rest → CM.Best (WW.Link ws l) l.length p0.1.1 p0.1.2 0 true (tl ++ rest)) ∧
          σ' = [some (.ref x), some (.str (WW.S l)), some (.ref L), some (.ref d), some (.int q.2.1), some (.int (sgn q.2.2)), some (.ref wa)],
        ⟨_, [], p0, rfl, s5, cd5, e5, m0, by rw [fst0]; exact Nat.zero_le _, fun z => by rw [e0], by rw [List.length_nil, Nat.zero_add], fun rest h => by rw [e0] at h; exact h, by rw [e0]; rfl⟩, ?_⟩
      clear cd5 e5 s5 H4 H5
      rintro m σ' H5 ⟨tl, q, rfl, s5, cd5, e5, mq, ql, qw, tlen, best, rfl⟩
      have nb := al.nb p0 m0
      walk_at "tx"
      refine RD.iteN (fun c => ?_) (fun c => ?_)
      · have cv : q.2.1 ≠ l.length := fun z => c (by rw [z])
        refine ⟨fun σ' H' => ∃ (tl : List Nat) (q' : Cit), q'.1.2 < q.1.2 ∧ Same H2 H' ∧ CD H' d ps ∧ H' wa = some (.lst (Ns (0 :: tl))) ∧ q' ∈ ps ∧ q'.2.1 ≤ l.length ∧ (q'.2.1 = l.length → q'.2.2 = true) ∧ tl.length + q'.1.2 = p0.1.2 ∧
          (∀ rest, CM.Best (WW.Link ws l) l.length q'.1.1 q'.1.2 q'.2.1 q'.2.2 rest → CM.Best (WW.Link ws l) l.length p0.1.1 p0.1.2 0 true (tl ++ rest)) ∧
          σ' = [some (.ref x), some (.str (WW.S l)), some (.ref L), some (.ref d), some (.int q'.2.1), some (.int (sgn q'.2.2)), some (.ref wa)], ?_, ?_⟩
        · rintro σ' H' ⟨tl', q', lt, r⟩
          exact ⟨_, lt, tl', q', rfl, r⟩
        · walk_at "tx"
          refine ⟨L, d, l.length, rows, ps, q, rfl, R.same s5, le, lk.up, l40, cd5, al, mq, cv, fun H6 r m s6 mr gm least er => ?_⟩
          have s26 := s5.trans s6
          have cd6 := cd5.same s6
          have e6 := s6 _ _ e5
          clear s5 cd5 e5 s6
          refine RD.d_two rfl (SqT.of er) ?_
          walk_at "tx"
          refine ⟨RD.tyL e6, ?_⟩
          walk_at "tx"
          refine RD.d_app e6 (by rw [WW.Ns_len, List.length_cons]; exact Nat.lt_of_le_of_lt (by omega : tl.length + 1 ≤ 100) (by decide)) ?_
          rw [WW.Ns_app]
          obtain ⟨p', mp', ep', h1, h2⟩ := gm
          have f1 : p'.2.1 = m := by rw [ep']
          have f2 : p'.2.2 = decide (q.2.1 < m) := by rw [ep']
          have lm := le _ _ mr
          refine ⟨tl ++ [m], p', by omega, fun b o e => by rw [upd_ne (ne_of_none e hwa2)]; exact s26 _ _ e, cd6.upd (fun _ z => by rw [e6] at z; cases z) (fun _ z => by rw [e6] at z; cases z), upd_same, mp', by rw [f1]; exact lm.2.1, fun z => by rw [f2]; exact decide_eq_true (by omega), by rw [List.length_append, List.length_singleton]; omega, fun rest hb => ?_, by rw [f1, f2]; rfl⟩
          rw [f1, f2] at hb
          have hs := CM.Best.step (w := q.2.2) cv ((lk.mem _ _).mp mr) h1 h2 (al'.mn q mq) (fun m' t' n' e' c' bm g1 g2 => least m' ((lk.mem _ _).mpr e') (by
            obtain ⟨y, my, ey⟩ := al'.all _ _ _ _ c'
            have cy := al'.pc y my
            rw [ey] at cy
            have b1 := al'.mn y my t' n' (by rw [ey]; exact c')
            have b2 := bm _ _ cy
            have e := b1.anti b2
            have e1 : y.1.1 = t' := congrArg Prod.fst e
            have e2 : y.1.2 = n' := congrArg Prod.snd e
            exact ⟨y, my, ey, by omega, by omega⟩)) hb
          have := best _ hs
          rw [List.append_assoc]
          exact this
      · have cv : q.2.1 = l.length := by omega
        have qt := qw cv
        have b0 := al'.mn q mq 0 0 (by rw [cv, qt]; exact CM.Cs.zero)
        unfold CM.le2 at b0
        dsimp only at b0
        have z1 : q.1.1 = 0 := by omega
        have z2 : q.1.2 = 0 := by omega
        have := best [] (by rw [z1, z2, cv, qt]; exact CM.Best.zero)
        rw [List.append_nil] at this
        walk_at "tx"
        refine ⟨wa, _, rfl, .inl ⟨SqL.of e5, fun t ht => ?_⟩⟩
        exact k (.ref t) _ (s2.trans (s5.trans (same_upd ht))) (.inr ⟨t, _, _, tl, rfl, upd_same, this⟩)
    · rw [nk _ st]
      walk_at "tx"
      refine k .non _ s4 (.inl ⟨rfl, fun t => ?_⟩)
      obtain ⟨r, wk⟩ := WW.Rc.symm sy t
      obtain ⟨t', n', c⟩ := CM.Cs.of_rc sy (fun u v e => le u v ((lk.mem u v).mpr e)) wk (by omega) true
      exact st (al'.all _ _ _ _ c)
theorem ok_calmest (T : Top K mg) : FnOk P w K mg base CX0 8 T.f_calmest T.fd_calmest ["book", "word"] (spCalm K T.C_Book) := by
  refine T.F_calmest.ok sc_calmest (fun vs H Q E h => ?_) (fun cdv A outer s H vs Q E hr h => ?_)
  · obtain ⟨x, ws, l, rfl, _⟩ := h; rfl
  · obtain ⟨x, ws, l, rfl, b, ok, hl, k⟩ := h
    refine ⟨_, (pss_cons (ps_expr (pe_call (ok_check_asked T) (hr.mono (by decide)) (by rfl) T.g_check_asked T.F_check_asked.kp T.b_check_asked .nil pass0 (pa_cons (pv 0) (pa_cons (pv 1) pa_nil))))
 (pss_one (ps_ret (pe_call (ok_calmest_walk T) (hr.mono (by decide)) (by rfl) T.g_calmest_walk T.F_calmest_walk.kp T.b_calmest_walk .nil pass0 (pa_cons (pv 0) (pa_cons (pv 1) pa_nil)))))), ?_⟩
    walk_at "tx"
    refine ⟨x, ws, l, rfl, b, hl, fun H1 s1 => ?_⟩
    walk_at "tx"
    exact ⟨x, ws, l, rfl, b.same s1, ok, hl, fun v H2 s2 hv => k v H2 (s1.trans s2) hv⟩
end

/-! ### numbers in rows -/
open WW (Ns)
theorem flat_Ns : ∀ fl : List Nat, (Ns fl).all flatV = true
  | [] => rfl
  | _ :: fl => flat_Ns fl
theorem inV_Ns {v : Nat} (fl : List Nat) : inV (.int (v : Int)) (Ns fl) = decide (v ∈ fl) := by
  unfold inV Ns
  rw [List.any_map, Bool.eq_iff_iff, List.any_eq_true, decide_eq_true_eq]
  constructor
  · rintro ⟨x, m, e⟩
    have : ((x : Int) == (v : Int)) = true := e
    have : x = v := by have := of_decide_eq_true this; omega
    exact this ▸ m
  · intro m
    exact ⟨v, m, by show ((v : Int) == (v : Int)) = true; simp⟩

/-! ### integers -/
/-- whether x is an integer (a flag is none) -/
def IsI (K : PySem.W.Frag) (H : Hp) (x : V) (b : Bool) : Prop := ∃ (t : Value) (b1 b2 : Bool), TyX K H x t ∧ PySem.W.kitOne K t (.type "int") = some b1 ∧ PySem.W.kitOne K t (.type "bool") = some b2 ∧ b = (b1 && !b2)
theorem isI_int {K : PySem.W.Frag} {H : Hp} (i : Int) : IsI K H (.int i) true := ⟨.type "int", true, false, .base (.int i), kit_ty (by decide +kernel), kit_ty (by decide +kernel), rfl⟩
theorem isI_bl {K : PySem.W.Frag} {H : Hp} (i : Bool) : IsI K H (.bl i) false := ⟨.type "bool", true, true, .base (.bl i), kit_ty (by decide +kernel), kit_ty (by decide +kernel), rfl⟩
theorem isI_non {K : PySem.W.Frag} {H : Hp} : IsI K H .non false := ⟨.type "NoneType", false, false, .base .non, kit_ty (by decide +kernel), kit_ty (by decide +kernel), rfl⟩
theorem isI_str {K : PySem.W.Frag} {H : Hp} (z : Str) : IsI K H (.str z) false := ⟨.type "str", false, false, .base (.str z), kit_ty (by decide +kernel), kit_ty (by decide +kernel), rfl⟩
theorem isI_lst {K : PySem.W.Frag} {H : Hp} {a : Addr} {xs : List V} (e : H a = some (.lst xs)) : IsI K H (.ref a) false := ⟨.type "list", false, false, .base (.lst e), kit_ty (by decide +kernel), kit_ty (by decide +kernel), rfl⟩
theorem isI_tup {K : PySem.W.Frag} {H : Hp} {a : Addr} {xs : List V} (e : H a = some (.tup xs)) : IsI K H (.ref a) false := ⟨.type "tuple", false, false, .base (.tup e), kit_ty (by decide +kernel), kit_ty (by decide +kernel), rfl⟩
theorem isI_dK {K : PySem.W.Frag} {H : Hp} {a : Addr} {xs : List (Key × V)} (e : H a = some (.dK xs)) : IsI K H (.ref a) false := ⟨.type "dict", false, false, .base (.dK e), kit_ty (by decide +kernel), kit_ty (by decide +kernel), rfl⟩
def spIsInt (K : PySem.W.Frag) : Sp := fun vs H Q _ => ∃ (x : V) (b : Bool), vs = [x] ∧ IsI K H x b ∧ Q (.bl b) H
section
variable {P : Program} {w : World} {K : PySem.W.Frag} {mg : Str → Option Value} {base : Heap}
theorem ok_is_integer (T : Top K mg) : FnOk P w K mg base CX0 1 T.f_is_integer T.fd_is_integer ["thing"] (spIsInt K) := by
  refine T.F_is_integer.ok sc_is_integer (fun vs H Q E h => ?_) (fun cdv A outer s H vs Q E hr h => ?_)
  · obtain ⟨x, b, rfl, _⟩ := h; rfl
  · obtain ⟨x, b, rfl, ⟨t, b1, b2, ty, e1, e2, eb⟩, q⟩ := h
    refine ⟨_, (pss_one (ps_ret (pe_and (pe_callB call_isi (by rfl) T.n_isinstance (by decide +kernel) (pa_cons (pv 0) (pa_cons (pe_bltn (v := V.ty "int") (by rfl) T.n_int (by decide +kernel) rfl) pa_nil))) (pe_one (pe_not (pe_callB call_isi (by rfl) T.n_isinstance (by decide +kernel) (pa_cons (pv 0) (pa_cons (pe_bltn (v := V.ty "bool") (by rfl) T.n_bool (by decide +kernel) rfl) pa_nil)))))))), ?_⟩
    walk_at "rd"
    refine RD.d_isi (.ty _) ty e1 ?_
    walk_at "rd"
    cases b1 with
    | false =>
      walk_at "rd"
      rw [eb] at q; exact q
    | true =>
      walk_at "rd"
      refine RD.d_isi (.ty _) ty e2 ?_
      walk_at "rd"
      rw [eb] at q
      simpa using q
end

/-! ### spots -/
open WW (Ns)
section
variable {P : Program} {w : World} {K : PySem.W.Frag} {mg : Str → Option Value} {base : Heap}
/-- whether a thing is a spot of a word of n letters -/
def IsSp (K : PySem.W.Frag) (H : Hp) (n : Nat) (x : V) (b : Bool) : Prop := (∃ i : Int, x = .int i ∧ b = decide (0 ≤ i ∧ i ≤ n)) ∨ (IsI K H x false ∧ b = false)
def spSpot (K : PySem.W.Frag) : Sp := fun vs H Q _ => ∃ (l : WW.Wd) (x : V) (b : Bool), vs = [.str (WW.S l), x] ∧ l.length ≤ 40 ∧ IsSp K H l.length x b ∧ Q (.bl b) H
theorem ok_is_spot (T : Top K mg) : FnOk P w K mg base CX0 2 T.f_is_spot T.fd_is_spot ["word", "thing"] (spSpot K) := by
  refine T.F_is_spot.ok sc_is_spot (fun vs H Q E h => ?_) (fun cdv A outer s H vs Q E hr h => ?_)
  · obtain ⟨l, x, b, rfl, _⟩ := h; rfl
  · obtain ⟨l, x, b, rfl, l40, is, k⟩ := h
    have lz : l.length ≤ sizeLine := Nat.le_trans l40 (by decide)
    refine ⟨_, (pss_one (ps_ret (pe_and (pe_call (ok_is_integer T) (hr.mono (by decide)) (by rfl) T.g_is_integer T.F_is_integer.kp T.b_is_integer .nil pass0 (pa_cons (pv 1) pa_nil)) (pe_one (pe_chain op_le op_le pe_int (pv 1) (pe_callB RD.c_len (by rfl) T.n_len (by decide +kernel) (pa_cons (pv 0) pa_nil))))))), ?_⟩
    walk_at "tx"
    rcases is with ⟨i, rfl, rfl⟩ | ⟨ni, rfl⟩
    · refine ⟨_, true, rfl, isI_int i, ?_⟩
      refine ⟨true, rfl, RD.d_iteT ?_⟩
      refine RD.d_chain ?_
      walk_at "tx"
      refine RD.iteD (fun c1 => ?_) (fun c1 => ?_)
      · walk_at "tx"
        rw [show decide (i ≤ (l.length : Int)) = decide (0 ≤ i ∧ i ≤ (l.length : Int)) from by rw [decide_eq_decide]; exact ⟨fun z => ⟨c1, z⟩, fun z => z.2⟩]
        exact k
      · rw [show decide (0 ≤ i ∧ i ≤ (l.length : Int)) = false from decide_eq_false fun z => c1 z.1] at k
        exact k
    · refine ⟨_, false, rfl, ni, ?_⟩
      refine ⟨false, rfl, RD.d_iteF ?_⟩
      exact k
end

/-! ### zigzags judged -/
open WW (Ns)
theorem d_inNs {K : PySem.W.Frag} {H : Hp} {Q : VK} {a : Addr} {v : Nat} {p : List Nat} (h : OQ.SeqAt K H a (Ns p)) (k : Q (.bl (decide (v ∈ p))) H) : rIn K false (.int (v : Nat)) (.ref a) H Q :=
  ⟨a, _, rfl, h, rfl, flat_Ns p, by rw [inV_Ns]; exact k⟩
theorem d_notInNs {K : PySem.W.Frag} {H : Hp} {Q : VK} {a : Addr} {v : Nat} {p : List Nat} (h : OQ.SeqAt K H a (Ns p)) (k : Q (.bl (!decide (v ∈ p))) H) : rIn K true (.int (v : Nat)) (.ref a) H Q :=
  ⟨a, _, rfl, h, rfl, flat_Ns p, by rw [inV_Ns]; exact k⟩
/-- a zigzag -/
structure Zz (ws : List WW.Wd) (l : WW.Wd) (p : List Nat) : Prop where
  first : p[0]? = some 0
  last : p[p.length - 1]? = some l.length
  nd : p.Nodup
  ch : ∀ (i u v : Nat), p[i]? = some u → p[i + 1]? = some v → WW.Link ws l u v
/-- a cut -/
theorem Zz.le {ws : List WW.Wd} {l : WW.Wd} {p : List Nat} (h : Zz ws l p) (ok : ∀ w ∈ ws, w ≠ []) : ∀ u ∈ p, u ≤ l.length := fun u m => by
  obtain ⟨i, e⟩ := List.getElem?_of_mem m
  have il := (List.getElem?_eq_some_iff.mp e).1
  by_cases c : i + 1 < p.length
  · exact ((h.ch i u _ e (List.getElem?_eq_getElem c)).le ok).1
  · have : i = p.length - 1 := by omega
    rw [this, h.last] at e
    cases e
    exact Nat.le_refl _
theorem Zz.len {ws : List WW.Wd} {l : WW.Wd} {p : List Nat} (h : Zz ws l p) (ok : ∀ w ∈ ws, w ≠ []) : p.length ≤ l.length + 1 := WW.nodup_len _ p h.nd fun u m => Nat.lt_succ_of_le (h.le ok u m)
theorem Zz.two {ws : List WW.Wd} {l : WW.Wd} {p : List Nat} (h : Zz ws l p) (l1 : 1 ≤ l.length) : 2 ≤ p.length := by
  have a := h.first
  have b := h.last
  have l0 := (List.getElem?_eq_some_iff.mp a).1
  by_cases c : p.length = 1
  · rw [c] at b
    rw [a] at b
    have := Option.some.inj b
    omega
  · omega
theorem WayAt.zz {H : Hp} {ws : List WW.Wd} {l : WW.Wd} {v : V} (h : WayAt H ws l v) (ok : ∀ w ∈ ws, w ≠ []) (l1 : 1 ≤ l.length) : (v = .non ∧ ¬ WW.Told ws l) ∨ ∃ t p, v = .ref t ∧ H t = some (.tup (Ns p)) ∧ Zz ws l p ∧ WW.Told ws l := by
  rcases h with h | ⟨t, p, k0, rfl, e, ls, d⟩
  · exact .inl h
  · have pl := ls.1.len
    exact .inr ⟨t, p, rfl, e, ⟨ls.1.first, by rw [pl, Nat.add_sub_cancel]; exact ls.1.last, ls.1.nodup d, ls.1.chain⟩, ⟨k0, d.1⟩⟩
theorem CalmAt.zz {H : Hp} {ws : List WW.Wd} {l : WW.Wd} {v : V} (h : CalmAt H ws l v) (ok : ∀ w ∈ ws, w ≠ []) (l1 : 1 ≤ l.length) : (v = .non ∧ ¬ WW.Told ws l) ∨ ∃ t p, v = .ref t ∧ H t = some (.tup (Ns p)) ∧ Zz ws l p ∧ WW.Told ws l := by
  rcases h with h | ⟨t, T, N, p, rfl, e, b⟩
  · exact .inl h
  · have pl := b.wy.len
    refine .inr ⟨t, 0 :: p, rfl, e, ⟨rfl, ?_, b.wy.nodup (fun u v k => k.le ok) b.mn (by omega), b.wy.chain⟩, b.wy.rc⟩
    rw [List.length_cons, Nat.add_sub_cancel, pl]
    exact b.wy.last
theorem cut_tail (p : List Nat) : cutV (Ns p) (some 1) none = Ns p.tail := by
  cases p with
  | nil => rfl
  | cons x p =>
    unfold cutV
    rw [HT.sIx_none, show (some (1 : Int)) = some ((1 : Nat) : Int) from rfl, HT.sIx_nat]
    have : min 1 (Ns (x :: p)).length = 1 := by rw [WW.Ns_len, List.length_cons]; omega
    rw [this]
    show ((Ns (x :: p)).drop 1).take _ = Ns p
    rw [List.take_of_length_le (by rw [List.length_drop]; exact Nat.le_refl _)]
    rfl
theorem cut_one (p : List Nat) : cutV (Ns p) none (some 1) = Ns (p.take 1) := by
  unfold cutV
  rw [show (some (1 : Int)) = some ((1 : Nat) : Int) from rfl, HT.sIx_nat, HT.sIx_none]
  show ((Ns p).drop 0).take _ = _
  rw [List.drop_zero, WW.Ns_len, Nat.sub_zero]
  unfold Ns
  rw [← List.map_take]
  congr 1
  cases p <;> simp
theorem d_tail {K : PySem.W.Frag} {H : Hp} {Q : VK} {t : Addr} {p : List Nat} (sq : SqT K H t (Ns p)) (ne : p ≠ []) (k : ∀ u, H u = none → Q (.ref u) (upd H u (.tup (Ns p.tail)))) : rSlT K (.ref t) (some 1) none H Q := by
  have pl : 1 ≤ p.length := by cases p with
    | nil => exact absurd rfl ne
    | cons => exact Nat.succ_pos _
  refine ⟨t, Ns p, rfl, sq, fun z => ?_, fun u hu => by rw [cut_tail]; exact k u hu⟩
  have := z.1
  rw [show (some (1 : Int)) = some ((1 : Nat) : Int) from rfl, HT.sIx_nat, WW.Ns_len] at this
  omega
theorem reps {n : Nat} : List.replicate n (V.bl true) ++ [V.bl true] = List.replicate (n + 1) (V.bl true) := by rw [List.replicate_succ']
theorem all_reps {K : PySem.W.Frag} {H : Hp} {Q : VK} {D : Addr} {n : Nat} (e : H D = some (.lst (List.replicate n (V.bl true)))) (k : Q (.bl true) H) : rAll K [.ref D] H Q :=
  ⟨D, List.replicate n true, rfl, by rw [List.map_replicate]; exact SqL.of e, by rw [show (List.replicate n true).all id = true from List.all_eq_true.mpr fun x m => by rw [List.eq_of_mem_replicate m]; rfl]; exact k⟩
def spIsZz (K : PySem.W.Frag) (C : Addr) : Sp := fun vs H Q _ => ∃ (x t : Addr) (ws : List WW.Wd) (l : WW.Wd) (p : List Nat), vs = [.ref x, .str (WW.S l), .ref t] ∧ BookAt K C H x ws ∧ Okw ws ∧ IsW 40 l ∧ H t = some (.tup (Ns p)) ∧ Zz ws l p ∧ ∀ H', Same H H' → Q (.bl true) H'
theorem d_one {K : PySem.W.Frag} {H : Hp} {Q : VK} {t : Addr} {p : List Nat} (sq : SqT K H t (Ns p)) (k : ∀ u H', Same H H' → SqT K H' u (Ns (p.take 1)) → Q (.ref u) H') : rSlA K (.ref t) none (some 1) H Q := by
  refine ⟨t, Ns p, rfl, sq, fun z => ?_, fun _ u hu => ?_⟩
  · have := z.2
    rw [show (some (1 : Int)) = some ((1 : Nat) : Int) from rfl, HT.sIx_nat, WW.Ns_len] at this
    exact k t H (Same.refl _) (by rw [List.take_of_length_le (by omega)]; exact sq)
  · rw [cut_one]
    exact k u _ (same_upd hu) (SqT.of upd_same)
theorem atI_end {p : List Nat} {v : Nat} (e : p[p.length - 1]? = some v) : atI (Ns p) (-1) = some (.int v) := by
  have pl := (List.getElem?_eq_some_iff.mp e).1
  have e2 : ixN (Ns p).length (-1) = some (p.length - 1) := by
    rw [WW.Ns_len]
    unfold ixN
    rw [if_neg (by omega), if_pos (by omega)]
    congr 1; omega
  unfold atI
  rw [e2]
  show (Ns p)[p.length - 1]? = _
  unfold Ns
  rw [List.getElem?_map, e]
  rfl
theorem d_ne0 {K : PySem.W.Frag} {H : Hp} {Q : VK} {a b : Addr} {q : List Nat} (sa : SqT K H a (Ns q)) (sb : H b = some (.tup (Ns q))) (k : Q (.bl false) H) : rNeD K (.ref a) (.ref b) H Q :=
  ⟨_, _, .tup sa (OQ.Tn_all q), .tup (SqT.of sb) (OQ.Tn_all q), OQ.Tn_shaped q, OQ.Tn_shaped q, by rw [PyData.eqv, OQ.Tn_eqv]; exact k⟩
theorem take_one {p : List Nat} {v : Nat} (e : p[0]? = some v) : p.take 1 = [v] := by
  cases p with
  | nil => cases e
  | cons x p => cases e; rfl
section
variable {P : Program} {w : World} {K : PySem.W.Frag} {mg : Str → Option Value} {base : Heap}
theorem ok_is_zigzag (T : Top K mg) : FnOk P w K mg base CX0 8 T.f_is_zigzag T.fd_is_zigzag ["book", "word", "thing"] (spIsZz K T.C_Book) := by
  refine T.F_is_zigzag.ok sc_is_zigzag (fun vs H Q E h => ?_) (fun cdv A outer s H vs Q E hr h => ?_)
  · obtain ⟨x, t, ws, l, p, rfl, _⟩ := h; rfl
  · obtain ⟨x, t, ws, l, p, rfl, b, ok, hl, et, zz, k⟩ := h
    have l40 := hl.hi
    have lz : l.length ≤ sizeLine := Nat.le_trans hl.hi (by decide)
    have pl := zz.len ok.ne
    have pn : p ≠ [] := fun z => by have := zz.first; rw [z] at this; cases this
    refine ⟨_, (pss_cons (ps_expr (pe_call (ok_check_asked T) (hr.mono (by decide)) (by rfl) T.g_check_asked T.F_check_asked.kp T.b_check_asked .nil pass0 (pa_cons (pv 0) (pa_cons (pv 1) pa_nil))))
 (pss_cons (ps_if (PW.pt (pw_or (pt_not (pt_val (pe_callB call_isi (by rfl) T.n_isinstance (by decide +kernel) (pa_cons (pv 2) (pa_cons (pe_bltn (v := V.ty "tuple") (by rfl) T.n_tuple (by decide +kernel) rfl) pa_nil))))) (pw_or1 (pt_not (pt_val (pe_callB (cr_all rfl) (by rfl) T.n_all (by decide +kernel) (pa_cons (pe_lc (own := [("item", 3)]) (g := (gName 3)) (tt := tYes) rfl sc_is_zigzag.nd (pi_tup (pv 2)) (blkOk_by (own := [("item", 3)]) (N := ["book", "word", "thing", "item", "links", "here", "there"]) (sc := defScope s_is_zigzag) (by decide +kernel)) (fun _ _ _ _ _ => (pg_name (i := 3) sc_is_zigzag.nd rfl (Or.inl rfl))) (fun _ _ _ _ _ => pts_nil) (fun _ _ _ _ _ => (pe_call (ok_is_spot T) (hr.mono (by decide)) (by rfl) T.g_is_spot T.F_is_spot.kp T.b_is_spot .nil pass0 (pa_cons (pv 1) (pa_cons (pv 3) pa_nil))))) pa_nil)))))))
 (pss_one (ps_ret pe_bl))
 pss_nil)
 (pss_cons (ps_if (PW.pt (pw_or (pt_cmpR op_ne (pe_callB RD.c_len (by rfl) T.n_len (by decide +kernel) (pa_cons (pv 2) pa_nil)) (OQ.pe_lenSetT (by rfl) T.n_len (by rfl) T.n_set (pv 2)) (nomark _)) (pw_or (pt_cmpR (op_neD hr.units) (pe_slice sl_tupA (pv 2) po_none (po_some pe_int)) (pe_tup (pa_cons pe_int pa_nil)) (nomark _)) (pw_or1 (pt_cmpR op_ne (pe_ix ix_tup (pv 2) (pe_un un_neg pe_int) (fun _ _ => rfl)) (pe_callB RD.c_len (by rfl) T.n_len (by decide +kernel) (pa_cons (pv 1) pa_nil)) (nomark _))))))
 (pss_one (ps_ret pe_bl))
 pss_nil)
 (pss_cons (ps_set (i := 4) sc_is_zigzag.nd rfl (Or.inr rfl) (pe_call (ok_links_of T) (hr.mono (by decide)) (by rfl) T.g_links_of T.F_links_of.kp T.b_links_of .nil pass0 (pa_cons (pv 0) (pa_cons (pv 1) pa_nil))))
 (pss_one (ps_ret (pe_callB (cr_all rfl) (by rfl) T.n_all (by decide +kernel) (pa_cons (pe_lc (own := [("here", 5), ("there", 6)]) (g := (gTup K 2 (gCons (gName 5) (gCons (gName 6) gNil)))) (tt := tYes) rfl sc_is_zigzag.nd (RZ.pi_zipA (by rfl) T.n_zip (pa_cons (pv 2) (pa_cons (pe_slice sl_tup (pv 2) (po_some pe_int) po_none) pa_nil))) (blkOk_by (own := [("here", 5), ("there", 6)]) (N := ["book", "word", "thing", "item", "links", "here", "there"]) (sc := defScope s_is_zigzag) (by decide +kernel)) (fun _ _ _ _ _ => (pg_tup (by rfl) (pgs_cons (pg_name (i := 5) sc_is_zigzag.nd rfl (Or.inl rfl)) (pgs_cons (pg_name (i := 6) sc_is_zigzag.nd rfl (Or.inl rfl)) pgs_nil)))) (fun _ _ _ _ _ => pts_nil) (fun _ _ _ _ _ => (pe_cmpR (OQ.inK K) (pv 6) (pe_ix (OQ.ixL K) (pv 4) (pv 5) (fun _ _ => rfl)) rfl))) pa_nil)))))))), ?_⟩
    walk_at "tx"
    refine ⟨x, ws, l, rfl, b, hl, fun H1 s1 => ?_⟩
    have et1 := s1 _ _ et
    walk_at "tx"
    refine RD.d_isi (.ty _) (.base (.tup et1)) (kit_ty (r := true) (by decide +kernel)) ?_
    walk_at "tx"
    refine ⟨t, rfl, ⟨_, SqT.of et1⟩, fun D hD => ?_⟩
    have sD := same_upd (o := HO.lst []) hD
    refine lc_it (walk_tup (K := K) (a := t) (xs := Ns p)) (fun i H' => Same H1 H' ∧ H' D = some (.lst (List.replicate i (V.bl true)))) ⟨sD, upd_same⟩ (fun i H' _ q => SqT.of (q.1 _ _ et1)) ?_ ?_
    · rintro i y H2 H' il ⟨s2, eD⟩ ⟨rfl, e1⟩
      obtain ⟨u, eu, rfl⟩ := WW.Ns_get e1
      rw [WW.Ns_len] at il
      have ul := zz.le ok.ne u (List.mem_of_getElem? eu)
      walk_at "tx"
      refine ⟨l, _, true, rfl, l40, .inl ⟨_, rfl, (decide_eq_true (by omega)).symm⟩, ?_⟩
      refine ⟨_, eD, by rw [List.length_replicate]; exact Nat.lt_of_le_of_lt (by omega : i ≤ 20000) (by decide), fun c o e => by rw [upd_ne (ne_of_none e hD)]; exact s2 _ _ e, by rw [upd_same, reps]⟩
    · rintro H2 ⟨s2, eD⟩
      have s02 := s1.trans s2
      have et2 := s2 _ _ et1
      walk_at "tx"
      refine all_reps eD ?_
      refine ⟨true, rfl, RD.d_iteNT ?_⟩
      walk_at "tx"
      have ens : Ns p = (p.map fun (j : Nat) => (j : Int)).map V.int := by unfold WW.Ns; rw [List.map_map]; rfl
      refine ⟨t, p.map fun (j : Nat) => (j : Int), rfl, by rw [← ens]; exact SqT.of et2, by rw [List.length_map]; omega, fun c _ cn => ?_⟩
      have ec : c = p.length := by
        have := cn.mpr (by
          have nd := zz.nd
          unfold List.Nodup at nd ⊢
          rw [List.pairwise_map]
          exact nd.imp fun {a b} ne z => ne (by omega))
        rwa [List.length_map] at this
      subst ec
      rw [WW.Ns_len]
      walk_at "tx"
      rw [decide_eq_true rfl]
      walk_at "tx"
      refine d_one (SqT.of et2) fun u H3 s3 su => ?_
      have et3 := s3 _ _ et2
      rw [take_one zz.first] at su
      walk_at "tx"
      refine ⟨by show 1 ≤ sizeLine; decide, fun z hz => ?_⟩
      have s4 := same_upd (o := HO.tup [V.int 0]) hz
      have ez : upd H3 z (.tup [V.int 0]) z = some (.tup (Ns [0])) := upd_same
      have s05 := (s02.trans s3).trans s4
      have su4 := OQ.sqT_same su s4
      have et4 := s4 _ _ et3
      generalize upd H3 z (.tup [V.int 0]) = H4 at *
      refine d_ne0 su4 ez ?_
      walk_at "tx"
      refine RD.d_ixT (SqT.of et4) (atI_end zz.last) ?_
      walk_at "tx"
      rw [decide_eq_true rfl]
      walk_at "tx"
      refine ⟨x, ws, l, rfl, b.same s05, ok, hl, fun H5 L rows s5 hL R lk => ?_⟩
      have et5 := s5 _ _ et4
      walk_at "tx"
      unfold RZ.iZipA
      dsimp only
      walk_at "tx"
      refine d_tail (SqT.of et5) pn fun u6 hu6 => ?_
      have s6 := same_upd (o := HO.tup (Ns p.tail)) hu6
      have eu : upd H5 u6 (.tup (Ns p.tail)) u6 = some (.tup (Ns p.tail)) := upd_same
      have et6 := s6 _ _ et5
      have s16 := (s05.trans s5).trans s6
      have R6 := R.same s6
      generalize upd H5 u6 (.tup (Ns p.tail)) = H6 at *
      walk_at "tx"
      refine ⟨t, u6, Ns p, Ns p.tail, rfl, .inr ⟨SqT.of et6, SqT.of eu, fun D2 hD2 => ?_⟩⟩
      have sD2 := same_upd (o := HO.lst []) hD2
      refine lc_it (OQ.walk_zipT (n := p.length - 1) (by rw [WW.Ns_len, WW.Ns_len, List.length_tail]; omega)) (fun i H' => Same H6 H' ∧ H' D2 = some (.lst (List.replicate i (V.bl true)))) ⟨sD2, upd_same⟩ (fun i H' _ q => ⟨SqT.of (q.1 _ _ et6), SqT.of (q.1 _ _ eu)⟩) ?_ ?_
      · rintro i y H7 H' il ⟨s7, eD7⟩ ⟨T2, a, c, rfl, hT, rfl, e1, e2⟩
        obtain ⟨a', ea, rfl⟩ := WW.Ns_get e1
        obtain ⟨b', eb, rfl⟩ := WW.Ns_get e2
        rw [List.getElem?_tail] at eb
        have lnk := zz.ch i a' b' ea eb
        have al := lnk.le ok.ne
        have sT := same_upd (o := HO.tup [V.int (a' : Nat), V.int (b' : Nat)]) hT
        have eT : upd H7 T2 (.tup [V.int (a' : Nat), V.int (b' : Nat)]) T2 = some (.tup [V.int (a' : Nat), V.int (b' : Nat)]) := upd_same
        have s8 := s7.trans sT
        have eD8 := sT _ _ eD7
        generalize upd H7 T2 (.tup [V.int (a' : Nat), V.int (b' : Nat)]) = H8 at *
        refine RD.d_two rfl (SqT.of eT) ?_
        walk_at "tx"
        refine RowsAt.ix R6 s8 (i := a') (by omega) rfl (fun ra hra0 => ?_)
        refine d_inNs (v := b') (.inl (SqL.of (s8 _ _ hra0))) ?_
        rw [decide_eq_true ((lk.mem a' b').mpr lnk)]
        refine ⟨_, eD8, by rw [List.length_replicate]; exact Nat.lt_of_lt_of_le (by omega : i < 100) (by decide), fun c o e => by rw [upd_ne (ne_of_none e hD2)]; exact s8 _ _ e, by rw [upd_same, reps]⟩
      · rintro H7 ⟨s7, eD7⟩
        walk_at "tx"
        exact all_reps eD7 (k _ (s16.trans s7))
end

/-! ### steps and rules -/
open WW (Ns)
/-- on, or back -/
def KS (b : Bool) : Str := if b then Str.ofString "on" else Str.ofString "back"
/-- the step from a spot to another -/
def stepOf (l : WW.Wd) (u v : Nat) : Bool × WW.Wd := if u < v then (true, WW.piece l u v) else (false, WW.piece l v u)
def stepsOf (l : WW.Wd) : List Nat → List (Bool × WW.Wd)
  | u :: v :: p => stepOf l u v :: stepsOf l (v :: p)
  | _ => []
theorem stepsOf_len (l : WW.Wd) : ∀ p : List Nat, (stepsOf l p).length = p.length - 1
  | [] => rfl
  | [_] => rfl
  | u :: v :: p => by rw [stepsOf, List.length_cons, stepsOf_len l (v :: p)]; simp
theorem stepsOf_get (l : WW.Wd) : ∀ (p : List Nat) (i u v : Nat), p[i]? = some u → p[i + 1]? = some v → (stepsOf l p)[i]? = some (stepOf l u v)
  | [], i, u, v, a, b => by simp at a
  | [_], i, u, v, a, b => by simp at b
  | x :: y :: p, 0, u, v, a, b => by cases a; cases b; rfl
  | x :: y :: p, i + 1, u, v, a, b => stepsOf_get l (y :: p) i u v a b
theorem stepOf_lw {l : WW.Wd} (h : WW.Lw l) (u v : Nat) : WW.Lw (stepOf l u v).2 := by
  have : ∀ a b, WW.Lw (WW.piece l a b) := fun a b c m => h c (List.mem_of_mem_drop (List.mem_of_mem_take m))
  unfold stepOf
  split
  · exact this _ _
  · exact this _ _
theorem stepsOf_lw {l : WW.Wd} (h : WW.Lw l) : ∀ (p : List Nat) (s), s ∈ stepsOf l p → WW.Lw s.2
  | [], s, m => by simp [stepsOf] at m
  | [_], s, m => by simp [stepsOf] at m
  | x :: y :: p, s, m => by
    rw [stepsOf] at m
    rcases List.mem_cons.mp m with rfl | m
    · exact stepOf_lw h _ _
    · exact stepsOf_lw h (y :: p) s m
def StD (s : Bool × WW.Wd) : PyData := .tuple [.str (KS s.1), .str (WW.S s.2)]
def StsAt (H : Hp) (rs : List Addr) (st : List (Bool × WW.Wd)) : Prop := rs.length = st.length ∧ ∀ (i : Nat) (r : Addr), rs[i]? = some r → ∃ s, st[i]? = some s ∧ H r = some (.tup [.str (KS s.1), .str (WW.S s.2)])
def RulAt (H : Hp) (t : Addr) (st : List (Bool × WW.Wd)) : Prop := ∃ rs : List Addr, H t = some (.tup (rs.map V.ref)) ∧ StsAt H rs st
theorem StsAt.same {H H' : Hp} {rs : List Addr} {st : List (Bool × WW.Wd)} (h : StsAt H rs st) (s : Same H H') : StsAt H' rs st := ⟨h.1, fun i r e => by obtain ⟨x, e1, e2⟩ := h.2 i r e; exact ⟨x, e1, s _ _ e2⟩⟩
theorem StsAt.mov {H H' : Hp} {rs : List Addr} {st : List (Bool × WW.Wd)} (h : StsAt H rs st) (k : ∀ t ns, H t = some (.tup ns) → H' t = some (.tup ns)) : StsAt H' rs st := ⟨h.1, fun i r e => by obtain ⟨x, e1, e2⟩ := h.2 i r e; exact ⟨x, e1, k _ _ e2⟩⟩
theorem StsAt.snoc {H : Hp} {rs : List Addr} {st : List (Bool × WW.Wd)} {r : Addr} {s : Bool × WW.Wd} (h : StsAt H rs st) (e : H r = some (.tup [.str (KS s.1), .str (WW.S s.2)])) : StsAt H (rs ++ [r]) (st ++ [s]) := by
  refine ⟨by rw [List.length_append, List.length_append, h.1]; rfl, fun i x ei => ?_⟩
  by_cases c : i < rs.length
  · rw [List.getElem?_append_left c] at ei
    obtain ⟨y, e1, e2⟩ := h.2 i x ei
    exact ⟨y, by rw [List.getElem?_append_left (by rw [← h.1]; exact c)]; exact e1, e2⟩
  · have il := (List.getElem?_eq_some_iff.mp ei).1
    rw [List.length_append, List.length_singleton] at il
    have : i = rs.length := by omega
    subst this
    rw [List.getElem?_append_right (Nat.le_refl _), Nat.sub_self] at ei
    cases ei
    exact ⟨s, by rw [h.1, List.getElem?_append_right (Nat.le_refl _), Nat.sub_self]; rfl, e⟩
theorem RulAt.same {H H' : Hp} {t : Addr} {st : List (Bool × WW.Wd)} (h : RulAt H t st) (s : Same H H') : RulAt H' t st := by
  obtain ⟨rs, e, a⟩ := h
  exact ⟨rs, s _ _ e, a.same s⟩
theorem StsD_all {K : PySem.W.Frag} {H : Hp} : ∀ (rs : List Addr) (st : List (Bool × WW.Wd)), StsAt H rs st → DpAll K H (rs.map V.ref) (st.map StD)
  | [], [], _ => .nil
  | [], _ :: _, h => by have := h.1; simp at this
  | _ :: _, [], h => by have := h.1; simp at this
  | t :: ts, c :: cs, h => by
    obtain ⟨c', e1, e2⟩ := h.2 0 t rfl
    cases e1
    refine .cons (.tup (SqT.of e2) (.cons (.str _) (.cons (.str _) .nil))) (StsD_all ts cs ⟨by simpa using h.1, fun i u z => ?_⟩)
    obtain ⟨c', a, b⟩ := h.2 (i + 1) u (by simpa using z)
    exact ⟨c', by simpa using a, b⟩
theorem StD_lay {s : Bool × WW.Wd} (h : WW.Lw s.2) : PyData.canLay0 (StD s) = true ∧ PyData.depth (StD s) ≤ 1 := by
  obtain ⟨h1, h2⟩ := OQ.Td_lay [s.2] (fun x m => by rw [List.mem_singleton] at m; rw [m]; exact h)
  have e : OQ.Td [s.2] = [.str (WW.S s.2)] := rfl
  rw [e] at h1 h2
  unfold StD
  rw [PyData.canLay0, PyData.canLayAll0, h1, PyData.depth, PyData.depthAll, h2]
  refine ⟨?_, by rw [PyData.depth]; omega⟩
  rw [Bool.and_true, KS]
  cases s.1 <;> decide +kernel
theorem StsD_lay : ∀ st : List (Bool × WW.Wd), (∀ s ∈ st, WW.Lw s.2) → PyData.canLayAll0 (st.map StD) = true ∧ PyData.depthAll (st.map StD) ≤ 1
  | [], _ => ⟨by rw [List.map_nil, PyData.canLayAll0], by rw [List.map_nil, PyData.depthAll]; exact Nat.zero_le _⟩
  | c :: cs, h => by
    obtain ⟨h1, h2⟩ := StsD_lay cs fun x m => h x (List.mem_cons_of_mem _ m)
    obtain ⟨g1, g2⟩ := StD_lay (h c (List.mem_cons_self ..))
    rw [List.map_cons, PyData.canLayAll0, PyData.depthAll, h1, g1]
    exact ⟨rfl, by omega⟩
theorem StsD_shaped {st : List (Bool × WW.Wd)} (h : ∀ s ∈ st, WW.Lw s.2) : SeqAt.shaped (.tuple (st.map StD)) = true := by
  obtain ⟨h1, h2⟩ := StsD_lay st h
  unfold SeqAt.shaped
  rw [PyData.canLay0, PyData.depth, h1, Bool.true_and, decide_eq_true_eq]
  omega
theorem d_neRul {K : PySem.W.Frag} {H : Hp} {Q : VK} {a b : Addr} {st : List (Bool × WW.Wd)} (ha : RulAt H a st) (hb : RulAt H b st) (lw : ∀ s ∈ st, WW.Lw s.2) (k : Q (.bl false) H) : rNeD K (.ref a) (.ref b) H Q := by
  obtain ⟨rs, e1, s1⟩ := ha
  obtain ⟨rs', e2, s2⟩ := hb
  have sh := StsD_shaped lw
  exact ⟨_, _, .tup (SqT.of e1) (StsD_all rs st s1), .tup (SqT.of e2) (StsD_all rs' st s2), sh, sh, by rw [SeqAt.eqv_refl _ (SeqAt.canLay_of_shaped sh)]; exact k⟩
section
variable {P : Program} {w : World} {K : PySem.W.Frag} {mg : Str → Option Value} {base : Heap}
def spBtw (K : PySem.W.Frag) : Sp := fun vs H Q _ => ∃ (l : WW.Wd) (u v : Nat), vs = [.str (WW.S l), .int u, .int v] ∧ IsW 40 l ∧ ∀ z H', Same H H' → H z = none → H' z = some (.tup [.str (KS (stepOf l u v).1), .str (WW.S (stepOf l u v).2)]) → Q (.ref z) H'
theorem ok_step_between (T : Top K mg) : FnOk P w K mg base CX0 1 T.f_step_between T.fd_step_between ["word", "here", "there"] (spBtw K) := by
  refine T.F_step_between.ok sc_step_between (fun vs H Q E h => ?_) (fun cdv A outer s H vs Q E hr h => ?_)
  · obtain ⟨l, u, v, rfl, _⟩ := h; rfl
  · obtain ⟨l, u, v, rfl, hl, k⟩ := h
    have lz : l.length ≤ sizeLine := Nat.le_trans hl.hi (by decide)
    refine ⟨_, (pss_cons (ps_if (pt_cmpR op_lt (pv 1) (pv 2) (nomark _))
 (pss_one (ps_ret (pe_tup (pa_cons (pe_glob (v := V.str (Str.ofString "on")) (by rfl) T.g_ON ⟨_, rfl⟩) (pa_cons (pe_slice sl_str (pv 0) (po_some (pv 1)) (po_some (pv 2))) pa_nil)))))
 pss_nil)
 (pss_one (ps_ret (pe_tup (pa_cons (pe_glob (v := V.str (Str.ofString "back")) (by rfl) T.g_BACK ⟨_, rfl⟩) (pa_cons (pe_slice sl_str (pv 0) (po_some (pv 2)) (po_some (pv 1))) pa_nil)))))), ?_⟩
    walk_at "tx"
    refine RD.iteD (fun c => ?_) (fun c => ?_)
    · walk_at "tx"
      refine RD.d_cutS rfl rfl lz ?_
      walk_at "tx"
      refine ⟨by show 2 ≤ sizeLine; decide, fun z hz => ?_⟩
      exact k z _ (same_upd hz) hz (by rw [stepOf, if_pos (by omega)]; exact upd_same)
    · walk_at "tx"
      refine RD.d_cutS rfl rfl lz ?_
      walk_at "tx"
      refine ⟨by show 2 ≤ sizeLine; decide, fun z hz => ?_⟩
      exact k z _ (same_upd hz) hz (by rw [stepOf, if_neg (by omega)]; exact upd_same)
def spStep (K : PySem.W.Frag) : Sp := fun vs H Q _ => ∃ (t : Addr) (b : Bool) (l : WW.Wd), vs = [.ref t] ∧ H t = some (.tup [.str (KS b), .str (WW.S l)]) ∧ IsW 12 l ∧ ∀ H', Same H H' → Q (.bl true) H'
theorem ok_is_step (T : Top K mg) : FnOk P w K mg base CX0 3 T.f_is_step T.fd_is_step ["thing"] (spStep K) := by
  refine T.F_is_step.ok sc_is_step (fun vs H Q E h => ?_) (fun cdv A outer s H vs Q E hr h => ?_)
  · obtain ⟨t, b, l, rfl, _⟩ := h; rfl
  · obtain ⟨t, b, l, rfl, et, hl, k⟩ := h
    refine ⟨_, (pss_one (ps_ret (pe_and (pe_callB call_isi (by rfl) T.n_isinstance (by decide +kernel) (pa_cons (pv 0) (pa_cons (pe_bltn (v := V.ty "tuple") (by rfl) T.n_tuple (by decide +kernel) rfl) pa_nil))) (pe_and (pe_cmpR op_eq (pe_callB RD.c_len (by rfl) T.n_len (by decide +kernel) (pa_cons (pv 0) pa_nil)) pe_int (nomark _)) (pe_and (pe_cmpR op_in_seq (pe_ix ix_tup (pv 0) pe_int (fun _ _ => rfl)) (pe_tup (pa_cons (pe_glob (v := V.str (Str.ofString "on")) (by rfl) T.g_ON ⟨_, rfl⟩) (pa_cons (pe_glob (v := V.str (Str.ofString "back")) (by rfl) T.g_BACK ⟨_, rfl⟩) pa_nil))) rfl) (pe_one (pe_call (ok_is_watch T) (hr.mono (by decide)) (by rfl) T.g_is_watch T.F_is_watch.kp T.b_is_watch .nil pass0 (pa_cons (pe_ix ix_tup (pv 0) pe_int (fun _ _ => rfl)) pa_nil)))))))), ?_⟩
    walk_at "tx"
    refine RD.d_isi (.ty _) (.base (.tup et)) (kit_ty (r := true) (by decide +kernel)) ?_
    walk_at "tx"
    rw [show decide (([V.str (KS b), V.str (WW.S l)].length : Int) = 2) = true from rfl]
    walk_at "tx"
    refine ⟨by show 2 ≤ sizeLine; decide, fun z hz => ?_⟩
    have s1 := same_upd (o := HO.tup [V.str (Str.ofString "on"), V.str (Str.ofString "back")]) hz
    refine ⟨z, _, rfl, .inr (SqT.of upd_same), rfl, rfl, ?_⟩
    refine ⟨true, by rw [show inV (.str (KS b)) [V.str (Str.ofString "on"), V.str (Str.ofString "back")] = true from by cases b <;> decide +kernel]; rfl, ?_⟩
    walk_at "tx"
    refine RD.d_ixT (SqT.of (s1 _ _ et)) (v := .str (WW.S l)) (atI_nat (j := 1) rfl) ?_
    walk_at "tx"
    exact ⟨l, rfl, hl, fun H' s2 => k H' (s1.trans s2)⟩
def spAlong (K : PySem.W.Frag) : Sp := fun vs H Q _ => ∃ (t : Addr) (l : WW.Wd) (p : List Nat), vs = [.str (WW.S l), .ref t] ∧ IsW 40 l ∧ H t = some (.tup (Ns p)) ∧ p ≠ [] ∧ p.length ≤ 100 ∧ ∀ u H', Same H H' → RulAt H' u (stepsOf l p) → Q (.ref u) H'
theorem ok_steps_along (T : Top K mg) : FnOk P w K mg base CX0 2 T.f_steps_along T.fd_steps_along ["word", "spots"] (spAlong K) := by
  refine T.F_steps_along.ok sc_steps_along (fun vs H Q E h => ?_) (fun cdv A outer s H vs Q E hr h => ?_)
  · obtain ⟨t, l, p, rfl, _⟩ := h; rfl
  · obtain ⟨t, l, p, rfl, hl, et, pn, pl, k⟩ := h
    refine ⟨_, (pss_one (ps_ret (pe_callTy (OQ.tupK K) (by rfl) T.n_tuple (by decide +kernel) (pa_cons (pe_lc (own := [("here", 2), ("there", 3)]) (g := (gTup K 2 (gCons (gName 2) (gCons (gName 3) gNil)))) (tt := tYes) rfl sc_steps_along.nd (RZ.pi_zipA (by rfl) T.n_zip (pa_cons (pv 1) (pa_cons (pe_slice sl_tup (pv 1) (po_some pe_int) po_none) pa_nil))) (blkOk_by (own := [("here", 2), ("there", 3)]) (N := ["word", "spots", "here", "there"]) (sc := defScope s_steps_along) (by decide +kernel)) (fun _ _ _ _ _ => (pg_tup (by rfl) (pgs_cons (pg_name (i := 2) sc_steps_along.nd rfl (Or.inl rfl)) (pgs_cons (pg_name (i := 3) sc_steps_along.nd rfl (Or.inl rfl)) pgs_nil)))) (fun _ _ _ _ _ => pts_nil) (fun _ _ _ _ _ => (pe_call (ok_step_between T) (hr.mono (by decide)) (by rfl) T.g_step_between T.F_step_between.kp T.b_step_between .nil pass0 (pa_cons (pv 0) (pa_cons (pv 2) (pa_cons (pv 3) pa_nil)))))) pa_nil)))), ?_⟩
    walk_at "tx"
    unfold RZ.iZipA
    dsimp only
    walk_at "tx"
    refine d_tail (SqT.of et) pn fun u hu => ?_
    have s1 := same_upd (o := HO.tup (Ns p.tail)) hu
    have eu : upd H u (.tup (Ns p.tail)) u = some (.tup (Ns p.tail)) := upd_same
    have et1 := s1 _ _ et
    generalize upd H u (.tup (Ns p.tail)) = H1 at *
    walk_at "tx"
    refine ⟨t, u, Ns p, Ns p.tail, rfl, .inr ⟨SqT.of et1, SqT.of eu, fun D hD => ?_⟩⟩
    have sD := same_upd (o := HO.lst []) hD
    refine lc_it (OQ.walk_zipT (n := p.length - 1) (by rw [WW.Ns_len, WW.Ns_len, List.length_tail]; omega)) (fun i H' => Same H1 H' ∧ ∃ rs : List Addr, H' D = some (.lst (rs.map V.ref)) ∧ StsAt H' rs ((stepsOf l p).take i)) ⟨sD, [], upd_same, by rw [List.take_zero]; exact ⟨rfl, fun i r e => by simp at e⟩⟩ (fun i H' _ q => ⟨SqT.of (q.1 _ _ et1), SqT.of (q.1 _ _ eu)⟩) ?_ ?_
    · rintro i y H7 H' il ⟨s7, rs, eD7, st⟩ ⟨T2, a, c, rfl, hT, rfl, e1, e2⟩
      obtain ⟨a', ea, rfl⟩ := WW.Ns_get e1
      obtain ⟨b', eb, rfl⟩ := WW.Ns_get e2
      rw [List.getElem?_tail] at eb
      have sT := same_upd (o := HO.tup [V.int (a' : Nat), V.int (b' : Nat)]) hT
      have eT : upd H7 T2 (.tup [V.int (a' : Nat), V.int (b' : Nat)]) T2 = some (.tup [V.int (a' : Nat), V.int (b' : Nat)]) := upd_same
      have s8 := s7.trans sT
      have eD8 := sT _ _ eD7
      have st8 := st.same sT
      generalize upd H7 T2 (.tup [V.int (a' : Nat), V.int (b' : Nat)]) = H8 at *
      refine RD.d_two rfl (SqT.of eT) ?_
      walk_at "tx"
      refine ⟨l, a', b', rfl, hl, fun z H9 s9 hz ez => ?_⟩
      have eD9 := s9 _ _ eD8
      have st9 := st8.same s9
      have sl : (stepsOf l p)[i]? = some (stepOf l a' b') := stepsOf_get l p i a' b' ea eb
      have ln : rs.length = i := by rw [st.1, List.length_take, stepsOf_len]; omega
      have s10 : Same H1 (upd H9 D (.lst (rs.map V.ref ++ [.ref z]))) := fun c o e => by rw [upd_ne (ne_of_none e hD)]; exact (s8.trans s9) _ _ e
      refine ⟨_, eD9, by rw [List.length_map, ln]; exact Nat.lt_of_lt_of_le (by omega : i < 100) (by decide), s10, rs ++ [z], by rw [upd_same, List.map_append]; rfl, ?_⟩
      rw [List.take_succ, sl]
      exact (st9.snoc ez).mov fun t ns e => by rw [upd_ne (fun c => by rw [c, eD9] at e; cases e)]; exact e
    · rintro H7 ⟨s7, rs, eD7, st⟩
      walk_at "tx"
      refine ⟨D, _, rfl, .inl ⟨SqL.of eD7, fun x hx => ?_⟩⟩
      rw [List.take_of_length_le (by rw [stepsOf_len]; omega)] at st
      have sx := same_upd (o := HO.tup (rs.map V.ref)) hx
      exact k x _ ((s1.trans s7).trans sx) ⟨rs, upd_same, st.same sx⟩
end

/-! ### rules judged and followed -/
open WW (Ns)
theorem piece_same {l : WW.Wd} {u v : Nat} : (stepOf l u v).2 = WW.piece l (min u v) (max u v) := by
  unfold stepOf
  split
  · rw [Nat.min_eq_left (by omega), Nat.max_eq_right (by omega)]
  · rw [Nat.min_eq_right (by omega), Nat.max_eq_left (by omega)]
theorem link_step {ws : List WW.Wd} {l : WW.Wd} {u v : Nat} (h : WW.Link ws l u v) (ok : ∀ w ∈ ws, w ≠ []) : (stepOf l u v).2 ∈ ws := by
  obtain ⟨w, m, ⟨ht, rfl⟩ | ⟨ht, rfl⟩⟩ := h
  · have n := List.length_pos_iff.mpr (ok w m)
    rw [piece_same, Nat.min_eq_left (by omega), Nat.max_eq_right (by omega), ht]
    exact m
  · have n := List.length_pos_iff.mpr (ok w m)
    rw [piece_same, Nat.min_eq_right (by omega), Nat.max_eq_left (by omega), ht]
    exact m
theorem atI_lastV {xs : List V} {v : V} (e : xs[xs.length - 1]? = some v) : atI xs (-1) = some v := by
  have pl := (List.getElem?_eq_some_iff.mp e).1
  have e2 : ixN xs.length (-1) = some (xs.length - 1) := by
    unfold ixN
    rw [if_neg (by omega), if_pos (by omega)]
    congr 1; omega
  unfold atI
  rw [e2]
  exact e
theorem d_eqOn {b : Bool} {H : Hp} {Q : VK} (k : Q (.bl b) H) : rEq (.str (KS b)) (.str (Str.ofString "on")) H Q :=
  ⟨rfl, by rw [show decide (V.str (KS b) = V.str (Str.ofString "on")) = b from by cases b <;> decide +kernel]; exact k⟩
section
variable {P : Program} {w : World} {K : PySem.W.Frag} {mg : Str → Option Value} {base : Heap}
def spAnyR (K : PySem.W.Frag) : Sp := fun vs H Q _ => ∃ (t : Addr) (ws : List WW.Wd) (l : WW.Wd) (p : List Nat), vs = [.ref t] ∧ Okw ws ∧ IsW 40 l ∧ RulAt H t (stepsOf l p) ∧ Zz ws l p ∧ ∀ H', Same H H' → Q (.bl true) H'
def spChkR (K : PySem.W.Frag) : Sp := fun vs H Q _ => ∃ (t : Addr) (ws : List WW.Wd) (l : WW.Wd) (p : List Nat), vs = [.ref t] ∧ Okw ws ∧ IsW 40 l ∧ RulAt H t (stepsOf l p) ∧ Zz ws l p ∧ ∀ H', Same H H' → Q .non H'
def spSpA (K : PySem.W.Frag) : Sp := fun vs H Q _ => ∃ (t : Addr) (ws : List WW.Wd) (l : WW.Wd) (p : List Nat), vs = [.str (WW.S l), .ref t] ∧ Okw ws ∧ IsW 40 l ∧ RulAt H t (stepsOf l p) ∧ Zz ws l p ∧ ∀ u H', Same H H' → H' u = some (.tup (Ns p)) → Q (.ref u) H'
theorem ok_is_any_rule (T : Top K mg) : FnOk P w K mg base CX0 4 T.f_is_any_rule T.fd_is_any_rule ["thing"] (spAnyR K) := by
  refine T.F_is_any_rule.ok sc_is_any_rule (fun vs H Q E h => ?_) (fun cdv A outer s H vs Q E hr h => ?_)
  · obtain ⟨t, ws, l, p, rfl, _⟩ := h; rfl
  · obtain ⟨t, ws, l, p, rfl, ok, hl, ⟨rs, et, st⟩, zz, k⟩ := h
    have l40 := hl.hi
    have pl := zz.len ok.ne
    have p2 := zz.two hl.lo
    have rl : rs.length = p.length - 1 := by rw [st.1, stepsOf_len]
    have get : ∀ i, i < rs.length → ∃ (u v : Nat) (r : Addr), p[i]? = some u ∧ p[i + 1]? = some v ∧ rs[i]? = some r ∧ WW.Link ws l u v ∧ ∀ H', Same H H' → H' r = some (.tup [.str (KS (stepOf l u v).1), .str (WW.S (stepOf l u v).2)]) := fun i il => by
      have e1 : p[i]? = some (p[i]'(by omega)) := List.getElem?_eq_getElem (by omega)
      have e2 : p[i + 1]? = some (p[i + 1]'(by omega)) := List.getElem?_eq_getElem (by omega)
      have er : rs[i]? = some rs[i] := List.getElem?_eq_getElem il
      obtain ⟨s, es, ex⟩ := st.2 i _ er
      rw [stepsOf_get l p i _ _ e1 e2] at es
      cases es
      exact ⟨_, _, _, e1, e2, er, zz.ch i _ _ e1 e2, fun H' s => s _ _ ex⟩
    refine ⟨_, (pss_cons (ps_if (PW.pt (pw_or (pt_not (pt_val (pe_callB call_isi (by rfl) T.n_isinstance (by decide +kernel) (pa_cons (pv 0) (pa_cons (pe_bltn (v := V.ty "tuple") (by rfl) T.n_tuple (by decide +kernel) rfl) pa_nil))))) (pw_or1 (pt_not (pt_chain op_le op_le pe_int (pe_callB RD.c_len (by rfl) T.n_len (by decide +kernel) (pa_cons (pv 0) pa_nil)) (pe_glob (v := V.int 80) (by rfl) T.g_MOST_STEPS ⟨_, rfl⟩))))))
 (pss_one (ps_ret pe_bl))
 pss_nil)
 (pss_one (ps_ret (pe_and (pe_callB (cr_all rfl) (by rfl) T.n_all (by decide +kernel) (pa_cons (pe_lc (own := [("item", 1)]) (g := (gName 1)) (tt := tYes) rfl sc_is_any_rule.nd (pi_tup (pv 0)) (blkOk_by (own := [("item", 1)]) (N := ["thing", "item"]) (sc := defScope s_is_any_rule) (by decide +kernel)) (fun _ _ _ _ _ => (pg_name (i := 1) sc_is_any_rule.nd rfl (Or.inl rfl))) (fun _ _ _ _ _ => pts_nil) (fun _ _ _ _ _ => (pe_call (ok_is_step T) (hr.mono (by decide)) (by rfl) T.g_is_step T.F_is_step.kp T.b_is_step .nil pass0 (pa_cons (pv 1) pa_nil)))) pa_nil)) (pe_and (pe_cmpR op_eq (pe_ix ix_tup (pe_ix ix_tup (pv 0) pe_int (fun _ _ => rfl)) pe_int (fun _ _ => rfl)) (pe_glob (v := V.str (Str.ofString "on")) (by rfl) T.g_ON ⟨_, rfl⟩) (nomark _)) (pe_one (pe_cmpR op_eq (pe_ix ix_tup (pe_ix ix_tup (pv 0) (pe_un un_neg pe_int) (fun _ _ => rfl)) pe_int (fun _ _ => rfl)) (pe_glob (v := V.str (Str.ofString "on")) (by rfl) T.g_ON ⟨_, rfl⟩) (nomark _)))))))), ?_⟩
    walk_at "tx"
    refine RD.d_isi (.ty _) (.base (.tup et)) (kit_ty (r := true) (by decide +kernel)) ?_
    walk_at "tx"
    rw [List.length_map, decide_eq_true (by omega : 1 ≤ (rs.length : Int)), if_pos rfl]
    walk_at "tx"
    rw [decide_eq_true (by omega : (rs.length : Int) ≤ 80)]
    walk_at "tx"
    refine ⟨t, rfl, ⟨_, SqT.of et⟩, fun D hD => ?_⟩
    have sD := same_upd (o := HO.lst []) hD
    refine lc_it (walk_tup (K := K) (a := t) (xs := rs.map V.ref)) (fun i H' => Same H H' ∧ H' D = some (.lst (List.replicate i (V.bl true)))) ⟨sD, upd_same⟩ (fun i H' _ q => SqT.of (q.1 _ _ et)) ?_ ?_
    · rintro i y H2 H' il ⟨s2, eD⟩ ⟨rfl, e1⟩
      rw [List.length_map] at il
      obtain ⟨u, v, r, eu, ev, er, lnk, ex⟩ := get i il
      rw [List.getElem?_map, er] at e1
      cases e1
      have lw := link_step lnk ok.ne
      walk_at "tx"
      refine ⟨r, _, _, rfl, ex _ s2, ok.ok _ lw, fun H3 s3 => ?_⟩
      refine ⟨_, s3 _ _ eD, by rw [List.length_replicate]; exact Nat.lt_of_lt_of_le (by omega : i < 100) (by decide), fun c o e => by rw [upd_ne (ne_of_none e hD)]; exact (s2.trans s3) _ _ e, by rw [upd_same, reps]⟩
    · rintro H2 ⟨s2, eD⟩
      walk_at "tx"
      refine all_reps eD ?_
      refine ⟨true, rfl, RD.d_iteT ?_⟩
      walk_at "tx"
      have et2 := s2 _ _ et
      obtain ⟨u, v, r, eu, ev, er, lnk, ex⟩ := get 0 (by omega)
      rw [zz.first] at eu
      cases eu
      have l0 := lnk.le ok.ne
      refine RD.d_ixT (SqT.of et2) (v := .ref r) (atI_nat (j := 0) (by rw [List.getElem?_map, er]; rfl)) ?_
      walk_at "tx"
      refine RD.d_ixT (SqT.of (ex _ s2)) (atI_nat (j := 0) rfl) ?_
      walk_at "tx"
      rw [show (stepOf l 0 v).1 = true from by rw [stepOf, if_pos (by omega)]]
      rw [show decide (KS true = Str.ofString "on") = true from by decide +kernel]
      walk_at "tx"
      obtain ⟨u', v', r', eu', ev', er', lnk', ex'⟩ := get (rs.length - 1) (by omega)
      rw [show rs.length - 1 + 1 = p.length - 1 from by omega, zz.last] at ev'
      cases ev'
      have l0' := lnk'.le ok.ne
      refine RD.d_ixT (SqT.of et2) (v := .ref r') (atI_lastV (by rw [List.getElem?_map, List.length_map, er']; rfl)) ?_
      walk_at "tx"
      refine RD.d_ixT (SqT.of (ex' _ s2)) (atI_nat (j := 0) rfl) ?_
      walk_at "tx"
      rw [show (stepOf l u' l.length).1 = true from by rw [stepOf, if_pos (by omega)]]
      rw [show decide (KS true = Str.ofString "on") = true from by decide +kernel]
      exact k _ s2
theorem ok_check_rule (T : Top K mg) : FnOk P w K mg base CX0 5 T.f_check_rule T.fd_check_rule ["rule"] (spChkR K) := by
  refine T.F_check_rule.ok sc_check_rule (fun vs H Q E h => ?_) (fun cdv A outer s H vs Q E hr h => ?_)
  · obtain ⟨t, ws, l, p, rfl, _⟩ := h; rfl
  · obtain ⟨t, ws, l, p, rfl, ok, hl, ru, zz, k⟩ := h
    refine ⟨_, (pss_one (ps_if (pt_not (pt_val (pe_call (ok_is_any_rule T) (hr.mono (by decide)) (by rfl) T.g_is_any_rule T.F_is_any_rule.kp T.b_is_any_rule .nil pass0 (pa_cons (pv 0) pa_nil))))
 (pss_one ps_never)
 pss_nil)), ?_⟩
    walk_at "tx"
    refine ⟨t, ws, l, p, rfl, ok, hl, ru, zz, fun H1 s1 => ?_⟩
    walk_at "tx"
    exact k _ s1
end

/-! ### whether a book has a watch -/
def spHasW (K : PySem.W.Frag) (C : Addr) : Sp := fun vs H Q _ => ∃ (x : Addr) (ws : List WW.Wd) (w : WW.Wd), vs = [.ref x, .str (WW.S w)] ∧ BookAt K C H x ws ∧ Q (.bl (decide (w ∈ ws))) H
section
variable {P : Program} {w : World} {K : PySem.W.Frag} {mg : Str → Option Value} {base : Heap}
theorem ok_Book_has (T : Top K mg) : FnOk P w K mg base CX0 1 T.f_Book_has T.fd_Book_has ["self", "thing"] (spHasW K T.C_Book) := by
  refine T.F_Book_has.ok sc_Book_has (fun vs H Q E h => ?_) (fun cdv A outer s H vs Q E hr h => ?_)
  · obtain ⟨x, ws, l, rfl, _⟩ := h; rfl
  · obtain ⟨x, ws, l, rfl, ⟨dx, t, ex, sq⟩, k⟩ := h
    refine ⟨_, (pss_one (ps_ret (pe_and (pe_callB call_isi (by rfl) T.n_isinstance (by decide +kernel) (pa_cons (pv 1) (pa_cons (pe_bltn (v := V.ty "str") (by rfl) T.n_str (by decide +kernel) rfl) pa_nil))) (pe_one (pe_cmpR op_in_seq (pv 1) (pe_fld (pv 0) (by rfl)) rfl))))), ?_⟩
    walk_at "tx"
    refine RD.d_isi (.ty _) (.base (.str _)) (kit_ty (r := true) (by decide +kernel)) ?_
    walk_at "tx"
    refine ⟨x, T.C_Book, dx, _, _, rfl, ex, T.cl_Book, T.na_Book_watches, lk_eq, ?_⟩
    refine OQ.d_inSs (.inr sq) ?_
    exact k
end

/-! ### a rule followed -/
open WW (Ns)
section
variable {P : Program} {w : World} {K : PySem.W.Frag} {mg : Str → Option Value} {base : Heap}
theorem ok_spots_along (T : Top K mg) : FnOk P w K mg base CX0 1 T.f_spots_along T.fd_spots_along ["word", "rule"] (spSpA K) := by
  refine T.F_spots_along.ok sc_spots_along (fun vs H Q E h => ?_) (fun cdv A outer s H vs Q E hr h => ?_)
  · obtain ⟨t, ws, l, p, rfl, _⟩ := h; rfl
  · obtain ⟨t, ws, l, p, rfl, ok, hl, ⟨rs, et, st⟩, zz, k⟩ := h
    have l40 := hl.hi
    have lz : l.length ≤ sizeLine := Nat.le_trans hl.hi (by decide)
    have pl := zz.len ok.ne
    have p2 := zz.two hl.lo
    have rl : rs.length = p.length - 1 := by rw [st.1, stepsOf_len]
    refine ⟨_, (pss_cons (ps_set (i := 2) sc_spots_along.nd rfl (Or.inl rfl) (pe_lst (pa_cons pe_int pa_nil)))
 (pss_cons (ps_for PassesOwn.never rfl (pi_tup (pv 1)) (pg_tup (by rfl) (pgs_cons (pg_name (i := 3) sc_spots_along.nd rfl (Or.inl rfl)) (pgs_cons (pg_name (i := 4) sc_spots_along.nd rfl (Or.inl rfl)) pgs_nil)))
 (pss_cons (ps_set (i := 5) sc_spots_along.nd rfl (Or.inl rfl) (pe_ix ix_list (pv 2) (pe_un un_neg pe_int) (fun _ _ => rfl)))
 (pss_cons (ps_set (i := 6) sc_spots_along.nd rfl (Or.inl rfl) (pe_ifExp (pt_cmpR op_eq (pv 3) (pe_glob (v := V.str (Str.ofString "on")) (by rfl) T.g_ON ⟨_, rfl⟩) (nomark _)) (pe_op op_add (pv 5) (pe_callB RD.c_len (by rfl) T.n_len (by decide +kernel) (pa_cons (pv 4) pa_nil))) (pe_op op_sub (pv 5) (pe_callB RD.c_len (by rfl) T.n_len (by decide +kernel) (pa_cons (pv 4) pa_nil)))))
 (pss_cons (ps_par (i := 7) (j := 8) (by rfl) sc_spots_along.nd rfl rfl (by decide) rfl rfl (pa_cons (pe_callB (call_min2 rfl) (by rfl) T.n_min (by decide +kernel) (pa_cons (pv 5) (pa_cons (pv 6) pa_nil))) (pa_cons (pe_callB (call_max2 rfl) (by rfl) T.n_max (by decide +kernel) (pa_cons (pv 5) (pa_cons (pv 6) pa_nil))) pa_nil)) (by rfl))
 (pss_cons (ps_if (PW.pt (pw_or (pt_cmpR op_lt (pv 7) pe_int (nomark _)) (pw_or1 (pt_cmpR op_ne (pe_slice sl_str (pv 0) (po_some (pv 7)) (po_some (pv 8))) (pv 4) (nomark _)))))
 (pss_one (ps_ret pe_non))
 pss_nil)
 (pss_one (ps_expr (pe_bm PySem.F.plainAttrs_list PySem.F.slot_list_append PySem.F.type_list_append mt_append (pv 2) (pa_cons (pv 6) pa_nil)))))))))
 (pss_one (ps_ret (pe_ifExp (pt_cmpR op_eq (pe_ix ix_list (pv 2) (pe_un un_neg pe_int) (fun _ _ => rfl)) (pe_callB RD.c_len (by rfl) T.n_len (by decide +kernel) (pa_cons (pv 0) pa_nil)) (nomark _)) (pe_callTy (OQ.tupK K) (by rfl) T.n_tuple (by decide +kernel) (pa_cons (pv 2) pa_nil)) pe_non))))), ?_⟩
    walk_at "tx"
    refine ⟨by show 1 ≤ sizeLine; decide, fun D hD => ?_⟩
    have sD := same_upd (o := HO.lst [V.int (0 : Nat)]) hD
    have eD : upd H D (.lst [V.int (0 : Nat)]) D = some (.lst (Ns [0])) := upd_same
    generalize upd H D (.lst [V.int (0 : Nat)]) = H1 at *
    walk_at "tx"
    refine ⟨t, rfl, ⟨_, SqT.of (sD _ _ et)⟩, ?_⟩
    refine RD.f_it (walk_tup (K := K) (a := t) (xs := rs.map V.ref)) (fun i σ' H' => Same H H' ∧ H' D = some (.lst (Ns (p.take (i + 1)))) ∧ ∃ v3 v4 v5 v6 v7 v8 : Option V, σ' = [some (.str (WW.S l)), some (.ref t), some (.ref D), v3, v4, v5, v6, v7, v8]) ⟨sD, by rw [take_one zz.first]; exact eD, none, none, none, none, none, none, rfl⟩ (fun i σ' H' _ q => SqT.of (q.1 _ _ et)) ?_ ?_
    · rintro i y σ' H2 H3 il ⟨s2, eD2, v3, v4, v5, v6, v7, v8, rfl⟩ ⟨rfl, e1⟩
      rw [List.length_map] at il
      have eu : p[i]? = some (p[i]'(by omega)) := List.getElem?_eq_getElem (by omega)
      have ev : p[i + 1]? = some (p[i + 1]'(by omega)) := List.getElem?_eq_getElem (by omega)
      have er : rs[i]? = some rs[i] := List.getElem?_eq_getElem il
      obtain ⟨x, es, ex⟩ := st.2 i _ er
      rw [stepsOf_get l p i _ _ eu ev] at es
      cases es
      rw [List.getElem?_map, er] at e1
      cases e1
      have lnk := zz.ch i _ _ eu ev
      have ex2 := s2 _ _ ex
      generalize p[i]'(by omega) = u at *
      generalize p[i + 1]'(by omega) = v at *
      have ll := lnk.le ok.ne
      have lst : (Ns (p.take (i + 1)))[(Ns (p.take (i + 1))).length - 1]? = some (V.int (u : Nat)) := by
        rw [WW.Ns_len, List.length_take, Nat.min_eq_left (by omega), Nat.add_sub_cancel]
        unfold WW.Ns
        rw [List.getElem?_map, List.getElem?_take_of_lt (by omega), eu]
        rfl
      by_cases c : u < v
      · rw [show stepOf l u v = (true, WW.piece l u v) from by rw [stepOf, if_pos c]] at ex2
        have ex3 : H3 rs[i] = some (.tup [.str (KS true), .str (WW.S (WW.piece l u v))]) := ex2
        refine RD.d_two rfl (SqT.of ex3) ?_
        walk_at "tx"
        refine RD.d_ixL (SqL.of eD2) (atI_lastV lst) ?_
        walk_at "tx"
        rw [show decide (KS true = Str.ofString "on") = true from by decide +kernel]
        walk_at "tx"
        have pw : (WW.piece l u v).length = v - u := by rw [WW.piece_length]; omega
        refine RD.d_lenW (by omega) ?_
        rw [pw]
        walk_at "tx"
        rw [show (u : Int) + ((v - u : Nat) : Int) = (v : Int) from by omega]
        walk_at "tx"
        refine ⟨_, _, rfl, ?_⟩
        rw [if_neg (by omega : ¬ ((v : Int) < u))]
        walk_at "tx"
        refine ⟨_, _, rfl, ?_⟩
        rw [if_pos (by omega : (v : Int) > u)]
        walk_at "tx"
        refine ⟨_, _, rfl, ?_⟩
        walk_at "tx"
        rw [decide_eq_false (by omega : ¬ ((u : Nat) : Int) < 0)]
        walk_at "tx"
        refine RD.d_cutS rfl rfl lz ?_
        walk_at "tx"
        rw [decide_eq_true (rfl : WW.piece l u v = WW.piece l u v)]
        walk_at "tx"
        have ei : (Ns (p.take (i + 1))) ++ [V.int (v : Nat)] = Ns (p.take (i + 1 + 1)) := by
          rw [List.take_succ (i := i + 1), ev, WW.Ns_app]; rfl
        refine ⟨RD.tyL eD2, ?_⟩
        walk_at "tx"
        refine RD.d_app eD2 (by rw [WW.Ns_len, List.length_take]; exact Nat.lt_of_le_of_lt (by omega : _ ≤ 100) (by decide)) ?_
        rw [ei]
        exact ⟨fun b o e => by rw [upd_ne (ne_of_none e hD)]; exact s2 _ _ e, upd_same, _, _, _, _, _, _, rfl⟩
      · rw [show stepOf l u v = (false, WW.piece l v u) from by rw [stepOf, if_neg c]] at ex2
        have ex3 : H3 rs[i] = some (.tup [.str (KS false), .str (WW.S (WW.piece l v u))]) := ex2
        refine RD.d_two rfl (SqT.of ex3) ?_
        walk_at "tx"
        refine RD.d_ixL (SqL.of eD2) (atI_lastV lst) ?_
        walk_at "tx"
        rw [show decide (KS false = Str.ofString "on") = false from by decide +kernel]
        walk_at "tx"
        have pw : (WW.piece l v u).length = u - v := by rw [WW.piece_length]; omega
        refine RD.d_lenW (by omega) ?_
        rw [pw]
        walk_at "tx"
        rw [show (u : Int) - ((u - v : Nat) : Int) = (v : Int) from by omega]
        walk_at "tx"
        refine ⟨_, _, rfl, ?_⟩
        rw [if_pos (by omega : ((v : Int) < u))]
        walk_at "tx"
        refine ⟨_, _, rfl, ?_⟩
        rw [if_neg (by omega : ¬ (v : Int) > u)]
        walk_at "tx"
        refine ⟨_, _, rfl, ?_⟩
        walk_at "tx"
        rw [decide_eq_false (by omega : ¬ ((v : Nat) : Int) < 0)]
        walk_at "tx"
        refine RD.d_cutS rfl rfl lz ?_
        walk_at "tx"
        rw [decide_eq_true (rfl : WW.piece l v u = WW.piece l v u)]
        walk_at "tx"
        have ei : (Ns (p.take (i + 1))) ++ [V.int (v : Nat)] = Ns (p.take (i + 1 + 1)) := by
          rw [List.take_succ (i := i + 1), ev, WW.Ns_app]; rfl
        refine ⟨RD.tyL eD2, ?_⟩
        walk_at "tx"
        refine RD.d_app eD2 (by rw [WW.Ns_len, List.length_take]; exact Nat.lt_of_le_of_lt (by omega : _ ≤ 100) (by decide)) ?_
        rw [ei]
        exact ⟨fun b o e => by rw [upd_ne (ne_of_none e hD)]; exact s2 _ _ e, upd_same, _, _, _, _, _, _, rfl⟩
    · rintro σ' H2 ⟨s2, eD2, v3, v4, v5, v6, v7, v8, rfl⟩
      walk_at "tx"
      rw [List.length_map, show rs.length + 1 = p.length from by omega, List.take_length] at eD2
      refine RD.d_ixL (SqL.of eD2) (atI_lastV (v := .int (l.length : Nat)) (by rw [WW.Ns_len]; unfold WW.Ns; rw [List.getElem?_map, zz.last]; rfl)) ?_
      walk_at "tx"
      rw [decide_eq_true (rfl : ((l.length : Int)) = l.length)]
      walk_at "tx"
      refine ⟨D, _, rfl, .inl ⟨SqL.of eD2, fun x hx => ?_⟩⟩
      exact k x _ (s2.trans (same_upd hx)) upd_same
end

/-! ### rules of zigzags -/
open WW (Ns)
/-- the rule of a zigzag, or nothing -/
def RuleAt (H : Hp) (ws : List WW.Wd) (l : WW.Wd) (w v : V) : Prop := (w = .non ∧ v = .non) ∨ ∃ t u p, w = .ref t ∧ v = .ref u ∧ H t = some (.tup (Ns p)) ∧ Zz ws l p ∧ RulAt H u (stepsOf l p)
theorem way_same {H H' : Hp} {ws : List WW.Wd} {l : WW.Wd} {v : V} (h : WayAt H ws l v) (s : Same H H') : WayAt H' ws l v := by
  rcases h with h | ⟨t, p, r, h1, h2, h3⟩
  · exact .inl h
  · exact .inr ⟨t, p, r, h1, s _ _ h2, h3⟩
theorem calm_same {H H' : Hp} {ws : List WW.Wd} {l : WW.Wd} {v : V} (h : CalmAt H ws l v) (s : Same H H') : CalmAt H' ws l v := by
  rcases h with h | ⟨t, T, N, p, h1, h2, h3⟩
  · exact .inl h
  · exact .inr ⟨t, T, N, p, h1, s _ _ h2, h3⟩
section
variable {P : Program} {w : World} {K : PySem.W.Frag} {mg : Str → Option Value} {base : Heap}
def spRul (K : PySem.W.Frag) (C : Addr) : Sp := fun vs H Q _ => ∃ (x : Addr) (ws : List WW.Wd) (l : WW.Wd), vs = [.ref x, .str (WW.S l)] ∧ BookAt K C H x ws ∧ Okw ws ∧ IsW 40 l ∧ ∀ v p H', Same H H' → WayAt H' ws l p → RuleAt H' ws l p v → Q v H'
def spCRul (K : PySem.W.Frag) (C : Addr) : Sp := fun vs H Q _ => ∃ (x : Addr) (ws : List WW.Wd) (l : WW.Wd), vs = [.ref x, .str (WW.S l)] ∧ BookAt K C H x ws ∧ Okw ws ∧ IsW 40 l ∧ ∀ v p H', Same H H' → CalmAt H' ws l p → RuleAt H' ws l p v → Q v H'
def spROf (K : PySem.W.Frag) (C : Addr) : Sp := fun vs H Q _ => ∃ (x t : Addr) (ws : List WW.Wd) (l : WW.Wd) (p : List Nat), vs = [.ref x, .str (WW.S l), .ref t] ∧ BookAt K C H x ws ∧ Okw ws ∧ IsW 40 l ∧ H t = some (.tup (Ns p)) ∧ Zz ws l p ∧ ∀ u H', Same H H' → RulAt H' u (stepsOf l p) → Q (.ref u) H'
def spFol (K : PySem.W.Frag) : Sp := fun vs H Q _ => ∃ (t : Addr) (ws : List WW.Wd) (l : WW.Wd) (p : List Nat), vs = [.str (WW.S l), .ref t] ∧ Okw ws ∧ IsW 40 l ∧ RulAt H t (stepsOf l p) ∧ Zz ws l p ∧ ∀ u H', Same H H' → H' u = some (.tup (Ns p)) → Q (.ref u) H'
def spIsR (K : PySem.W.Frag) (C : Addr) : Sp := fun vs H Q _ => ∃ (x t : Addr) (ws : List WW.Wd) (l : WW.Wd) (p : List Nat), vs = [.ref x, .str (WW.S l), .ref t] ∧ BookAt K C H x ws ∧ Okw ws ∧ IsW 40 l ∧ RulAt H t (stepsOf l p) ∧ Zz ws l p ∧ ∀ H', Same H H' → Q (.bl true) H'
theorem ok_rule_of (T : Top K mg) : FnOk P w K mg base CX0 9 T.f_rule_of T.fd_rule_of ["book", "word", "zigzag"] (spROf K T.C_Book) := by
  refine T.F_rule_of.ok sc_rule_of (fun vs H Q E h => ?_) (fun cdv A outer s H vs Q E hr h => ?_)
  · obtain ⟨x, t, ws, l, p, rfl, _⟩ := h; rfl
  · obtain ⟨x, t, ws, l, p, rfl, b, ok, hl, et, zz, k⟩ := h
    have pl := zz.len ok.ne
    have p2 := zz.two hl.lo
    have l40 := hl.hi
    refine ⟨_, (pss_cons (ps_if (pt_not (pt_val (pe_call (ok_is_zigzag T) (hr.mono (by decide)) (by rfl) T.g_is_zigzag T.F_is_zigzag.kp T.b_is_zigzag .nil pass0 (pa_cons (pv 0) (pa_cons (pv 1) (pa_cons (pv 2) pa_nil))))))
 (pss_one ps_never)
 pss_nil)
 (pss_one (ps_ret (pe_call (ok_steps_along T) (hr.mono (by decide)) (by rfl) T.g_steps_along T.F_steps_along.kp T.b_steps_along .nil pass0 (pa_cons (pv 1) (pa_cons (pv 2) pa_nil)))))), ?_⟩
    walk_at "tx"
    refine ⟨x, t, ws, l, p, rfl, b, ok, hl, et, zz, fun H1 s1 => ?_⟩
    walk_at "tx"
    refine ⟨t, l, p, rfl, hl, s1 _ _ et, fun z => by rw [z] at p2; simp at p2, by omega, fun u H2 s2 r => ?_⟩
    exact k u H2 (s1.trans s2) r
theorem ok_rule (T : Top K mg) : FnOk P w K mg base CX0 8 T.f_rule T.fd_rule ["book", "word"] (spRul K T.C_Book) := by
  refine T.F_rule.ok sc_rule (fun vs H Q E h => ?_) (fun cdv A outer s H vs Q E hr h => ?_)
  · obtain ⟨x, ws, l, rfl, _⟩ := h; rfl
  · obtain ⟨x, ws, l, rfl, b, ok, hl, k⟩ := h
    have l40 := hl.hi
    refine ⟨_, (pss_cons (ps_expr (pe_call (ok_check_asked T) (hr.mono (by decide)) (by rfl) T.g_check_asked T.F_check_asked.kp T.b_check_asked .nil pass0 (pa_cons (pv 0) (pa_cons (pv 1) pa_nil))))
 (pss_cons (ps_set (i := 2) sc_rule.nd rfl (Or.inl rfl) (pe_call (ok_fewest_walk T) (hr.mono (by decide)) (by rfl) T.g_fewest_walk T.F_fewest_walk.kp T.b_fewest_walk .nil pass0 (pa_cons (pv 0) (pa_cons (pv 1) pa_nil))))
 (pss_one (ps_ret (pe_ifExp (pt_cmpR RD.o_isN (pv 2) pe_non (nomark _)) pe_non (pe_call (ok_steps_along T) (hr.mono (by decide)) (by rfl) T.g_steps_along T.F_steps_along.kp T.b_steps_along .nil pass0 (pa_cons (pv 1) (pa_cons (pv 2) pa_nil)))))))), ?_⟩
    walk_at "tx"
    refine ⟨x, ws, l, rfl, b, hl, fun H1 s1 => ?_⟩
    walk_at "tx"
    refine ⟨x, ws, l, rfl, b.same s1, ok, hl, fun v H2 s2 hv => ?_⟩
    have s02 := s1.trans s2
    walk_at "tx"
    rcases hv.zz ok.ne hl.lo with ⟨rfl, nt⟩ | ⟨t, p, rfl, et, zz, td⟩
    · walk_at "tx"
      exact k .non .non _ s02 hv (.inl ⟨rfl, rfl⟩)
    · have pl := zz.len ok.ne
      have p2 := zz.two hl.lo
      walk_at "tx"
      rw [decide_eq_false (fun z => nomatch z : ¬ (V.ref t = V.non))]
      walk_at "tx"
      refine ⟨t, l, p, rfl, hl, et, fun z => by rw [z] at p2; simp at p2, by omega, fun u H3 s3 r => ?_⟩
      exact k _ _ _ (s02.trans s3) (way_same hv s3) (.inr ⟨t, u, p, rfl, rfl, s3 _ _ et, zz, r⟩)
theorem ok_calm_rule (T : Top K mg) : FnOk P w K mg base CX0 8 T.f_calm_rule T.fd_calm_rule ["book", "word"] (spCRul K T.C_Book) := by
  refine T.F_calm_rule.ok sc_calm_rule (fun vs H Q E h => ?_) (fun cdv A outer s H vs Q E hr h => ?_)
  · obtain ⟨x, ws, l, rfl, _⟩ := h; rfl
  · obtain ⟨x, ws, l, rfl, b, ok, hl, k⟩ := h
    have l40 := hl.hi
    refine ⟨_, (pss_cons (ps_expr (pe_call (ok_check_asked T) (hr.mono (by decide)) (by rfl) T.g_check_asked T.F_check_asked.kp T.b_check_asked .nil pass0 (pa_cons (pv 0) (pa_cons (pv 1) pa_nil))))
 (pss_cons (ps_set (i := 2) sc_calm_rule.nd rfl (Or.inl rfl) (pe_call (ok_calmest_walk T) (hr.mono (by decide)) (by rfl) T.g_calmest_walk T.F_calmest_walk.kp T.b_calmest_walk .nil pass0 (pa_cons (pv 0) (pa_cons (pv 1) pa_nil))))
 (pss_one (ps_ret (pe_ifExp (pt_cmpR RD.o_isN (pv 2) pe_non (nomark _)) pe_non (pe_call (ok_steps_along T) (hr.mono (by decide)) (by rfl) T.g_steps_along T.F_steps_along.kp T.b_steps_along .nil pass0 (pa_cons (pv 1) (pa_cons (pv 2) pa_nil)))))))), ?_⟩
    walk_at "tx"
    refine ⟨x, ws, l, rfl, b, hl, fun H1 s1 => ?_⟩
    walk_at "tx"
    refine ⟨x, ws, l, rfl, b.same s1, ok, hl, fun v H2 s2 hv => ?_⟩
    have s02 := s1.trans s2
    walk_at "tx"
    rcases hv.zz ok.ne hl.lo with ⟨rfl, nt⟩ | ⟨t, p, rfl, et, zz, td⟩
    · walk_at "tx"
      exact k .non .non _ s02 hv (.inl ⟨rfl, rfl⟩)
    · have pl := zz.len ok.ne
      have p2 := zz.two hl.lo
      walk_at "tx"
      rw [decide_eq_false (fun z => nomatch z : ¬ (V.ref t = V.non))]
      walk_at "tx"
      refine ⟨t, l, p, rfl, hl, et, fun z => by rw [z] at p2; simp at p2, by omega, fun u H3 s3 r => ?_⟩
      exact k _ _ _ (s02.trans s3) (calm_same hv s3) (.inr ⟨t, u, p, rfl, rfl, s3 _ _ et, zz, r⟩)
theorem ok_followed (T : Top K mg) : FnOk P w K mg base CX0 6 T.f_followed T.fd_followed ["word", "rule"] (spFol K) := by
  refine T.F_followed.ok sc_followed (fun vs H Q E h => ?_) (fun cdv A outer s H vs Q E hr h => ?_)
  · obtain ⟨t, ws, l, p, rfl, _⟩ := h; rfl
  · obtain ⟨t, ws, l, p, rfl, ok, hl, ru, zz, k⟩ := h
    refine ⟨_, (pss_cons (ps_expr (pe_call (ok_check_word T) (hr.mono (by decide)) (by rfl) T.g_check_word T.F_check_word.kp T.b_check_word .nil pass0 (pa_cons (pv 0) pa_nil)))
 (pss_cons (ps_expr (pe_call (ok_check_rule T) (hr.mono (by decide)) (by rfl) T.g_check_rule T.F_check_rule.kp T.b_check_rule .nil pass0 (pa_cons (pv 1) pa_nil)))
 (pss_one (ps_ret (pe_call (ok_spots_along T) (hr.mono (by decide)) (by rfl) T.g_spots_along T.F_spots_along.kp T.b_spots_along .nil pass0 (pa_cons (pv 0) (pa_cons (pv 1) pa_nil))))))), ?_⟩
    walk_at "tx"
    refine ⟨l, rfl, hl, fun H1 s1 => ?_⟩
    walk_at "tx"
    refine ⟨t, ws, l, p, rfl, ok, hl, ru.same s1, zz, fun H2 s2 => ?_⟩
    walk_at "tx"
    have s02 := s1.trans s2
    exact ⟨t, ws, l, p, rfl, ok, hl, ru.same s02, zz, fun u H3 s3 eu => k u H3 (s02.trans s3) eu⟩
theorem ok_is_rule (T : Top K mg) : FnOk P w K mg base CX0 8 T.f_is_rule T.fd_is_rule ["book", "word", "thing"] (spIsR K T.C_Book) := by
  refine T.F_is_rule.ok sc_is_rule (fun vs H Q E h => ?_) (fun cdv A outer s H vs Q E hr h => ?_)
  · obtain ⟨x, t, ws, l, p, rfl, _⟩ := h; rfl
  · obtain ⟨x, t, ws, l, p, rfl, b, ok, hl, ru, zz, k⟩ := h
    have l40 := hl.hi
    have pl := zz.len ok.ne
    have p2 := zz.two hl.lo
    refine ⟨_, (pss_cons (ps_expr (pe_call (ok_check_asked T) (hr.mono (by decide)) (by rfl) T.g_check_asked T.F_check_asked.kp T.b_check_asked .nil pass0 (pa_cons (pv 0) (pa_cons (pv 1) pa_nil))))
 (pss_cons (ps_if (PW.pt (pw_or (pt_not (pt_val (pe_call (ok_is_any_rule T) (hr.mono (by decide)) (by rfl) T.g_is_any_rule T.F_is_any_rule.kp T.b_is_any_rule .nil pass0 (pa_cons (pv 2) pa_nil)))) (pw_or1 (pt_cmpR RD.o_isN (pe_call (ok_spots_along T) (hr.mono (by decide)) (by rfl) T.g_spots_along T.F_spots_along.kp T.b_spots_along .nil pass0 (pa_cons (pv 1) (pa_cons (pv 2) pa_nil))) pe_non (nomark _)))))
 (pss_one (ps_ret pe_bl))
 pss_nil)
 (pss_one (ps_ret (pe_callB (cr_all rfl) (by rfl) T.n_all (by decide +kernel) (pa_cons (pe_lc (own := [("_", 3), ("watch", 4)]) (g := (gTup K 2 (gCons (gName 3) (gCons (gName 4) gNil)))) (tt := tYes) rfl sc_is_rule.nd (pi_tup (pv 2)) (blkOk_by (own := [("_", 3), ("watch", 4)]) (N := ["book", "word", "thing", "_", "watch"]) (sc := defScope s_is_rule) (by decide +kernel)) (fun _ _ _ _ _ => (pg_tup (by rfl) (pgs_cons (pg_name (i := 3) sc_is_rule.nd rfl (Or.inl rfl)) (pgs_cons (pg_name (i := 4) sc_is_rule.nd rfl (Or.inl rfl)) pgs_nil)))) (fun _ _ _ _ _ => pts_nil) (fun _ _ _ _ _ => (pe_meth (pv 0) T.cl_Book T.m_Book_has (ok_Book_has T) (hr.mono (by decide)) T.b_Book_has .nil pass0 (pa_cons (pv 4) pa_nil)))) pa_nil)))))), ?_⟩
    walk_at "tx"
    refine ⟨x, ws, l, rfl, b, hl, fun H1 s1 => ?_⟩
    walk_at "tx"
    refine ⟨t, ws, l, p, rfl, ok, hl, ru.same s1, zz, fun H2 s2 => ?_⟩
    have s02 := s1.trans s2
    walk_at "tx"
    refine ⟨t, ws, l, p, rfl, ok, hl, ru.same s02, zz, fun u H3 s3 eu => ?_⟩
    have s03 := s02.trans s3
    walk_at "tx"
    rw [decide_eq_false (fun z => nomatch z : ¬ (V.ref u = V.non))]
    walk_at "tx"
    obtain ⟨rs, et, st⟩ := ru
    have rl : rs.length = p.length - 1 := by rw [st.1, stepsOf_len]
    refine ⟨t, rfl, ⟨_, SqT.of (s03 _ _ et)⟩, fun D hD => ?_⟩
    have sD := same_upd (o := HO.lst []) hD
    refine lc_it (walk_tup (K := K) (a := t) (xs := rs.map V.ref)) (fun i H' => Same H H' ∧ Same H3 H' ∧ H' D = some (.lst (List.replicate i (V.bl true)))) ⟨s03.trans sD, sD, upd_same⟩ (fun i H' _ q => SqT.of (q.1 _ _ et)) ?_ ?_
    · rintro i y H4 H' il ⟨s4, s34, eD⟩ ⟨rfl, e1⟩
      rw [List.length_map] at il
      have e1' : p[i]? = some (p[i]'(by omega)) := List.getElem?_eq_getElem (by omega)
      have e2' : p[i + 1]? = some (p[i + 1]'(by omega)) := List.getElem?_eq_getElem (by omega)
      have er : rs[i]? = some rs[i] := List.getElem?_eq_getElem il
      obtain ⟨s, es, ex⟩ := st.2 i _ er
      rw [stepsOf_get l p i _ _ e1' e2'] at es
      cases es
      rw [List.getElem?_map, er] at e1
      cases e1
      have lw := link_step (zz.ch i _ _ e1' e2') ok.ne
      refine RD.d_two rfl (SqT.of (s4 _ _ ex)) ?_
      walk_at "tx"
      obtain ⟨dx, bt, ebk, sqb⟩ := b.same s4
      refine ⟨x, dx, _, rfl, ebk, rfl, ?_⟩
      walk_at "tx"
      refine ⟨x, ws, _, rfl, ⟨dx, bt, ebk, sqb⟩, ?_⟩
      rw [decide_eq_true lw]
      refine ⟨_, eD, by rw [List.length_replicate]; exact Nat.lt_of_lt_of_le (by omega : i < 100) (by decide), fun c o e => by rw [upd_ne (fun z => by subst z; have := ne_of_none (s03 _ _ e) hD; exact this rfl)]; exact s4 _ _ e, fun c o e => by rw [upd_ne (ne_of_none e hD)]; exact s34 _ _ e, by rw [upd_same, reps]⟩
    · rintro H4 ⟨s4, s34, eD⟩
      walk_at "tx"
      exact all_reps eD (k _ s4)
end

/-! ### the steps, as the law tells them -/
open WW (Ns)
section
variable {P : Program} {w : World} {K : PySem.W.Frag} {mg : Str → Option Value} {base : Heap}
theorem ok_law_steps (T : Top K mg) : FnOk P w K mg base CX0 1 T.f_law_steps T.fd_law_steps ["word", "spots"] (spAlong K) := by
  refine T.F_law_steps.ok sc_law_steps (fun vs H Q E h => ?_) (fun cdv A outer s H vs Q E hr h => ?_)
  · obtain ⟨t, l, p, rfl, _⟩ := h; rfl
  · obtain ⟨t, l, p, rfl, hl, et, pn, pl, k⟩ := h
    have lz : l.length ≤ sizeLine := Nat.le_trans hl.hi (by decide)
    refine ⟨_, (pss_cons (ps_set (i := 2) sc_law_steps.nd rfl (Or.inl rfl) (pe_lst pa_nil))
 (pss_cons (ps_for PassesOwn.never rfl (pi_range1 (by rfl) T.n_range (pa_cons (pe_op op_sub (pe_callB RD.c_len (by rfl) T.n_len (by decide +kernel) (pa_cons (pv 1) pa_nil)) pe_int) pa_nil)) (pg_name (i := 3) sc_law_steps.nd rfl (Or.inl rfl))
 (pss_one (ps_if (pt_cmpR op_lt (pe_ix ix_tup (pv 1) (pv 3) (fun _ _ => rfl)) (pe_ix ix_tup (pv 1) (pe_op op_add (pv 3) pe_int) (fun _ _ => rfl)) (nomark _))
 (pss_one (ps_expr (pe_bm PySem.F.plainAttrs_list PySem.F.slot_list_append PySem.F.type_list_append mt_append (pv 2) (pa_cons (pe_tup (pa_cons pe_str (pa_cons (pe_slice sl_str (pv 0) (po_some (pe_ix ix_tup (pv 1) (pv 3) (fun _ _ => rfl))) (po_some (pe_ix ix_tup (pv 1) (pe_op op_add (pv 3) pe_int) (fun _ _ => rfl)))) pa_nil))) pa_nil))))
 (pss_one (ps_expr (pe_bm PySem.F.plainAttrs_list PySem.F.slot_list_append PySem.F.type_list_append mt_append (pv 2) (pa_cons (pe_tup (pa_cons pe_str (pa_cons (pe_slice sl_str (pv 0) (po_some (pe_ix ix_tup (pv 1) (pe_op op_add (pv 3) pe_int) (fun _ _ => rfl))) (po_some (pe_ix ix_tup (pv 1) (pv 3) (fun _ _ => rfl)))) pa_nil))) pa_nil)))))))
 (pss_one (ps_ret (pe_callTy (OQ.tupK K) (by rfl) T.n_tuple (by decide +kernel) (pa_cons (pv 2) pa_nil)))))), ?_⟩
    walk_at "tx"
    refine ⟨Nat.zero_le _, fun D hD => ?_⟩
    have sD := same_upd (o := HO.lst []) hD
    have eD : upd H D (.lst []) D = some (.lst []) := upd_same
    generalize upd H D (.lst []) = H1 at *
    walk_at "tx"
    have et1 := sD _ _ et
    refine RD.d_lenT (SqT.of et1) ?_
    walk_at "tx"
    refine ⟨_, rfl, by rw [WW.Ns_len]; omega, by rw [WW.Ns_len]; omega, ?_⟩
    rw [WW.Ns_len, show ((p.length : Int) - 1).toNat = p.length - 1 from by omega]
    refine RD.f_range (lo := 0) (n := p.length - 1) (fun i σ' H' => Same H H' ∧ ∃ (rs : List Addr) (v3 : Option V), H' D = some (.lst (rs.map V.ref)) ∧ StsAt H' rs ((stepsOf l p).take i) ∧ σ' = [some (.str (WW.S l)), some (.ref t), some (.ref D), v3]) ⟨sD, [], none, eD, by rw [List.take_zero]; exact ⟨rfl, fun i r e => by simp at e⟩, rfl⟩ ?_ ?_
    · rintro i σ' H2 il ⟨s2, rs, v3, eD2, st, rfl⟩
      have et2 := s2 _ _ et
      have eu : p[i]? = some (p[i]'(by omega)) := List.getElem?_eq_getElem (by omega)
      have ev : p[i + 1]? = some (p[i + 1]'(by omega)) := List.getElem?_eq_getElem (by omega)
      have sl : (stepsOf l p)[i]? = some (stepOf l _ _) := stepsOf_get l p i _ _ eu ev
      have ln : rs.length = i := by rw [st.1, List.length_take, stepsOf_len]; omega
      generalize p[i]'(by omega) = u at *
      generalize p[i + 1]'(by omega) = v at *
      have gu : atI (Ns p) (i : Int) = some (.int (u : Nat)) := atI_nat (by unfold WW.Ns; rw [List.getElem?_map, eu]; rfl)
      have gv : atI (Ns p) ((i : Int) + 1) = some (.int (v : Nat)) := atI_nat (j := i + 1) (by unfold WW.Ns; rw [List.getElem?_map, ev]; rfl)
      walk_at "tx"
      rw [show ((0 : Int) + i) = (i : Int) from by omega]
      refine RD.d_ixT (SqT.of et2) gu ?_
      walk_at "tx"
      refine RD.d_ixT (SqT.of et2) gv ?_
      walk_at "tx"
      have fin : ∀ (H4 : Hp) (z : Addr), Same H2 H4 → H4 z = some (.tup [.str (KS (stepOf l u v).1), .str (WW.S (stepOf l u v).2)]) → ∀ (q : (L2.St → Hp → Prop)), (∀ H5, (Same H H5 ∧ ∃ (rs : List Addr), H5 D = some (.lst (rs.map V.ref)) ∧ StsAt H5 rs ((stepsOf l p).take (i + 1))) → q [some (.str (WW.S l)), some (.ref t), some (.ref D), some (.int (i : Nat))] H5) → rAppend (.ref D) [.ref z] H4 fun x H5 => q [some (.str (WW.S l)), some (.ref t), some (.ref D), some (.int (i : Nat))] H5 := fun H4 z s4 ez q kq => by
        have eD4 := s4 _ _ eD2
        have st4 := st.same s4
        refine RD.d_app eD4 (by rw [List.length_map, ln]; exact Nat.lt_of_lt_of_le (by omega : i < 100) (by decide)) ?_
        refine kq _ ⟨fun c o e => by rw [upd_ne (ne_of_none e hD)]; exact (s2.trans s4) _ _ e, rs ++ [z], by rw [upd_same, List.map_append]; rfl, ?_⟩
        rw [List.take_succ, sl]
        exact (st4.snoc ez).mov fun t ns e => by rw [upd_ne (fun c => by rw [c, eD4] at e; cases e)]; exact e
      refine RD.iteD (fun c => ?_) (fun c => ?_)
      · walk_at "tx"
        refine ⟨RD.tyL eD2, ?_⟩
        walk_at "tx"
        refine RD.d_ixT (SqT.of et2) gu ?_
        walk_at "tx"
        refine RD.d_ixT (SqT.of et2) gv ?_
        walk_at "tx"
        refine RD.d_cutS rfl rfl lz ?_
        walk_at "tx"
        refine ⟨by show 2 ≤ sizeLine; decide, fun z hz => ?_⟩
        walk_at "tx"
        exact fin _ z (same_upd hz) (by rw [stepOf, if_pos (by omega)]; exact upd_same) (fun σ5 H5 => Same H H5 ∧ ∃ (rs : List Addr) (v3 : Option V), H5 D = some (.lst (rs.map V.ref)) ∧ StsAt H5 rs ((stepsOf l p).take (i + 1)) ∧ σ5 = [some (.str (WW.S l)), some (.ref t), some (.ref D), v3]) fun H5 h => ⟨h.1, _, _, h.2.choose_spec.1, h.2.choose_spec.2, rfl⟩
      · walk_at "tx"
        refine ⟨RD.tyL eD2, ?_⟩
        walk_at "tx"
        refine RD.d_ixT (SqT.of et2) gv ?_
        walk_at "tx"
        refine RD.d_ixT (SqT.of et2) gu ?_
        walk_at "tx"
        refine RD.d_cutS rfl rfl lz ?_
        walk_at "tx"
        refine ⟨by show 2 ≤ sizeLine; decide, fun z hz => ?_⟩
        walk_at "tx"
        exact fin _ z (same_upd hz) (by rw [stepOf, if_neg (by omega)]; exact upd_same) (fun σ5 H5 => Same H H5 ∧ ∃ (rs : List Addr) (v3 : Option V), H5 D = some (.lst (rs.map V.ref)) ∧ StsAt H5 rs ((stepsOf l p).take (i + 1)) ∧ σ5 = [some (.str (WW.S l)), some (.ref t), some (.ref D), v3]) fun H5 h => ⟨h.1, _, _, h.2.choose_spec.1, h.2.choose_spec.2, rfl⟩
    · rintro σ' H2 ⟨s2, rs, v3, eD2, st, rfl⟩
      walk_at "tx"
      refine ⟨D, _, rfl, .inl ⟨SqL.of eD2, fun x hx => ?_⟩⟩
      rw [List.take_of_length_le (by rw [stepsOf_len]; omega)] at st
      have sx := same_upd (o := HO.tup (rs.map V.ref)) hx
      exact k x _ (s2.trans sx) ⟨rs, upd_same, st.same sx⟩
end

/-! ### flags -/
def spFlag : Sp := fun vs H Q _ => ∃ a b : Bool, vs = [.bl a, .bl b] ∧ Q (.bl (decide (a = b))) H
section
variable {P : Program} {w : World} {K : PySem.W.Frag} {mg : Str → Option Value} {base : Heap}
theorem ok_law_flag (T : Top K mg) : FnOk P w K mg base CX0 1 T.f_law_flag T.fd_law_flag ["told", "due"] spFlag := by
  refine T.F_law_flag.ok sc_law_flag (fun vs H Q E h => ?_) (fun cdv A outer s H vs Q E hr h => ?_)
  · obtain ⟨a, b, rfl, _⟩ := h; rfl
  · obtain ⟨a, b, rfl, k⟩ := h
    refine ⟨_, (pss_one (ps_ret (pe_and (pe_callB call_isi (by rfl) T.n_isinstance (by decide +kernel) (pa_cons (pv 0) (pa_cons (pe_bltn (v := V.ty "bool") (by rfl) T.n_bool (by decide +kernel) rfl) pa_nil))) (pe_one (pe_cmpR op_eq (pv 0) (pv 1) (nomark _)))))), ?_⟩
    walk_at "tx"
    refine RD.d_isi (.ty _) (.base (.bl _)) (kit_ty (r := true) (by decide +kernel)) ?_
    refine ⟨_, rfl, RD.d_iteT ?_⟩
    walk_at "tx"
    exact k
end

/-! ### the law's judge -/
open WW (Ns)
theorem d_eq0 {K : PySem.W.Frag} {H : Hp} {Q : VK} {a b : Addr} {q : List Nat} (sb : H b = some (.tup (Ns q))) (sa : H a = some (.tup (Ns q))) (k : Q (.bl true) H) : rEqD K (.ref a) (.ref b) H Q :=
  ⟨_, _, .tup (SqT.of sa) (OQ.Tn_all q), .tup (SqT.of sb) (OQ.Tn_all q), OQ.Tn_shaped q, OQ.Tn_shaped q, by rw [PyData.eqv, OQ.Tn_eqv]; exact k⟩
section
variable {P : Program} {w : World} {K : PySem.W.Frag} {mg : Str → Option Value} {base : Heap}
def spRight (K : PySem.W.Frag) (C : Addr) : Sp := fun vs H Q _ => ∃ (x : Addr) (ws : List WW.Wd) (l : WW.Wd) (a b : V), vs = [.ref x, .str (WW.S l), a, b] ∧ BookAt K C H x ws ∧ Okw ws ∧ IsW 40 l ∧ RuleAt H ws l a b ∧ ∀ H', Same H H' → Q (.bl true) H'
theorem ok_law_right (T : Top K mg) : FnOk P w K mg base CX0 10 T.f_law_right T.fd_law_right ["book", "word", "way", "told"] (spRight K T.C_Book) := by
  refine T.F_law_right.ok sc_law_right (fun vs H Q E h => ?_) (fun cdv A outer s H vs Q E hr h => ?_)
  · obtain ⟨x, ws, l, a, b, rfl, _⟩ := h; rfl
  · obtain ⟨x, ws, l, a, b, rfl, bk, ok, hl, ru, k⟩ := h
    refine ⟨_, (pss_cons (ps_if (PW.pt (pw_or (pt_cmpR RD.o_isN (pv 2) pe_non (nomark _)) (pw_or1 (pt_cmpR RD.o_isN (pv 3) pe_non (nomark _)))))
 (pss_one (ps_ret (pe_and (pe_cmpR RD.o_isN (pv 2) pe_non (nomark _)) (pe_one (pe_cmpR RD.o_isN (pv 3) pe_non (nomark _))))))
 pss_nil)
 (pss_cons (ps_if (PW.pt (pw_or (pt_cmpR (op_neD hr.units) (pv 3) (pe_call (ok_law_steps T) (hr.mono (by decide)) (by rfl) T.g_law_steps T.F_law_steps.kp T.b_law_steps .nil pass0 (pa_cons (pv 1) (pa_cons (pv 2) pa_nil))) (nomark _)) (pw_or (pt_not (pt_val (pe_callB call_isi (by rfl) T.n_isinstance (by decide +kernel) (pa_cons (pv 3) (pa_cons (pe_bltn (v := V.ty "tuple") (by rfl) T.n_tuple (by decide +kernel) rfl) pa_nil))))) (pw_or1 (pt_cmpR (op_neD hr.units) (pe_call (ok_rule_of T) (hr.mono (by decide)) (by rfl) T.g_rule_of T.F_rule_of.kp T.b_rule_of .nil pass0 (pa_cons (pv 0) (pa_cons (pv 1) (pa_cons (pv 2) pa_nil)))) (pv 3) (nomark _))))))
 (pss_one (ps_ret pe_bl))
 pss_nil)
 (pss_one (ps_ret (pe_and (pe_cmpR (op_eqD hr.units) (pe_call (ok_followed T) (hr.mono (by decide)) (by rfl) T.g_followed T.F_followed.kp T.b_followed .nil pass0 (pa_cons (pv 1) (pa_cons (pv 3) pa_nil))) (pv 2) (nomark _)) (pe_one (pe_call (ok_law_flag T) (hr.mono (by decide)) (by rfl) T.g_law_flag T.F_law_flag.kp T.b_law_flag .nil pass0 (pa_cons (pe_call (ok_is_rule T) (hr.mono (by decide)) (by rfl) T.g_is_rule T.F_is_rule.kp T.b_is_rule .nil pass0 (pa_cons (pv 0) (pa_cons (pv 1) (pa_cons (pv 3) pa_nil)))) (pa_cons pe_bl pa_nil))))))))), ?_⟩
    rcases ru with ⟨rfl, rfl⟩ | ⟨t, u, p, rfl, rfl, et, zz, ru⟩
    · walk_at "tx"
      rw [decide_eq_true (rfl : V.non = V.non)]
      walk_at "tx"
      rw [decide_eq_true (rfl : V.non = V.non)]
      walk_at "tx"
      exact k _ (Same.refl _)
    · have lw := stepsOf_lw hl.lw p
      have pl := zz.len ok.ne
      have p2 := zz.two hl.lo
      have l40 := hl.hi
      walk_at "tx"
      rw [decide_eq_false (fun z => nomatch z : ¬ (V.ref t = V.non))]
      walk_at "tx"
      rw [decide_eq_false (fun z => nomatch z : ¬ (V.ref u = V.non))]
      walk_at "tx"
      refine ⟨t, l, p, rfl, hl, et, fun z => by rw [z] at p2; simp at p2, by omega, fun v H1 s1 rv => ?_⟩
      refine d_neRul (ru.same s1) rv lw ?_
      walk_at "tx"
      obtain ⟨rs, eu, st⟩ := ru
      refine RD.d_isi (.ty _) (.base (.tup (s1 _ _ eu))) (kit_ty (r := true) (by decide +kernel)) ?_
      walk_at "tx"
      refine ⟨x, t, ws, l, p, rfl, bk.same s1, ok, hl, s1 _ _ et, zz, fun v2 H2 s2 rv2 => ?_⟩
      have s02 := s1.trans s2
      have ru2 : RulAt H2 u (stepsOf l p) := RulAt.same ⟨rs, eu, st⟩ s02
      walk_at "tx"
      refine d_neRul rv2 ru2 lw ?_
      walk_at "tx"
      refine ⟨u, ws, l, p, rfl, ok, hl, ru2, zz, fun v3 H3 s3 e3 => ?_⟩
      have s03 := s02.trans s3
      have ru3 := ru2.same s3
      walk_at "tx"
      refine d_eq0 (s03 _ _ et) e3 ?_
      walk_at "tx"
      refine ⟨x, u, ws, l, p, rfl, bk.same s03, ok, hl, ru3, zz, fun H4 s4 => ?_⟩
      walk_at "tx"
      exact ⟨true, true, rfl, k _ (s03.trans s4)⟩
end

/-! ### all zigzags -/
open WW (Ns)
/-- a begun zigzag -/
structure Pz (ws : List WW.Wd) (l : WW.Wd) (p : List Nat) : Prop where
  first : p[0]? = some 0
  nd : p.Nodup
  le : ∀ u ∈ p, u ≤ l.length
  ch : ∀ (i u v : Nat), p[i]? = some u → p[i + 1]? = some v → WW.Link ws l u v
theorem Pz.len {ws : List WW.Wd} {l : WW.Wd} {p : List Nat} (h : Pz ws l p) : p.length ≤ l.length + 1 := WW.nodup_len _ p h.nd fun u m => Nat.lt_succ_of_le (h.le u m)
theorem Pz.ex {ws : List WW.Wd} {l : WW.Wd} {p : List Nat} (h : Pz ws l p) : ∃ u, p[p.length - 1]? = some u := by
  have := (List.getElem?_eq_some_iff.mp h.first).1
  exact ⟨p[p.length - 1]'(by omega), List.getElem?_eq_getElem _⟩
theorem Pz.zz {ws : List WW.Wd} {l : WW.Wd} {p : List Nat} (h : Pz ws l p) (e : p[p.length - 1]? = some l.length) : Zz ws l p := ⟨h.first, e, h.nd, h.ch⟩
theorem Pz.snoc {ws : List WW.Wd} {l : WW.Wd} {p : List Nat} {u v : Nat} (h : Pz ws l p) (e : p[p.length - 1]? = some u) (lk : WW.Link ws l u v) (vl : v ≤ l.length) (nv : v ∉ p) : Pz ws l (p ++ [v]) where
  first := by rw [List.getElem?_append_left (List.getElem?_eq_some_iff.mp h.first).1]; exact h.first
  nd := by
    refine List.nodup_append.mpr ⟨h.nd, by simp, fun a ma b mb => ?_⟩
    rw [List.mem_singleton] at mb
    rw [mb]
    exact fun z => nv (z ▸ ma)
  le := fun a m => by
    rcases List.mem_append.mp m with m | m
    · exact h.le a m
    · rw [List.mem_singleton.mp m]; exact vl
  ch := fun i a b ea eb => by
    have pl := (List.getElem?_eq_some_iff.mp h.first).1
    have ib := (List.getElem?_eq_some_iff.mp eb).1
    rw [List.length_append, List.length_singleton] at ib
    by_cases c : i + 1 < p.length
    · rw [List.getElem?_append_left (by omega)] at ea eb
      exact h.ch i a b ea eb
    · have : i = p.length - 1 := by omega
      subst this
      rw [List.getElem?_append_left (by omega), e] at ea
      rw [List.getElem?_append_right (by omega), show p.length - 1 + 1 - p.length = 0 from by omega] at eb
      cases ea
      cases eb
      exact lk
theorem Pz.zero {ws : List WW.Wd} {l : WW.Wd} : Pz ws l [0] := ⟨rfl, by simp, fun u m => by rw [List.mem_singleton.mp m]; exact Nat.zero_le _, fun i u v _ e => by simp at e⟩
/-- begun zigzags, apart from f -/
def WsAt (ws : List WW.Wd) (l : WW.Wd) (f : Addr) (H : Hp) (ts : List Addr) : Prop := ∀ a ∈ ts, a ≠ f ∧ ∃ p, H a = some (.lst (Ns p)) ∧ Pz ws l p
def FsAt (ws : List WW.Wd) (l : WW.Wd) (H : Hp) (fs : List Addr) : Prop := ∀ a ∈ fs, ∃ p, H a = some (.tup (Ns p)) ∧ Zz ws l p
theorem WsAt.same {ws : List WW.Wd} {l : WW.Wd} {f : Addr} {H H' : Hp} {ts : List Addr} (h : WsAt ws l f H ts) (s : Same H H') : WsAt ws l f H' ts := fun a m => by obtain ⟨n, p, e, z⟩ := h a m; exact ⟨n, p, s _ _ e, z⟩
theorem WsAt.upd {ws : List WW.Wd} {l : WW.Wd} {f : Addr} {H : Hp} {ts : List Addr} {o : HO} (h : WsAt ws l f H ts) : WsAt ws l f (upd H f o) ts := fun a m => by obtain ⟨n, p, e, z⟩ := h a m; exact ⟨n, p, by rw [upd_ne n]; exact e, z⟩
theorem WsAt.snoc {ws : List WW.Wd} {l : WW.Wd} {f : Addr} {H : Hp} {ts : List Addr} {z : Addr} {p : List Nat} (h : WsAt ws l f H ts) (n : z ≠ f) (e : H z = some (.lst (Ns p))) (pz : Pz ws l p) : WsAt ws l f H (ts ++ [z]) := fun a m => by
  rcases List.mem_append.mp m with m | m
  · exact h a m
  · rw [List.mem_singleton.mp m]; exact ⟨n, p, e, pz⟩
theorem WsAt.app {ws : List WW.Wd} {l : WW.Wd} {f : Addr} {H : Hp} {ts us : List Addr} (h : WsAt ws l f H ts) (k : WsAt ws l f H us) : WsAt ws l f H (ts ++ us) := fun a m => (List.mem_append.mp m).elim (h a) (k a)
theorem FsAt.same {ws : List WW.Wd} {l : WW.Wd} {H H' : Hp} {ts : List Addr} (h : FsAt ws l H ts) (s : Same H H') : FsAt ws l H' ts := fun a m => by obtain ⟨p, e, z⟩ := h a m; exact ⟨p, s _ _ e, z⟩
theorem FsAt.mov {ws : List WW.Wd} {l : WW.Wd} {H H' : Hp} {ts : List Addr} (h : FsAt ws l H ts) (k : ∀ t ns, H t = some (.tup ns) → H' t = some (.tup ns)) : FsAt ws l H' ts := fun a m => by obtain ⟨p, e, z⟩ := h a m; exact ⟨p, k _ _ e, z⟩
theorem FsAt.snoc {ws : List WW.Wd} {l : WW.Wd} {H : Hp} {ts : List Addr} {z : Addr} {p : List Nat} (h : FsAt ws l H ts) (e : H z = some (.tup (Ns p))) (pz : Zz ws l p) : FsAt ws l H (ts ++ [z]) := fun a m => by
  rcases List.mem_append.mp m with m | m
  · exact h a m
  · rw [List.mem_singleton.mp m]; exact ⟨p, e, pz⟩
theorem FsAt.nil {ws : List WW.Wd} {l : WW.Wd} {H : Hp} : FsAt ws l H [] := fun _ m => nomatch m
theorem WsAt.nil {ws : List WW.Wd} {l : WW.Wd} {f : Addr} {H : Hp} : WsAt ws l f H [] := fun _ m => nomatch m
theorem cut_takeR (ts : List Addr) (n : Nat) : cutV (ts.map V.ref) none (some (n : Int)) = (ts.take n).map V.ref := by
  unfold cutV
  rw [HT.sIx_nat, HT.sIx_none]
  show ((ts.map V.ref).drop 0).take _ = _
  rw [List.drop_zero, Nat.sub_zero, List.length_map, List.map_take]
  rw [Nat.min_def]
  split
  · rfl
  · rw [List.take_of_length_le (by rw [List.length_map]; omega), List.take_of_length_le (by rw [List.length_map]; omega)]
section
variable {P : Program} {w : World} {K : PySem.W.Frag} {mg : Str → Option Value} {base : Heap}
def spZigs (K : PySem.W.Frag) : Sp := fun vs H Q _ => ∃ (a : Addr) (ws : List WW.Wd) (l : WW.Wd), vs = [.ref a, .str (WW.S l)] ∧ H a = some (.lst (WW.Ss ws)) ∧ (∀ w ∈ ws, w ≠ []) ∧ IsW 6 l ∧
  ∀ (f : Addr) (fs : List Addr) (H' : Hp), Same H H' → H' f = some (.lst (fs.map V.ref)) → FsAt ws l H' fs → fs.length ≤ 28000 → Q (.ref f) H'
theorem ok_law_zigzags (T : Top K mg) : FnOk P w K mg base CX0 3 T.f_law_zigzags T.fd_law_zigzags ["watches", "word"] (spZigs K) := by
  refine T.F_law_zigzags.ok sc_law_zigzags (fun vs H Q E h => ?_) (fun cdv A outer s H vs Q E hr h => ?_)
  · obtain ⟨a, ws, l, rfl, _⟩ := h; rfl
  · obtain ⟨a, ws, l, rfl, ea, nw, hl, k⟩ := h
    have l6 := hl.hi
    have lz : l.length ≤ sizeLine := Nat.le_trans hl.hi (by decide)
    refine ⟨_, (pss_cons (ps_set (i := 2) sc_law_zigzags.nd rfl (Or.inl rfl) (pe_lst pa_nil))
 (pss_cons (ps_set (i := 3) sc_law_zigzags.nd rfl (Or.inl rfl) (pe_lst (pa_cons (pe_lst (pa_cons pe_int pa_nil)) pa_nil)))
 (pss_cons (ps_for PassesOwn.never rfl (pi_range1 (by rfl) T.n_range (pa_cons (pe_op op_add (pe_callB RD.c_len (by rfl) T.n_len (by decide +kernel) (pa_cons (pv 1) pa_nil)) pe_int) pa_nil)) (pg_name (i := 4) sc_law_zigzags.nd rfl (Or.inl rfl))
 (pss_cons (ps_set (i := 5) sc_law_zigzags.nd rfl (Or.inl rfl) (pe_lst pa_nil))
 (pss_cons (ps_for PassesOwn.never rfl (pi_list (pv 3)) (pg_name (i := 6) sc_law_zigzags.nd rfl (Or.inr rfl))
 (pss_one (ps_if (pt_cmpR op_eq (pe_ix ix_list (pv 6) (pe_un un_neg pe_int) (fun _ _ => rfl)) (pe_callB RD.c_len (by rfl) T.n_len (by decide +kernel) (pa_cons (pv 1) pa_nil)) (nomark _))
 (pss_one (ps_expr (pe_bm PySem.F.plainAttrs_list PySem.F.slot_list_append PySem.F.type_list_append mt_append (pv 2) (pa_cons (pe_callTy (OQ.tupK K) (by rfl) T.n_tuple (by decide +kernel) (pa_cons (pv 6) pa_nil)) pa_nil))))
 (pss_one (ps_set (i := 5) sc_law_zigzags.nd rfl (Or.inl rfl) (pe_op op_cat (pv 5) (pe_lc (own := [("spot", 7)]) (g := (gName 7)) (tt := _) rfl sc_law_zigzags.nd (pi_list (pe_call (ok_law_near T) (hr.mono (by decide)) (by rfl) T.g_law_near T.F_law_near.kp T.b_law_near .nil pass0 (pa_cons (pv 0) (pa_cons (pv 1) (pa_cons (pe_ix ix_list (pv 6) (pe_un un_neg pe_int) (fun _ _ => rfl)) pa_nil))))) (blkOk_by (own := [("spot", 7)]) (N := ["watches", "word", "found", "ways", "step", "later", "way", "spot"]) (sc := defScope s_law_zigzags) (by decide +kernel)) (fun _ _ _ _ _ => (pg_name (i := 7) sc_law_zigzags.nd rfl (Or.inl rfl))) (fun _ _ _ _ _ => (pts_one (pt_cmpR (OQ.notInK K) (pv 7) (pv 6) rfl))) (fun _ _ _ _ _ => (pe_op op_cat (pv 6) (pe_lst (pa_cons (pv 7) pa_nil)))))))))))
 (pss_one (ps_set (i := 3) sc_law_zigzags.nd rfl (Or.inl rfl) (pe_slice sl_list (pv 5) po_none (po_some pe_int)))))))
 (pss_one (ps_ret (pv 2)))))), ?_⟩
    walk_at "tx"
    refine ⟨Nat.zero_le _, fun f hf => ?_⟩
    have s1 := same_upd (o := HO.lst []) hf
    have ef : upd H f (.lst []) f = some (.lst []) := upd_same
    generalize upd H f (.lst []) = H1 at *
    walk_at "tx"
    refine ⟨by show 1 ≤ sizeLine; decide, fun z hz => ?_⟩
    have s2 := s1.trans (same_upd (o := HO.lst [V.int (0 : Nat)]) hz)
    have ef2 := same_upd (o := HO.lst [V.int (0 : Nat)]) hz _ _ ef
    have ez : upd H1 z (.lst [V.int (0 : Nat)]) z = some (.lst (Ns [0])) := upd_same
    have nz : z ≠ f := fun e => ne_of_none ef hz e.symm
    generalize upd H1 z (.lst [V.int (0 : Nat)]) = H2 at *
    walk_at "tx"
    refine ⟨by show 1 ≤ sizeLine; decide, fun wa hwa => ?_⟩
    have sw := same_upd (o := HO.lst [V.ref z]) hwa
    have s3 := s2.trans sw
    have ef3 := sw _ _ ef2
    have ez3 := sw _ _ ez
    have ew3 : upd H2 wa (.lst [V.ref z]) wa = some (.lst ([z].map V.ref)) := upd_same
    have nw0 : wa ≠ f := fun e => ne_of_none ef2 hwa e.symm
    generalize upd H2 wa (.lst [V.ref z]) = H3 at *
    walk_at "tx"
    refine ⟨_, rfl, by omega, by omega, ?_⟩
    rw [show ((l.length : Int) + 1).toNat = l.length + 1 from by omega]
    refine RD.f_range (lo := 0) (n := l.length + 1) (fun i σ' H' => Same H H' ∧ ∃ (fs ts : List Addr) (wa : Addr) (v4 v5 v6 : Option V), H' f = some (.lst (fs.map V.ref)) ∧ FsAt ws l H' fs ∧ fs.length ≤ 4000 * i ∧ H' wa = some (.lst (ts.map V.ref)) ∧ wa ≠ f ∧ WsAt ws l f H' ts ∧ ts.length ≤ 4000 ∧ σ' = [some (.ref a), some (.str (WW.S l)), some (.ref f), some (.ref wa), v4, v5, v6, none])
      ⟨s3, [], [z], wa, none, none, none, ef3, FsAt.nil, Nat.zero_le _, ew3, nw0, WsAt.nil.snoc (ts := []) nz ez3 Pz.zero, by simp, rfl⟩ ?_ ?_
    · clear ew3 ez3 ef3 s3 nw0 sw hwa s2 ef2 ez nz hz s1 ef
      rintro i σ' H4 il ⟨s4, fs, ts, wa, v4, v5, v6, ef, hF, fl, ew, nwf, hW, tl, rfl⟩
      walk_at "tx"
      refine ⟨Nat.zero_le _, fun la hla => ?_⟩
      have s5 := s4.trans (same_upd (o := HO.lst []) hla)
      have ef5 := same_upd (o := HO.lst []) hla _ _ ef
      have ew5 := same_upd (o := HO.lst []) hla _ _ ew
      have hF5 := hF.same (same_upd (o := HO.lst []) hla)
      have hW5 := hW.same (same_upd (o := HO.lst []) hla)
      have el5 : upd H4 la (.lst []) la = some (.lst []) := upd_same
      have nl : la ≠ f := fun e => ne_of_none ef hla e.symm
      generalize upd H4 la (.lst []) = H5 at *
      walk_at "tx"
      refine RD.f_list (K := K) (a := wa) (xs := ts.map V.ref) (fun j σ' H' => Same H H' ∧ ∃ (fs ns : List Addr) (la : Addr) (v6 : Option V), H' f = some (.lst (fs.map V.ref)) ∧ FsAt ws l H' fs ∧ fs.length ≤ 4000 * i + j ∧ H' wa = some (.lst (ts.map V.ref)) ∧ WsAt ws l f H' ts ∧ H' la = some (.lst (ns.map V.ref)) ∧ la ≠ f ∧ WsAt ws l f H' ns ∧ ns.length ≤ 7 * j ∧ σ' = [some (.ref a), some (.str (WW.S l)), some (.ref f), some (.ref wa), some (.int ((0 : Int) + i)), some (.ref la), v6, none])
        ⟨s5, fs, [], la, v6, ef5, hF5, by omega, ew5, hW5, el5, nl, WsAt.nil, by simp, rfl⟩ ?_ ?_ ?_
      · rintro j σ' H' _ ⟨_, fs, ns, la, v6, _, _, _, ew, _⟩
        exact SqL.of ew
      · rintro j y σ' H6 ey ⟨s6, fs, ns, la, v6, ef6, hF6, fl6, ew6, hW6, el6, nl6, hN6, nn, rfl⟩
        have jl := (List.getElem?_eq_some_iff.mp ey).1
        rw [List.length_map] at jl
        rw [List.getElem?_map, List.getElem?_eq_getElem jl] at ey
        cases ey
        obtain ⟨nwy, p, ep, pz⟩ := hW6 _ (List.getElem_mem jl)
        generalize ts[j] = wy at *
        have pl := pz.len
        obtain ⟨u, eu⟩ := pz.ex
        have pu := (List.getElem?_eq_some_iff.mp eu).1
        have ul := pz.le u (List.mem_of_getElem? eu)
        have lst : (Ns p)[(Ns p).length - 1]? = some (V.int (u : Nat)) := by
          rw [WW.Ns_len]
          unfold WW.Ns
          rw [List.getElem?_map, eu]
          rfl
        walk_at "tx"
        refine RD.d_ixL (SqL.of ep) (atI_lastV lst) ?_
        walk_at "tx"
        refine RD.iteD (fun c => ?_) (fun c => ?_)
        · walk_at "tx"
          refine ⟨RD.tyL ef6, ?_⟩
          walk_at "tx"
          refine ⟨wy, _, rfl, .inl ⟨SqL.of ep, fun t ht => ?_⟩⟩
          have st := same_upd (o := HO.tup (Ns p)) ht
          have et : upd H6 t (.tup (Ns p)) t = some (.tup (Ns p)) := upd_same
          have ef7 := st _ _ ef6
          have hF7 := hF6.same st
          have ew7 := st _ _ ew6
          have hW7 := hW6.same st
          have el7 := st _ _ el6
          have hN7 := hN6.same st
          have s7 := s6.trans st
          generalize upd H6 t (.tup (Ns p)) = H7 at *
          walk_at "tx"
          refine RD.d_app ef7 (by rw [List.length_map]; exact Nat.lt_of_le_of_lt (by omega : fs.length ≤ 60000) (by decide)) ?_
          refine ⟨fun b o e => by rw [upd_ne (ne_of_none e hf)]; exact s7 _ _ e, fs ++ [t], ns, la, _, by rw [upd_same, List.map_append]; rfl, ?_, by rw [List.length_append, List.length_singleton]; omega, by rw [upd_ne nwf]; exact ew7, hW7.upd, by rw [upd_ne nl6]; exact el7, nl6, hN7.upd, by omega, rfl⟩
          exact (hF7.snoc et (pz.zz (by rw [eu, show u = l.length from by omega]))).mov fun t ns e => by rw [upd_ne (fun z => by rw [z, ef7] at e; cases e)]; exact e
        · walk_at "tx"
          refine RD.d_ixL (SqL.of ep) (atI_lastV lst) ?_
          walk_at "tx"
          refine ⟨a, ws, l, u, rfl, SqL.of (s6 _ _ ea), by omega, ul, fun q H7 s7 hq eq => ?_⟩
          have ef7 := s7 _ _ ef6
          have hF7 := hF6.same s7
          have ew7 := s7 _ _ ew6
          have hW7 := hW6.same s7
          have el7 := s7 _ _ el6
          have hN7 := hN6.same s7
          have ep7 := s7 _ _ ep
          have s07 := s6.trans s7
          have nl7 : (near ws l u).length ≤ 7 := by
            unfold near
            exact Nat.le_trans (List.length_filter_le ..) (by rw [List.length_range]; omega)
          clear hF6 ef6 ew6 hW6 el6 hN6 ep s7 s6
          walk_at "tx"
          refine fun D hD => ?_
          have sD := same_upd (o := HO.lst []) hD
          have nD : D ≠ f := fun e => ne_of_none ef7 hD e.symm
          refine lc_list (K := K) (a := q) (xs := Ns (near ws l u)) (fun m H' => Same H7 H' ∧ ∃ ds : List Addr, H' D = some (.lst (ds.map V.ref)) ∧ WsAt ws l f H' ds ∧ (∀ d ∈ ds, d ≠ D) ∧ ds.length ≤ m) ⟨sD, [], upd_same, WsAt.nil, fun _ m => absurd m List.not_mem_nil, Nat.le_refl _⟩ ?_ ?_ ?_
          · rintro m H' _ ⟨s8, _⟩
            exact SqL.of (s8 _ _ eq)
          · rintro m y H8 hy ⟨s8, ds, eD, hD8, dn, dl⟩
            obtain ⟨v, hv, rfl⟩ := WW.Ns_get hy
            have mv := List.mem_of_getElem? hv
            have lnk := (near_mem nw ul).mp mv
            have ml := (List.getElem?_eq_some_iff.mp hv).1
            walk_at "tx"
            refine d_notInNs (v := v) (.inl (SqL.of (s8 _ _ ep7))) ?_
            refine ⟨_, rfl, ?_⟩
            by_cases c2 : v ∈ p
            · rw [decide_eq_true c2]
              exact ⟨s8, ds, eD, hD8, dn, by omega⟩
            · rw [decide_eq_false c2]
              walk_at "tx"
              refine ⟨by show 1 ≤ sizeLine; decide, fun B hB => ?_⟩
              have sB := same_upd (o := HO.lst [V.int (v : Nat)]) hB
              refine ⟨wy, B, Ns p, Ns [v], rfl, rfl, sB _ _ (s8 _ _ ep7), upd_same, by rw [WW.Ns_len, WW.Ns_len]; exact Nat.le_trans (by show p.length + 1 ≤ 100; omega) (by decide), fun C hC => ?_⟩
              have sC := same_upd (o := HO.lst (Ns p ++ Ns [v])) hC
              have eC : upd (upd H8 B (.lst [V.int (v : Nat)])) C (.lst (Ns p ++ Ns [v])) C = some (.lst (Ns (p ++ [v]))) := by rw [upd_same]; unfold WW.Ns; rw [List.map_append]
              have s10 := sB.trans sC
              generalize upd (upd H8 B (.lst [V.int (v : Nat)])) C (.lst (Ns p ++ Ns [v])) = H9 at *
              have eD9 := s10 _ _ eD
              have nCf : C ≠ f := fun e => ne_of_none (sB _ _ (s8 _ _ ef7)) hC e.symm
              have nCD : C ≠ D := fun e => ne_of_none (sB _ _ eD) hC e.symm
              have hD9 := (hD8.same s10).snoc nCf eC (pz.snoc eu lnk (lnk.le nw).2.1 c2)
              refine ⟨_, eD9, by rw [List.length_map]; exact Nat.lt_of_le_of_lt (by omega : ds.length ≤ 60000) (by decide), fun b o e => by rw [upd_ne (ne_of_none e hD)]; exact (s8.trans s10) _ _ e, ds ++ [C], by rw [upd_same, List.map_append]; rfl, fun b mb => ?_, fun b mb => ?_, by rw [List.length_append, List.length_singleton]; omega⟩
              · obtain ⟨n1, p1, e1, z1⟩ := hD9 b mb
                refine ⟨n1, p1, ?_, z1⟩
                rw [upd_ne (by
                  rcases List.mem_append.mp mb with mb | mb
                  · exact dn b mb
                  · rw [List.mem_singleton.mp mb]; exact nCD)]
                exact e1
              · rcases List.mem_append.mp mb with mb | mb
                · exact dn b mb
                · rw [List.mem_singleton.mp mb]; exact nCD
          · rintro H8 ⟨s8, ds, eD, hD8, dn, dl⟩
            rw [WW.Ns_len] at dl
            walk_at "tx"
            refine ⟨la, D, _, _, rfl, rfl, s8 _ _ el7, eD, by rw [List.length_map, List.length_map]; exact Nat.le_trans (by omega : ns.length + ds.length ≤ 60000) (by decide), fun l2 hl2 => ?_⟩
            rw [← List.map_append]
            have s9 := same_upd (o := HO.lst ((ns ++ ds).map V.ref)) hl2
            have s79 := s8.trans s9
            have n2 : l2 ≠ f := fun e => ne_of_none (s8 _ _ ef7) hl2 e.symm
            exact ⟨s07.trans s79, fs, ns ++ ds, l2, _, s79 _ _ ef7, hF7.same s79, by omega, s79 _ _ ew7, hW7.same s79, upd_same, n2, (hN7.same s79).app (hD8.same s9), by rw [List.length_append]; omega, rfl⟩
      · rintro σ' H6 ⟨s6, fs, ns, la, v6, ef6, hF6, fl6, ew6, hW6, el6, nl6, hN6, nn, rfl⟩
        rw [List.length_map] at fl6 nn
        walk_at "tx"
        refine ⟨la, _, rfl, SqL.of el6, fun w2 hw2 => ?_⟩
        rw [show (some (4000 : Int)) = some ((4000 : Nat) : Int) from rfl, cut_takeR]
        have s7 := same_upd (o := HO.lst ((ns.take 4000).map V.ref)) hw2
        exact ⟨s6.trans s7, fs, ns.take 4000, w2, _, _, _, s7 _ _ ef6, hF6.same s7, by omega, upd_same, fun e => ne_of_none ef6 hw2 e.symm, fun b m => hN6.same s7 b (List.mem_of_mem_take m), by rw [List.length_take]; omega, rfl⟩
    · rintro σ' H4 ⟨s4, fs, ts, wa, v4, v5, v6, ef, hF, fl, ew, nwf, hW, tl, rfl⟩
      walk_at "tx"
      exact k f fs H4 s4 ef hF (by omega)
end

/-! ### a book made -/
theorem Okw.perm {ws qs : List WW.Wd} (h : Okw ws) (p : qs.Perm ws) : Okw qs := ⟨by rw [p.length_eq]; exact h.len, fun w m => h.ok w (p.mem_iff.mp m), p.nodup_iff.mpr h.nd⟩
theorem mk_book {K : PySem.W.Frag} {C : Addr} {H : Hp} {x dx a : Addr} {ws : List WW.Wd} {R : VK} {E : XK} (hx : H x = none) (hdx : H dx = none) (ndx : dx ≠ x) (ea : H a = some (.lst (WW.Ss ws))) (ok : Okw ws)
    (r : ∀ H2, Same H H2 → BookAt K C H2 x ws → R .non H2) : spBookI K C [.ref x, .ref a] (upd (upd H dx (.own x)) x (.ins C dx [])) R E := by
  have s1 : Same H (upd (upd H dx (.own x)) x (.ins C dx [])) := same_put (same_upd hdx) hx
  refine ⟨x, dx, a, ws, rfl, upd_same, .inl (SqL.of (s1 _ _ ea)), ok, fun H' kx b => r H' (fun b o e => kx b o (ne_of_none e hx) (s1 _ _ e)) b⟩

/-! ### the law -/
open WW (Ns)
theorem ns_inj {p q : List Nat} (h : Ns p = Ns q) : p = q := by
  unfold WW.Ns at h
  exact (List.map_inj_right fun a b z => by injection z with z; exact Int.ofNat.inj z).mp h
theorem RuleAt.way {H : Hp} {ws : List WW.Wd} {l : WW.Wd} {a b v : V} (ok : ∀ w ∈ ws, w ≠ []) (l1 : 1 ≤ l.length) (x : WayAt H ws l a) (y : WayAt H ws l b) (r : RuleAt H ws l b v) : RuleAt H ws l a v := by
  rcases x with ⟨rfl, nt⟩ | ⟨t, p, k0, rfl, e, ls, d⟩
  · rcases y with ⟨rfl, _⟩ | ⟨_, _, k1, _, _, _, d1⟩
    · exact r
    · exact (nt ⟨k1, d1.1⟩).elim
  · have zz : Zz ws l p := by
      rcases WayAt.zz (H := H) (v := .ref t) (.inr ⟨t, p, k0, rfl, e, ls, d⟩) ok l1 with ⟨z, _⟩ | ⟨t', p', z, e', zz, _⟩
      · cases z
      · cases z; rw [e] at e'; cases ns_inj (HO.tup.inj (Option.some.inj e')); exact zz
    rcases y with ⟨rfl, nt⟩ | ⟨t1, p1, k1, rfl, e1, ls1, d1⟩
    · exact (nt ⟨k0, d.1⟩).elim
    · cases d.uniq d1
      cases ls.uniq ls1
      rcases r with ⟨z, _⟩ | ⟨t2, u, p2, z, rfl, e2, zz2, ru⟩
      · cases z
      · cases z
        rw [e1] at e2
        cases ns_inj (HO.tup.inj (Option.some.inj e2))
        exact .inr ⟨t, u, p, rfl, rfl, e, zz, ru⟩
theorem RuleAt.calm {H : Hp} {ws : List WW.Wd} {l : WW.Wd} {a b v : V} (ok : ∀ w ∈ ws, w ≠ []) (l1 : 1 ≤ l.length) (x : CalmAt H ws l a) (y : CalmAt H ws l b) (r : RuleAt H ws l b v) : RuleAt H ws l a v := by
  rcases x with ⟨rfl, nt⟩ | ⟨t, T, N, p, rfl, e, bs⟩
  · rcases y with ⟨rfl, _⟩ | ⟨_, _, _, _, _, _, b1⟩
    · exact r
    · exact (nt b1.wy.rc).elim
  · have zz : Zz ws l (0 :: p) := by
      rcases CalmAt.zz (H := H) (v := .ref t) (.inr ⟨t, T, N, p, rfl, e, bs⟩) ok l1 with ⟨z, _⟩ | ⟨t', p', z, e', zz, _⟩
      · cases z
      · cases z; rw [e] at e'; cases ns_inj (HO.tup.inj (Option.some.inj e')); exact zz
    rcases y with ⟨rfl, nt⟩ | ⟨t1, T1, N1, p1, rfl, e1, b1⟩
    · exact (nt bs.wy.rc).elim
    · cases bs.uniq b1
      rcases r with ⟨z, _⟩ | ⟨t2, u, p2, z, rfl, e2, zz2, ru⟩
      · cases z
      · cases z
        rw [e1] at e2
        cases ns_inj (HO.tup.inj (Option.some.inj e2))
        exact .inr ⟨t, u, 0 :: p, rfl, rfl, e, zz, ru⟩
theorem cut_someR (ts : List Addr) (lo hi : Option Int) : ∃ d n, cutV (ts.map V.ref) lo hi = ((ts.drop d).take n).map V.ref := by
  unfold cutV
  exact ⟨HT.sIx (List.map V.ref ts).length 0 lo, HT.sIx (List.map V.ref ts).length (List.map V.ref ts).length hi - HT.sIx (List.map V.ref ts).length 0 lo, by rw [List.map_take, List.map_drop]⟩
section
variable {P : Program} {w : World} {K : PySem.W.Frag} {mg : Str → Option Value} {base : Heap}
def spLaw (K : PySem.W.Frag) : Sp := fun vs H Q _ => ∃ (a : Addr) (ns : List Int), vs = [.ref a] ∧ SqL K H a (ns.map V.int) ∧ ns.length ≤ 63 ∧ ∀ H', Q (.bl true) H'
theorem ok_law (T : Top K mg) : FnOk P w K mg base CX0 13 T.f_law T.fd_law ["script"] (spLaw K) := by
  refine T.F_law.ok sc_law (fun vs H Q E h => ?_) (fun cdv A outer s H vs Q E hr h => ?_)
  · obtain ⟨a, ns, rfl, _⟩ := h; rfl
  · obtain ⟨ad, ns, rfl, hS, hl, k⟩ := h
    refine ⟨_, (pss_cons (ps_set (i := 1) sc_law.nd rfl (Or.inl rfl) (pe_call (ok_law_tape T) (hr.mono (by decide)) (by rfl) T.g_law_tape T.F_law_tape.kp T.b_law_tape .nil pass0 (pa_cons (pv 0) pa_nil)))
 (pss_cons (ps_set (i := 2) sc_law.nd rfl (Or.inl rfl) (pe_call (ok_law_word T) (hr.mono (by decide)) (by rfl) T.g_law_word T.F_law_word.kp T.b_law_word .nil pass0 (pa_cons (pv 1) (pa_cons pe_int pa_nil))))
 (pss_cons (ps_set (i := 3) sc_law.nd rfl (Or.inl rfl) (pe_make T.M_Book (ok_Book__init T) (hr.mono (by decide)) (by rfl) T.g_Book T.b_Book__init .nil pass0 (pa_cons (pe_call (ok_law_watches T) (hr.mono (by decide)) (by rfl) T.g_law_watches T.F_law_watches.kp T.b_law_watches .nil pass0 (pa_cons (pv 1) (pa_cons (pv 2) (pa_cons (pe_call (ok_law_pick T) (hr.mono (by decide)) (by rfl) T.g_law_pick T.F_law_pick.kp T.b_law_pick .nil pass0 (pa_cons (pv 1) (pa_cons pe_int pa_nil))) (pa_cons pe_int pa_nil))))) pa_nil)))
 (pss_cons (ps_if (pt_not (pt_val (pe_call (ok_law_right T) (hr.mono (by decide)) (by rfl) T.g_law_right T.F_law_right.kp T.b_law_right .nil pass0 (pa_cons (pv 3) (pa_cons (pv 2) (pa_cons (pe_call (ok_zigzag T) (hr.mono (by decide)) (by rfl) T.g_zigzag T.F_zigzag.kp T.b_zigzag .nil pass0 (pa_cons (pv 3) (pa_cons (pv 2) pa_nil))) (pa_cons (pe_call (ok_rule T) (hr.mono (by decide)) (by rfl) T.g_rule T.F_rule.kp T.b_rule .nil pass0 (pa_cons (pv 3) (pa_cons (pv 2) pa_nil))) pa_nil)))))))
 (pss_one (ps_ret pe_bl))
 pss_nil)
 (pss_cons (ps_if (pt_not (pt_val (pe_call (ok_law_right T) (hr.mono (by decide)) (by rfl) T.g_law_right T.F_law_right.kp T.b_law_right .nil pass0 (pa_cons (pv 3) (pa_cons (pv 2) (pa_cons (pe_call (ok_calmest T) (hr.mono (by decide)) (by rfl) T.g_calmest T.F_calmest.kp T.b_calmest .nil pass0 (pa_cons (pv 3) (pa_cons (pv 2) pa_nil))) (pa_cons (pe_call (ok_calm_rule T) (hr.mono (by decide)) (by rfl) T.g_calm_rule T.F_calm_rule.kp T.b_calm_rule .nil pass0 (pa_cons (pv 3) (pa_cons (pv 2) pa_nil))) pa_nil)))))))
 (pss_one (ps_ret pe_bl))
 pss_nil)
 (pss_cons (ps_set (i := 2) sc_law.nd rfl (Or.inl rfl) (pe_call (ok_law_word T) (hr.mono (by decide)) (by rfl) T.g_law_word T.F_law_word.kp T.b_law_word .nil pass0 (pa_cons (pv 1) (pa_cons pe_int pa_nil))))
 (pss_cons (ps_set (i := 4) sc_law.nd rfl (Or.inl rfl) (pe_call (ok_law_watches T) (hr.mono (by decide)) (by rfl) T.g_law_watches T.F_law_watches.kp T.b_law_watches .nil pass0 (pa_cons (pv 1) (pa_cons (pv 2) (pa_cons (pe_call (ok_law_pick T) (hr.mono (by decide)) (by rfl) T.g_law_pick T.F_law_pick.kp T.b_law_pick .nil pass0 (pa_cons (pv 1) (pa_cons pe_int pa_nil))) (pa_cons pe_int pa_nil))))))
 (pss_cons (ps_set (i := 3) sc_law.nd rfl (Or.inl rfl) (pe_make T.M_Book (ok_Book__init T) (hr.mono (by decide)) (by rfl) T.g_Book T.b_Book__init .nil pass0 (pa_cons (pv 4) pa_nil)))
 (pss_cons (ps_set (i := 5) sc_law.nd rfl (Or.inl rfl) (pe_call (ok_law_zigzags T) (hr.mono (by decide)) (by rfl) T.g_law_zigzags T.F_law_zigzags.kp T.b_law_zigzags .nil pass0 (pa_cons (pv 4) (pa_cons (pv 2) pa_nil))))
 (pss_cons (ps_for PassesOwn.never rfl (pi_list (pe_op op_cat (pe_slice sl_list (pv 5) po_none (po_some pe_int)) (pe_slice sl_list (pv 5) (po_some (pe_un un_neg pe_int)) po_none))) (pg_name (i := 6) sc_law.nd rfl (Or.inl rfl))
 (pss_one (ps_if (pt_not (pt_val (pe_call (ok_law_right T) (hr.mono (by decide)) (by rfl) T.g_law_right T.F_law_right.kp T.b_law_right .nil pass0 (pa_cons (pv 3) (pa_cons (pv 2) (pa_cons (pv 6) (pa_cons (pe_call (ok_rule_of T) (hr.mono (by decide)) (by rfl) T.g_rule_of T.F_rule_of.kp T.b_rule_of .nil pass0 (pa_cons (pv 3) (pa_cons (pv 2) (pa_cons (pv 6) pa_nil)))) pa_nil)))))))
 (pss_one (ps_ret pe_bl))
 pss_nil)))
 (pss_one (ps_ret (pe_call (ok_law_right T) (hr.mono (by decide)) (by rfl) T.g_law_right T.F_law_right.kp T.b_law_right .nil pass0 (pa_cons (pv 3) (pa_cons (pv 2) (pa_cons (pe_call (ok_zigzag T) (hr.mono (by decide)) (by rfl) T.g_zigzag T.F_zigzag.kp T.b_zigzag .nil pass0 (pa_cons (pv 3) (pa_cons (pv 2) pa_nil))) (pa_cons (pe_call (ok_rule T) (hr.mono (by decide)) (by rfl) T.g_rule T.F_rule.kp T.b_rule .nil pass0 (pa_cons (pv 3) (pa_cons (pv 2) pa_nil))) pa_nil))))))))))))))))), ?_⟩
    walk_at "tx"
    refine ⟨ad, ns, rfl, hS, fun h c H1 hT1 s1 hh hc => ?_⟩
    walk_at "tx"
    refine ⟨h, c, 40, rfl, hT1, by decide, by decide, fun l H2 hT2 k2 hl2 => ?_⟩
    walk_at "tx"
    refine ⟨h, c, 9, rfl, hT2, by decide, log2_lt (by decide), fun many H3 a3 b3 hT3 k3 => ?_⟩
    walk_at "tx"
    refine ⟨h, c, l, many.toNat, 12, by rw [Int.toNat_of_nonneg (by omega)]; rfl, hT3, hl2, by omega, by decide, by decide, fun p ws H4 hT4 k4 hp ep ok ne => ?_⟩
    have okw : Okw ws := ⟨Nat.le_trans ok.len (by omega), ok.ok, ok.nd⟩
    walk_at "tx"
    intro x dx nx ndx nxd
    refine mk_book nx ndx nxd ep okw (fun H5 s5 b5 => ⟨rfl, ?_⟩)
    have hT5 := hT4.same s5
    clear ep hT4 k4 hp hT3 k3 hT2 k2 hT1 s1 hS
    walk_at "tx"
    refine ⟨x, ws, l, rfl, b5, okw, hl2, fun v H6 s6 wv => ?_⟩
    walk_at "tx"
    refine ⟨x, ws, l, rfl, b5.same s6, okw, hl2, fun v2 p2 H7 s7 wp rv => ?_⟩
    have s57 := s6.trans s7
    refine ⟨x, ws, l, v, v2, rfl, b5.same s57, okw, hl2, RuleAt.way okw.ne hl2.lo (way_same wv s7) wp rv, fun H8 s8 => ?_⟩
    have s58 := s57.trans s8
    clear wv wp rv s57 s8 s7 s6
    have b8 := b5.same s58
    have hT8 := hT5.same s58
    clear b5 hT5 s58 v v2 p2
    walk_at "tx"
    refine ⟨x, ws, l, rfl, b8, okw, hl2, fun v H6 s6 wv => ?_⟩
    walk_at "tx"
    refine ⟨x, ws, l, rfl, b8.same s6, okw, hl2, fun v2 p2 H7 s7 wp rv => ?_⟩
    have s57 := s6.trans s7
    refine ⟨x, ws, l, v, v2, rfl, b8.same s57, okw, hl2, RuleAt.calm okw.ne hl2.lo (calm_same wv s7) wp rv, fun H9 s9 => ?_⟩
    have hT9 := hT8.same (s57.trans s9)
    clear wv wp rv s57 s9 s7 s6 b8 hT8 v v2 p2 H7 H6 H8
    walk_at "tx"
    refine ⟨h, c, 6, rfl, hT9, by decide, by decide, fun l2 H10 hT10 k10 hl3 => ?_⟩
    walk_at "tx"
    refine ⟨h, c, 6, rfl, hT10, by decide, log2_lt (by decide), fun many2 H11 a11 b11 hT11 k11 => ?_⟩
    walk_at "tx"
    refine ⟨h, c, l2, many2.toNat, 6, by rw [Int.toNat_of_nonneg (by omega)]; rfl, hT11, hl3.mono (by decide), by omega, by decide, by decide, fun q qs H12 hT12 k12 hq eq ok2 ne2 => ?_⟩
    have okq : Okw qs := ⟨Nat.le_trans ok2.len (by omega), fun w m => (ok2.ok w m).mono (by decide), ok2.nd⟩
    walk_at "tx"
    intro y dy ny ndy nyd
    refine mk_book ny ndy nyd eq okq (fun H13 s13 b13 => ⟨rfl, ?_⟩)
    have eq13 := s13 _ _ eq
    clear eq hT12 k12 hT11 k11 hT10 k10 hT9 hq s13
    walk_at "tx"
    refine ⟨q, qs, l2, rfl, eq13, okq.ne, hl3, fun f fs H14 s14 ef hF fl => ?_⟩
    have b14 := b13.same s14
    have lq := hl3.mono (show 6 ≤ 40 by decide)
    clear b13 eq13 s14
    walk_at "tx"
    refine ⟨f, _, rfl, SqL.of ef, fun u1 hu1 => ?_⟩
    rw [show (some (12 : Int)) = some ((12 : Nat) : Int) from rfl, cut_takeR]
    have sa := same_upd (o := HO.lst ((fs.take 12).map V.ref)) hu1
    have e1 : upd H14 u1 (.lst ((fs.take 12).map V.ref)) u1 = some (.lst ((fs.take 12).map V.ref)) := upd_same
    have ef1 := sa _ _ ef
    generalize upd H14 u1 (.lst ((fs.take 12).map V.ref)) = H15 at *
    walk_at "tx"
    refine ⟨f, _, rfl, SqL.of ef1, fun u2 hu2 => ?_⟩
    obtain ⟨d0, n0, ec⟩ := cut_someR fs (some (-4)) none
    rw [ec]
    have sb := same_upd (o := HO.lst (((fs.drop d0).take n0).map V.ref)) hu2
    have e2 : upd H15 u2 (.lst (((fs.drop d0).take n0).map V.ref)) u2 = some (.lst (((fs.drop d0).take n0).map V.ref)) := upd_same
    have e1' := sb _ _ e1
    have s02 := sa.trans sb
    generalize upd H15 u2 (.lst (((fs.drop d0).take n0).map V.ref)) = H16 at *
    refine ⟨u1, u2, _, _, rfl, rfl, e1', e2, by rw [List.length_map, List.length_map, List.length_take, List.length_take, List.length_drop]; exact Nat.le_trans (by omega : _ ≤ 60000) (by decide), fun u3 hu3 => ?_⟩
    rw [← List.map_append]
    have hU : ∀ a ∈ fs.take 12 ++ (fs.drop d0).take n0, a ∈ fs := fun a m => by
      rcases List.mem_append.mp m with m | m
      · exact List.mem_of_mem_take m
      · exact List.mem_of_mem_drop (List.mem_of_mem_take m)
    generalize fs.take 12 ++ (fs.drop d0).take n0 = us at *
    have sc := same_upd (o := HO.lst (us.map V.ref)) hu3
    have e3 : upd H16 u3 (.lst (us.map V.ref)) u3 = some (.lst (us.map V.ref)) := upd_same
    have s03 := s02.trans sc
    generalize upd H16 u3 (.lst (us.map V.ref)) = H17 at *
    have b17 := b14.same s03
    have hF17 := hF.same s03
    clear b14 hF ef ef1 e1 e1' e2 sa sb sc s02 s03 ec fl
    walk_at "tx"
    refine RD.f_list (K := K) (a := u3) (xs := us.map V.ref) (fun j σ' H' => Same H17 H' ∧ ∃ v6 : Option V, σ' = [some (.ref ad), some (.ref h), some (.str (WW.S l2)), some (.ref y), some (.ref q), some (.ref f), v6])
      ⟨Same.refl _, none, rfl⟩ ?_ ?_ ?_
    · rintro j σ' H' _ ⟨s, _⟩
      exact SqL.of (s _ _ e3)
    · rintro j yv σ' H' ey ⟨s, v6, rfl⟩
      have jl := (List.getElem?_eq_some_iff.mp ey).1
      rw [List.length_map] at jl
      rw [List.getElem?_map, List.getElem?_eq_getElem jl] at ey
      cases ey
      obtain ⟨p2, et, zz⟩ := hF17 _ (hU _ (List.getElem_mem jl))
      generalize us[j] = t at *
      walk_at "tx"
      refine ⟨y, t, qs, l2, p2, rfl, b17.same s, okq, lq, s _ _ et, zz, fun u H18 s18 ru => ?_⟩
      have s8 := s.trans s18
      refine ⟨y, qs, l2, .ref t, .ref u, rfl, b17.same s8, okq, lq, .inr ⟨t, u, p2, rfl, rfl, s8 _ _ et, zz, ru⟩, fun H19 s19 => ?_⟩
      walk_at "tx"
      exact ⟨s8.trans s19, _, rfl⟩
    · rintro σ' H18 ⟨s, v6, rfl⟩
      walk_at "tx"
      refine ⟨y, qs, l2, rfl, b17.same s, okq, lq, fun v H6 s6 wv => ?_⟩
      walk_at "tx"
      refine ⟨y, qs, l2, rfl, b17.same (s.trans s6), okq, lq, fun v2 p2 H7 s7 wp rv => ?_⟩
      exact ⟨y, qs, l2, v, v2, rfl, b17.same ((s.trans s6).trans s7), okq, lq, RuleAt.way okq.ne lq.lo (way_same wv s7) wp rv, fun H8 s8 => k H8⟩
end

theorem facts {P : Program} {w : World} {K : PySem.W.Frag} {h : Heap} {mg : Str → Option Value} {f : Addr} (X : K.In h) (G : h.Ns mainGlobals mg) (hfa : mg ("law" : Str) = some (.ref f)) (c : He.SaysD faH fnH K) (x : exH K = true) :
    ∃ fd : FuncData, (∀ (s : Shared) (v : Value), BindsTo s fd ⟨[v], []⟩ [("script", v)]) ∧ ∀ base : Heap, K.In base → base.Ns mainGlobals mg → FnOk P w K mg base CX0 13 f fd ["script"] (spLaw K) := by
  obtain ⟨fdis_integer, Dis_integer⟩ := c.def_ 0 (d := dH_is_integer) rfl
  have Fis_integer : Fun K _ _ s_is_integer _ fdis_integer := OQ.fun_of Dis_integer
  have bis_integer := Fis_integer.binds (ps := ["thing"]) fun _ _ _ _ _ _ us hl => match us, hl with | [_], _ => rfl
  obtain ⟨fdis_row, Dis_row⟩ := c.def_ 1 (d := dH_is_row) rfl
  have Fis_row : Fun K _ _ s_is_row _ fdis_row := OQ.fun_of Dis_row
  have bis_row := Fis_row.binds (ps := ["thing"]) fun _ _ _ _ _ _ us hl => match us, hl with | [_], _ => rfl
  obtain ⟨fdis_word, Dis_word⟩ := c.def_ 2 (d := dH_is_word) rfl
  have Fis_word : Fun K _ _ s_is_word _ fdis_word := OQ.fun_of Dis_word
  have bis_word := Fis_word.binds (ps := ["thing"]) fun _ _ _ _ _ _ us hl => match us, hl with | [_], _ => rfl
  obtain ⟨fdis_watch, Dis_watch⟩ := c.def_ 3 (d := dH_is_watch) rfl
  have Fis_watch : Fun K _ _ s_is_watch _ fdis_watch := OQ.fun_of Dis_watch
  have bis_watch := Fis_watch.binds (ps := ["thing"]) fun _ _ _ _ _ _ us hl => match us, hl with | [_], _ => rfl
  obtain ⟨fdhas_letters, Dhas_letters⟩ := c.def_ 4 (d := dH_has_letters) rfl
  have Fhas_letters : Fun K _ _ s_has_letters _ fdhas_letters := OQ.fun_of Dhas_letters
  have bhas_letters := Fhas_letters.binds (ps := ["thing", "most"]) fun _ _ _ _ _ _ us hl => match us, hl with | [_, _], _ => rfl
  obtain ⟨fdcheck_word, Dcheck_word⟩ := c.def_ 5 (d := dH_check_word) rfl
  have Fcheck_word : Fun K _ _ s_check_word _ fdcheck_word := OQ.fun_of Dcheck_word
  have bcheck_word := Fcheck_word.binds (ps := ["word"]) fun _ _ _ _ _ _ us hl => match us, hl with | [_], _ => rfl
  obtain ⟨fdBook__init, DBook__init⟩ := c.def_ 6 (d := dH_Book__init) rfl
  have FBook__init : Fun K _ _ s_Book__init _ fdBook__init := OQ.fun_of DBook__init
  have bBook__init := FBook__init.binds (ps := ["self", "watches"]) fun _ _ _ _ _ _ us hl => match us, hl with | [_, _], _ => rfl
  obtain ⟨fdBook_has, DBook_has⟩ := c.def_ 7 (d := dH_Book_has) rfl
  have FBook_has : Fun K _ _ s_Book_has _ fdBook_has := OQ.fun_of DBook_has
  have bBook_has := FBook_has.binds (ps := ["self", "thing"]) fun _ _ _ _ _ _ us hl => match us, hl with | [_, _], _ => rfl
  obtain ⟨fdwrong_watch, Dwrong_watch⟩ := c.def_ 8 (d := dH_wrong_watch) rfl
  have Fwrong_watch : Fun K _ _ s_wrong_watch _ fdwrong_watch := OQ.fun_of Dwrong_watch
  have bwrong_watch := Fwrong_watch.binds (ps := ["watches"]) fun _ _ _ _ _ _ us hl => match us, hl with | [_], _ => rfl
  obtain ⟨fdcheck_book, Dcheck_book⟩ := c.def_ 9 (d := dH_check_book) rfl
  have Fcheck_book : Fun K _ _ s_check_book _ fdcheck_book := OQ.fun_of Dcheck_book
  have bcheck_book := Fcheck_book.binds (ps := ["book"]) fun _ _ _ _ _ _ us hl => match us, hl with | [_], _ => rfl
  obtain ⟨fdcheck_asked, Dcheck_asked⟩ := c.def_ 10 (d := dH_check_asked) rfl
  have Fcheck_asked : Fun K _ _ s_check_asked _ fdcheck_asked := OQ.fun_of Dcheck_asked
  have bcheck_asked := Fcheck_asked.binds (ps := ["book", "word"]) fun _ _ _ _ _ _ us hl => match us, hl with | [_, _], _ => rfl
  obtain ⟨fdis_step, Dis_step⟩ := c.def_ 11 (d := dH_is_step) rfl
  have Fis_step : Fun K _ _ s_is_step _ fdis_step := OQ.fun_of Dis_step
  have bis_step := Fis_step.binds (ps := ["thing"]) fun _ _ _ _ _ _ us hl => match us, hl with | [_], _ => rfl
  obtain ⟨fdis_any_rule, Dis_any_rule⟩ := c.def_ 12 (d := dH_is_any_rule) rfl
  have Fis_any_rule : Fun K _ _ s_is_any_rule _ fdis_any_rule := OQ.fun_of Dis_any_rule
  have bis_any_rule := Fis_any_rule.binds (ps := ["thing"]) fun _ _ _ _ _ _ us hl => match us, hl with | [_], _ => rfl
  obtain ⟨fdcheck_rule, Dcheck_rule⟩ := c.def_ 13 (d := dH_check_rule) rfl
  have Fcheck_rule : Fun K _ _ s_check_rule _ fdcheck_rule := OQ.fun_of Dcheck_rule
  have bcheck_rule := Fcheck_rule.binds (ps := ["rule"]) fun _ _ _ _ _ _ us hl => match us, hl with | [_], _ => rfl
  obtain ⟨fdspots_along, Dspots_along⟩ := c.def_ 14 (d := dH_spots_along) rfl
  have Fspots_along : Fun K _ _ s_spots_along _ fdspots_along := OQ.fun_of Dspots_along
  have bspots_along := Fspots_along.binds (ps := ["word", "rule"]) fun _ _ _ _ _ _ us hl => match us, hl with | [_, _], _ => rfl
  obtain ⟨fdsteps_along, Dsteps_along⟩ := c.def_ 15 (d := dH_steps_along) rfl
  have Fsteps_along : Fun K _ _ s_steps_along _ fdsteps_along := OQ.fun_of Dsteps_along
  have bsteps_along := Fsteps_along.binds (ps := ["word", "spots"]) fun _ _ _ _ _ _ us hl => match us, hl with | [_, _], _ => rfl
  obtain ⟨fdstep_between, Dstep_between⟩ := c.def_ 16 (d := dH_step_between) rfl
  have Fstep_between : Fun K _ _ s_step_between _ fdstep_between := OQ.fun_of Dstep_between
  have bstep_between := Fstep_between.binds (ps := ["word", "here", "there"]) fun _ _ _ _ _ _ us hl => match us, hl with | [_, _, _], _ => rfl
  obtain ⟨fdlinks_of, Dlinks_of⟩ := c.def_ 17 (d := dH_links_of) rfl
  have Flinks_of : Fun K _ _ s_links_of _ fdlinks_of := OQ.fun_of Dlinks_of
  have blinks_of := Flinks_of.binds (ps := ["book", "word"]) fun _ _ _ _ _ _ us hl => match us, hl with | [_, _], _ => rfl
  obtain ⟨fdlinks_through, Dlinks_through⟩ := c.def_ 18 (d := dH_links_through) rfl
  have Flinks_through : Fun K _ _ s_links_through _ fdlinks_through := OQ.fun_of Dlinks_through
  have blinks_through := Flinks_through.binds (ps := ["pieces", "word"]) fun _ _ _ _ _ _ us hl => match us, hl with | [_, _], _ => rfl
  obtain ⟨fdsteps_to, Dsteps_to⟩ := c.def_ 19 (d := dH_steps_to) rfl
  have Fsteps_to : Fun K _ _ s_steps_to _ fdsteps_to := OQ.fun_of Dsteps_to
  have bsteps_to := Fsteps_to.binds (ps := ["links", "goal"]) fun _ _ _ _ _ _ us hl => match us, hl with | [_, _], _ => rfl
  obtain ⟨fdfewest_walk, Dfewest_walk⟩ := c.def_ 20 (d := dH_fewest_walk) rfl
  have Ffewest_walk : Fun K _ _ s_fewest_walk _ fdfewest_walk := OQ.fun_of Dfewest_walk
  have bfewest_walk := Ffewest_walk.binds (ps := ["book", "word"]) fun _ _ _ _ _ _ us hl => match us, hl with | [_, _], _ => rfl
  obtain ⟨fdcalmest_walk, Dcalmest_walk⟩ := c.def_ 21 (d := dH_calmest_walk) rfl
  have Fcalmest_walk : Fun K _ _ s_calmest_walk _ fdcalmest_walk := OQ.fun_of Dcalmest_walk
  have bcalmest_walk := Fcalmest_walk.binds (ps := ["book", "word"]) fun _ _ _ _ _ _ us hl => match us, hl with | [_, _], _ => rfl
  obtain ⟨fdcosts_to, Dcosts_to⟩ := c.def_ 22 (d := dH_costs_to) rfl
  have Fcosts_to : Fun K _ _ s_costs_to _ fdcosts_to := OQ.fun_of Dcosts_to
  have bcosts_to := Fcosts_to.binds (ps := ["links", "goal"]) fun _ _ _ _ _ _ us hl => match us, hl with | [_, _], _ => rfl
  obtain ⟨fdcalmest_step, Dcalmest_step⟩ := c.def_ 23 (d := dH_calmest_step) rfl
  have Fcalmest_step : Fun K _ _ s_calmest_step _ fdcalmest_step := OQ.fun_of Dcalmest_step
  have bcalmest_step := Fcalmest_step.binds (ps := ["links", "costs", "here", "way"]) fun _ _ _ _ _ _ us hl => match us, hl with | [_, _, _, _], _ => rfl
  obtain ⟨fdway_between, Dway_between⟩ := c.def_ 24 (d := dH_way_between) rfl
  have Fway_between : Fun K _ _ s_way_between _ fdway_between := OQ.fun_of Dway_between
  have bway_between := Fway_between.binds (ps := ["here", "there"]) fun _ _ _ _ _ _ us hl => match us, hl with | [_, _], _ => rfl
  obtain ⟨fdzigzag, Dzigzag⟩ := c.def_ 25 (d := dH_zigzag) rfl
  have Fzigzag : Fun K _ _ s_zigzag _ fdzigzag := OQ.fun_of Dzigzag
  have bzigzag := Fzigzag.binds (ps := ["book", "word"]) fun _ _ _ _ _ _ us hl => match us, hl with | [_, _], _ => rfl
  obtain ⟨fdcalmest, Dcalmest⟩ := c.def_ 26 (d := dH_calmest) rfl
  have Fcalmest : Fun K _ _ s_calmest _ fdcalmest := OQ.fun_of Dcalmest
  have bcalmest := Fcalmest.binds (ps := ["book", "word"]) fun _ _ _ _ _ _ us hl => match us, hl with | [_, _], _ => rfl
  obtain ⟨fdis_zigzag, Dis_zigzag⟩ := c.def_ 27 (d := dH_is_zigzag) rfl
  have Fis_zigzag : Fun K _ _ s_is_zigzag _ fdis_zigzag := OQ.fun_of Dis_zigzag
  have bis_zigzag := Fis_zigzag.binds (ps := ["book", "word", "thing"]) fun _ _ _ _ _ _ us hl => match us, hl with | [_, _, _], _ => rfl
  obtain ⟨fdis_spot, Dis_spot⟩ := c.def_ 28 (d := dH_is_spot) rfl
  have Fis_spot : Fun K _ _ s_is_spot _ fdis_spot := OQ.fun_of Dis_spot
  have bis_spot := Fis_spot.binds (ps := ["word", "thing"]) fun _ _ _ _ _ _ us hl => match us, hl with | [_, _], _ => rfl
  obtain ⟨fdfollowed, Dfollowed⟩ := c.def_ 29 (d := dH_followed) rfl
  have Ffollowed : Fun K _ _ s_followed _ fdfollowed := OQ.fun_of Dfollowed
  have bfollowed := Ffollowed.binds (ps := ["word", "rule"]) fun _ _ _ _ _ _ us hl => match us, hl with | [_, _], _ => rfl
  obtain ⟨fdrule_of, Drule_of⟩ := c.def_ 30 (d := dH_rule_of) rfl
  have Frule_of : Fun K _ _ s_rule_of _ fdrule_of := OQ.fun_of Drule_of
  have brule_of := Frule_of.binds (ps := ["book", "word", "zigzag"]) fun _ _ _ _ _ _ us hl => match us, hl with | [_, _, _], _ => rfl
  obtain ⟨fdrule, Drule⟩ := c.def_ 31 (d := dH_rule) rfl
  have Frule : Fun K _ _ s_rule _ fdrule := OQ.fun_of Drule
  have brule := Frule.binds (ps := ["book", "word"]) fun _ _ _ _ _ _ us hl => match us, hl with | [_, _], _ => rfl
  obtain ⟨fdcalm_rule, Dcalm_rule⟩ := c.def_ 32 (d := dH_calm_rule) rfl
  have Fcalm_rule : Fun K _ _ s_calm_rule _ fdcalm_rule := OQ.fun_of Dcalm_rule
  have bcalm_rule := Fcalm_rule.binds (ps := ["book", "word"]) fun _ _ _ _ _ _ us hl => match us, hl with | [_, _], _ => rfl
  obtain ⟨fdis_rule, Dis_rule⟩ := c.def_ 33 (d := dH_is_rule) rfl
  have Fis_rule : Fun K _ _ s_is_rule _ fdis_rule := OQ.fun_of Dis_rule
  have bis_rule := Fis_rule.binds (ps := ["book", "word", "thing"]) fun _ _ _ _ _ _ us hl => match us, hl with | [_, _, _], _ => rfl
  obtain ⟨fdlaw_tape, Dlaw_tape⟩ := c.def_ 34 (d := dH_law_tape) rfl
  have Flaw_tape : Fun K _ _ s_law_tape _ fdlaw_tape := OQ.fun_of Dlaw_tape
  have blaw_tape := Flaw_tape.binds (ps := ["script"]) fun _ _ _ _ _ _ us hl => match us, hl with | [_], _ => rfl
  obtain ⟨fdlaw_pick, Dlaw_pick⟩ := c.def_ 35 (d := dH_law_pick) rfl
  have Flaw_pick : Fun K _ _ s_law_pick _ fdlaw_pick := OQ.fun_of Dlaw_pick
  have blaw_pick := Flaw_pick.binds (ps := ["tape", "size"]) fun _ _ _ _ _ _ us hl => match us, hl with | [_, _], _ => rfl
  obtain ⟨fdlaw_flag, Dlaw_flag⟩ := c.def_ 36 (d := dH_law_flag) rfl
  have Flaw_flag : Fun K _ _ s_law_flag _ fdlaw_flag := OQ.fun_of Dlaw_flag
  have blaw_flag := Flaw_flag.binds (ps := ["told", "due"]) fun _ _ _ _ _ _ us hl => match us, hl with | [_, _], _ => rfl
  obtain ⟨fdlaw_letters, Dlaw_letters⟩ := c.def_ 37 (d := dH_law_letters) rfl
  have Flaw_letters : Fun K _ _ s_law_letters _ fdlaw_letters := OQ.fun_of Dlaw_letters
  have blaw_letters := Flaw_letters.binds (ps := ["tape", "many"]) fun _ _ _ _ _ _ us hl => match us, hl with | [_, _], _ => rfl
  obtain ⟨fdlaw_word, Dlaw_word⟩ := c.def_ 38 (d := dH_law_word) rfl
  have Flaw_word : Fun K _ _ s_law_word _ fdlaw_word := OQ.fun_of Dlaw_word
  have blaw_word := Flaw_word.binds (ps := ["tape", "most"]) fun _ _ _ _ _ _ us hl => match us, hl with | [_, _], _ => rfl
  obtain ⟨fdlaw_watch, Dlaw_watch⟩ := c.def_ 39 (d := dH_law_watch) rfl
  have Flaw_watch : Fun K _ _ s_law_watch _ fdlaw_watch := OQ.fun_of Dlaw_watch
  have blaw_watch := Flaw_watch.binds (ps := ["tape", "word", "most"]) fun _ _ _ _ _ _ us hl => match us, hl with | [_, _, _], _ => rfl
  obtain ⟨fdlaw_watches, Dlaw_watches⟩ := c.def_ 40 (d := dH_law_watches) rfl
  have Flaw_watches : Fun K _ _ s_law_watches _ fdlaw_watches := OQ.fun_of Dlaw_watches
  have blaw_watches := Flaw_watches.binds (ps := ["tape", "word", "many", "most"]) fun _ _ _ _ _ _ us hl => match us, hl with | [_, _, _, _], _ => rfl
  obtain ⟨fdlaw_near, Dlaw_near⟩ := c.def_ 41 (d := dH_law_near) rfl
  have Flaw_near : Fun K _ _ s_law_near _ fdlaw_near := OQ.fun_of Dlaw_near
  have blaw_near := Flaw_near.binds (ps := ["watches", "word", "spot"]) fun _ _ _ _ _ _ us hl => match us, hl with | [_, _, _], _ => rfl
  obtain ⟨fdlaw_zigzags, Dlaw_zigzags⟩ := c.def_ 42 (d := dH_law_zigzags) rfl
  have Flaw_zigzags : Fun K _ _ s_law_zigzags _ fdlaw_zigzags := OQ.fun_of Dlaw_zigzags
  have blaw_zigzags := Flaw_zigzags.binds (ps := ["watches", "word"]) fun _ _ _ _ _ _ us hl => match us, hl with | [_, _], _ => rfl
  obtain ⟨fdlaw_steps, Dlaw_steps⟩ := c.def_ 43 (d := dH_law_steps) rfl
  have Flaw_steps : Fun K _ _ s_law_steps _ fdlaw_steps := OQ.fun_of Dlaw_steps
  have blaw_steps := Flaw_steps.binds (ps := ["word", "spots"]) fun _ _ _ _ _ _ us hl => match us, hl with | [_, _], _ => rfl
  obtain ⟨fdlaw_right, Dlaw_right⟩ := c.def_ 44 (d := dH_law_right) rfl
  have Flaw_right : Fun K _ _ s_law_right _ fdlaw_right := OQ.fun_of Dlaw_right
  have blaw_right := Flaw_right.binds (ps := ["book", "word", "way", "told"]) fun _ _ _ _ _ _ us hl => match us, hl with | [_, _, _, _], _ => rfl
  obtain ⟨fdlaw, Dlaw⟩ := c.def_ 45 (d := dH_law) rfl
  have Flaw : Fun K _ _ s_law _ fdlaw := OQ.fun_of Dlaw
  have blaw := Flaw.binds (ps := ["script"]) fun _ _ _ _ _ _ us hl => match us, hl with | [_], _ => rfl
  have gBook : mg "Book" = some (.ref (He.ga K "Book")) := He.glo_ok X G (c.fact 0 rfl)
  have gis_integer : mg "is_integer" = some (.ref (He.ga K "is_integer")) := He.glo_ok X G (c.fact 1 rfl)
  have gis_row : mg "is_row" = some (.ref (He.ga K "is_row")) := He.glo_ok X G (c.fact 2 rfl)
  have gis_word : mg "is_word" = some (.ref (He.ga K "is_word")) := He.glo_ok X G (c.fact 3 rfl)
  have gis_watch : mg "is_watch" = some (.ref (He.ga K "is_watch")) := He.glo_ok X G (c.fact 4 rfl)
  have ghas_letters : mg "has_letters" = some (.ref (He.ga K "has_letters")) := He.glo_ok X G (c.fact 5 rfl)
  have gcheck_word : mg "check_word" = some (.ref (He.ga K "check_word")) := He.glo_ok X G (c.fact 6 rfl)
  have gwrong_watch : mg "wrong_watch" = some (.ref (He.ga K "wrong_watch")) := He.glo_ok X G (c.fact 7 rfl)
  have gcheck_book : mg "check_book" = some (.ref (He.ga K "check_book")) := He.glo_ok X G (c.fact 8 rfl)
  have gcheck_asked : mg "check_asked" = some (.ref (He.ga K "check_asked")) := He.glo_ok X G (c.fact 9 rfl)
  have gis_step : mg "is_step" = some (.ref (He.ga K "is_step")) := He.glo_ok X G (c.fact 10 rfl)
  have gis_any_rule : mg "is_any_rule" = some (.ref (He.ga K "is_any_rule")) := He.glo_ok X G (c.fact 11 rfl)
  have gcheck_rule : mg "check_rule" = some (.ref (He.ga K "check_rule")) := He.glo_ok X G (c.fact 12 rfl)
  have gspots_along : mg "spots_along" = some (.ref (He.ga K "spots_along")) := He.glo_ok X G (c.fact 13 rfl)
  have gsteps_along : mg "steps_along" = some (.ref (He.ga K "steps_along")) := He.glo_ok X G (c.fact 14 rfl)
  have gstep_between : mg "step_between" = some (.ref (He.ga K "step_between")) := He.glo_ok X G (c.fact 15 rfl)
  have glinks_of : mg "links_of" = some (.ref (He.ga K "links_of")) := He.glo_ok X G (c.fact 16 rfl)
  have glinks_through : mg "links_through" = some (.ref (He.ga K "links_through")) := He.glo_ok X G (c.fact 17 rfl)
  have gsteps_to : mg "steps_to" = some (.ref (He.ga K "steps_to")) := He.glo_ok X G (c.fact 18 rfl)
  have gfewest_walk : mg "fewest_walk" = some (.ref (He.ga K "fewest_walk")) := He.glo_ok X G (c.fact 19 rfl)
  have gcalmest_walk : mg "calmest_walk" = some (.ref (He.ga K "calmest_walk")) := He.glo_ok X G (c.fact 20 rfl)
  have gcosts_to : mg "costs_to" = some (.ref (He.ga K "costs_to")) := He.glo_ok X G (c.fact 21 rfl)
  have gcalmest_step : mg "calmest_step" = some (.ref (He.ga K "calmest_step")) := He.glo_ok X G (c.fact 22 rfl)
  have gway_between : mg "way_between" = some (.ref (He.ga K "way_between")) := He.glo_ok X G (c.fact 23 rfl)
  have gzigzag : mg "zigzag" = some (.ref (He.ga K "zigzag")) := He.glo_ok X G (c.fact 24 rfl)
  have gcalmest : mg "calmest" = some (.ref (He.ga K "calmest")) := He.glo_ok X G (c.fact 25 rfl)
  have gis_zigzag : mg "is_zigzag" = some (.ref (He.ga K "is_zigzag")) := He.glo_ok X G (c.fact 26 rfl)
  have gis_spot : mg "is_spot" = some (.ref (He.ga K "is_spot")) := He.glo_ok X G (c.fact 27 rfl)
  have gfollowed : mg "followed" = some (.ref (He.ga K "followed")) := He.glo_ok X G (c.fact 28 rfl)
  have grule_of : mg "rule_of" = some (.ref (He.ga K "rule_of")) := He.glo_ok X G (c.fact 29 rfl)
  have grule : mg "rule" = some (.ref (He.ga K "rule")) := He.glo_ok X G (c.fact 30 rfl)
  have gcalm_rule : mg "calm_rule" = some (.ref (He.ga K "calm_rule")) := He.glo_ok X G (c.fact 31 rfl)
  have gis_rule : mg "is_rule" = some (.ref (He.ga K "is_rule")) := He.glo_ok X G (c.fact 32 rfl)
  have g_law_tape : mg "_law_tape" = some (.ref (He.ga K "_law_tape")) := He.glo_ok X G (c.fact 33 rfl)
  have g_law_pick : mg "_law_pick" = some (.ref (He.ga K "_law_pick")) := He.glo_ok X G (c.fact 34 rfl)
  have g_law_flag : mg "_law_flag" = some (.ref (He.ga K "_law_flag")) := He.glo_ok X G (c.fact 35 rfl)
  have g_law_letters : mg "_law_letters" = some (.ref (He.ga K "_law_letters")) := He.glo_ok X G (c.fact 36 rfl)
  have g_law_word : mg "_law_word" = some (.ref (He.ga K "_law_word")) := He.glo_ok X G (c.fact 37 rfl)
  have g_law_watch : mg "_law_watch" = some (.ref (He.ga K "_law_watch")) := He.glo_ok X G (c.fact 38 rfl)
  have g_law_watches : mg "_law_watches" = some (.ref (He.ga K "_law_watches")) := He.glo_ok X G (c.fact 39 rfl)
  have g_law_near : mg "_law_near" = some (.ref (He.ga K "_law_near")) := He.glo_ok X G (c.fact 40 rfl)
  have g_law_zigzags : mg "_law_zigzags" = some (.ref (He.ga K "_law_zigzags")) := He.glo_ok X G (c.fact 41 rfl)
  have g_law_steps : mg "_law_steps" = some (.ref (He.ga K "_law_steps")) := He.glo_ok X G (c.fact 42 rfl)
  have g_law_right : mg "_law_right" = some (.ref (He.ga K "_law_right")) := He.glo_ok X G (c.fact 43 rfl)
  have glaw : mg "law" = some (.ref (He.ga K "law")) := He.glo_ok X G (c.fact 44 rfl)
  have zall : mg "all" = none := He.free_ok X G (c.fact 45 rfl)
  have zbool : mg "bool" = none := He.free_ok X G (c.fact 46 rfl)
  have zenumerate : mg "enumerate" = none := He.free_ok X G (c.fact 47 rfl)
  have zint : mg "int" = none := He.free_ok X G (c.fact 48 rfl)
  have zisinstance : mg "isinstance" = none := He.free_ok X G (c.fact 49 rfl)
  have zlen : mg "len" = none := He.free_ok X G (c.fact 50 rfl)
  have zlist : mg "list" = none := He.free_ok X G (c.fact 51 rfl)
  have zmax : mg "max" = none := He.free_ok X G (c.fact 52 rfl)
  have zmin : mg "min" = none := He.free_ok X G (c.fact 53 rfl)
  have zrange : mg "range" = none := He.free_ok X G (c.fact 54 rfl)
  have zsorted : mg "sorted" = none := He.free_ok X G (c.fact 55 rfl)
  have zstr : mg "str" = none := He.free_ok X G (c.fact 56 rfl)
  have ztuple : mg "tuple" = none := He.free_ok X G (c.fact 57 rfl)
  have zzip : mg "zip" = none := He.free_ok X G (c.fact 58 rfl)
  have zset : mg "set" = none := He.free_ok X G (c.fact 59 rfl)
  obtain ⟨tkMOST_LETTERS, gMOST_LETTERS⟩ := He.int_ok X G (c.fact 60 (f := .int "MOST_LETTERS" 40) rfl)
  obtain ⟨tkMOST_WATCH_LETTERS, gMOST_WATCH_LETTERS⟩ := He.int_ok X G (c.fact 61 (f := .int "MOST_WATCH_LETTERS" 12) rfl)
  obtain ⟨tkMOST_WATCHES, gMOST_WATCHES⟩ := He.int_ok X G (c.fact 62 (f := .int "MOST_WATCHES" 12) rfl)
  obtain ⟨tkMOST_STEPS, gMOST_STEPS⟩ := He.int_ok X G (c.fact 63 (f := .int "MOST_STEPS" 80) rfl)
  obtain ⟨tkUP, gUP⟩ := He.int_ok X G (c.fact 64 (f := .int "UP" 1) rfl)
  obtain ⟨tkDOWN, gDOWN⟩ := He.int_ok X G (c.fact 65 (f := .int "DOWN" (-1)) rfl)
  obtain ⟨tkON, gON⟩ := He.str_ok X G (c.fact 66 (f := .str "ON" "on") rfl)
  obtain ⟨tkBACK, gBACK⟩ := He.str_ok X G (c.fact 67 (f := .str "BACK" "back") rfl)
  have r0 := x
  obtain ⟨qhnO, r1⟩ := OQ.two r0
  obtain ⟨qhtO, r2⟩ := OQ.two r1
  obtain ⟨qhaBook, r3⟩ := OQ.two r2
  obtain ⟨qhmBook, r4⟩ := OQ.two r3
  obtain ⟨qheappush, r5⟩ := OQ.two r4
  have qheappop := r5
  have hnO := OQ.isB_ok qhnO
  have htO := of_decide_eq_true qhtO
  have e := hfa.symm.trans glaw
  cases e
  let T : Top K mg := { C_Book := _, cl_Book := He.cls_ok (c.fact 68 (f := .cls "Book") rfl), g_Book := gBook, na_Book_watches := He.noat_ok (c.fact 69 (f := .noat "Book" "watches") rfl), f_is_integer := _, fd_is_integer := fdis_integer, F_is_integer := Fis_integer, b_is_integer := bis_integer, g_is_integer := gis_integer, f_is_row := _, fd_is_row := fdis_row, F_is_row := Fis_row, b_is_row := bis_row, g_is_row := gis_row, f_is_word := _, fd_is_word := fdis_word, F_is_word := Fis_word, b_is_word := bis_word, g_is_word := gis_word, f_is_watch := _, fd_is_watch := fdis_watch, F_is_watch := Fis_watch, b_is_watch := bis_watch, g_is_watch := gis_watch, f_has_letters := _, fd_has_letters := fdhas_letters, F_has_letters := Fhas_letters, b_has_letters := bhas_letters, g_has_letters := ghas_letters, f_check_word := _, fd_check_word := fdcheck_word, F_check_word := Fcheck_word, b_check_word := bcheck_word, g_check_word := gcheck_word, f_Book__init := _, fd_Book__init := fdBook__init, F_Book__init := FBook__init, b_Book__init := bBook__init, M_Book := He.mkr_ok (c.fact 71 (f := .mkr "Book") rfl), f_Book_has := _, fd_Book_has := fdBook_has, F_Book_has := FBook_has, b_Book_has := bBook_has, m_Book_has := He.meth_ok (c.fact 70 (f := .meth "Book" "has") rfl), f_wrong_watch := _, fd_wrong_watch := fdwrong_watch, F_wrong_watch := Fwrong_watch, b_wrong_watch := bwrong_watch, g_wrong_watch := gwrong_watch, f_check_book := _, fd_check_book := fdcheck_book, F_check_book := Fcheck_book, b_check_book := bcheck_book, g_check_book := gcheck_book, f_check_asked := _, fd_check_asked := fdcheck_asked, F_check_asked := Fcheck_asked, b_check_asked := bcheck_asked, g_check_asked := gcheck_asked, f_is_step := _, fd_is_step := fdis_step, F_is_step := Fis_step, b_is_step := bis_step, g_is_step := gis_step, f_is_any_rule := _, fd_is_any_rule := fdis_any_rule, F_is_any_rule := Fis_any_rule, b_is_any_rule := bis_any_rule, g_is_any_rule := gis_any_rule, f_check_rule := _, fd_check_rule := fdcheck_rule, F_check_rule := Fcheck_rule, b_check_rule := bcheck_rule, g_check_rule := gcheck_rule, f_spots_along := _, fd_spots_along := fdspots_along, F_spots_along := Fspots_along, b_spots_along := bspots_along, g_spots_along := gspots_along, f_steps_along := _, fd_steps_along := fdsteps_along, F_steps_along := Fsteps_along, b_steps_along := bsteps_along, g_steps_along := gsteps_along, f_step_between := _, fd_step_between := fdstep_between, F_step_between := Fstep_between, b_step_between := bstep_between, g_step_between := gstep_between, f_links_of := _, fd_links_of := fdlinks_of, F_links_of := Flinks_of, b_links_of := blinks_of, g_links_of := glinks_of, f_links_through := _, fd_links_through := fdlinks_through, F_links_through := Flinks_through, b_links_through := blinks_through, g_links_through := glinks_through, f_steps_to := _, fd_steps_to := fdsteps_to, F_steps_to := Fsteps_to, b_steps_to := bsteps_to, g_steps_to := gsteps_to, f_fewest_walk := _, fd_fewest_walk := fdfewest_walk, F_fewest_walk := Ffewest_walk, b_fewest_walk := bfewest_walk, g_fewest_walk := gfewest_walk, f_calmest_walk := _, fd_calmest_walk := fdcalmest_walk, F_calmest_walk := Fcalmest_walk, b_calmest_walk := bcalmest_walk, g_calmest_walk := gcalmest_walk, f_costs_to := _, fd_costs_to := fdcosts_to, F_costs_to := Fcosts_to, b_costs_to := bcosts_to, g_costs_to := gcosts_to, f_calmest_step := _, fd_calmest_step := fdcalmest_step, F_calmest_step := Fcalmest_step, b_calmest_step := bcalmest_step, g_calmest_step := gcalmest_step, f_way_between := _, fd_way_between := fdway_between, F_way_between := Fway_between, b_way_between := bway_between, g_way_between := gway_between, f_zigzag := _, fd_zigzag := fdzigzag, F_zigzag := Fzigzag, b_zigzag := bzigzag, g_zigzag := gzigzag, f_calmest := _, fd_calmest := fdcalmest, F_calmest := Fcalmest, b_calmest := bcalmest, g_calmest := gcalmest, f_is_zigzag := _, fd_is_zigzag := fdis_zigzag, F_is_zigzag := Fis_zigzag, b_is_zigzag := bis_zigzag, g_is_zigzag := gis_zigzag, f_is_spot := _, fd_is_spot := fdis_spot, F_is_spot := Fis_spot, b_is_spot := bis_spot, g_is_spot := gis_spot, f_followed := _, fd_followed := fdfollowed, F_followed := Ffollowed, b_followed := bfollowed, g_followed := gfollowed, f_rule_of := _, fd_rule_of := fdrule_of, F_rule_of := Frule_of, b_rule_of := brule_of, g_rule_of := grule_of, f_rule := _, fd_rule := fdrule, F_rule := Frule, b_rule := brule, g_rule := grule, f_calm_rule := _, fd_calm_rule := fdcalm_rule, F_calm_rule := Fcalm_rule, b_calm_rule := bcalm_rule, g_calm_rule := gcalm_rule, f_is_rule := _, fd_is_rule := fdis_rule, F_is_rule := Fis_rule, b_is_rule := bis_rule, g_is_rule := gis_rule, f_law_tape := _, fd_law_tape := fdlaw_tape, F_law_tape := Flaw_tape, b_law_tape := blaw_tape, g_law_tape := g_law_tape, f_law_pick := _, fd_law_pick := fdlaw_pick, F_law_pick := Flaw_pick, b_law_pick := blaw_pick, g_law_pick := g_law_pick, f_law_flag := _, fd_law_flag := fdlaw_flag, F_law_flag := Flaw_flag, b_law_flag := blaw_flag, g_law_flag := g_law_flag, f_law_letters := _, fd_law_letters := fdlaw_letters, F_law_letters := Flaw_letters, b_law_letters := blaw_letters, g_law_letters := g_law_letters, f_law_word := _, fd_law_word := fdlaw_word, F_law_word := Flaw_word, b_law_word := blaw_word, g_law_word := g_law_word, f_law_watch := _, fd_law_watch := fdlaw_watch, F_law_watch := Flaw_watch, b_law_watch := blaw_watch, g_law_watch := g_law_watch, f_law_watches := _, fd_law_watches := fdlaw_watches, F_law_watches := Flaw_watches, b_law_watches := blaw_watches, g_law_watches := g_law_watches, f_law_near := _, fd_law_near := fdlaw_near, F_law_near := Flaw_near, b_law_near := blaw_near, g_law_near := g_law_near, f_law_zigzags := _, fd_law_zigzags := fdlaw_zigzags, F_law_zigzags := Flaw_zigzags, b_law_zigzags := blaw_zigzags, g_law_zigzags := g_law_zigzags, f_law_steps := _, fd_law_steps := fdlaw_steps, F_law_steps := Flaw_steps, b_law_steps := blaw_steps, g_law_steps := g_law_steps, f_law_right := _, fd_law_right := fdlaw_right, F_law_right := Flaw_right, b_law_right := blaw_right, g_law_right := g_law_right, f_law := _, fd_law := fdlaw, F_law := Flaw, b_law := blaw, g_law := glaw, n_all := zall, n_bool := zbool, n_enumerate := zenumerate, n_int := zint, n_isinstance := zisinstance, n_len := zlen, n_list := zlist, n_max := zmax, n_min := zmin, n_range := zrange, n_sorted := zsorted, n_str := zstr, n_tuple := ztuple, n_zip := zzip, n_set := zset, hnO := hnO, htO := htO, k_MOST_LETTERS := tkMOST_LETTERS, g_MOST_LETTERS := gMOST_LETTERS, k_MOST_WATCH_LETTERS := tkMOST_WATCH_LETTERS, g_MOST_WATCH_LETTERS := gMOST_WATCH_LETTERS, k_MOST_WATCHES := tkMOST_WATCHES, g_MOST_WATCHES := gMOST_WATCHES, k_MOST_STEPS := tkMOST_STEPS, g_MOST_STEPS := gMOST_STEPS, k_UP := tkUP, g_UP := gUP, k_DOWN := tkDOWN, g_DOWN := gDOWN, k_ON := tkON, g_ON := gON, k_BACK := tkBACK, g_BACK := gBACK, ha_Book := OQ.isB_ok qhaBook, hm_Book := of_decide_eq_true qhmBook, kBB := kit_selfR, g_heappush := PySem.W.mg_of X G (OQ.isB_ok qheappush), g_heappop := PySem.W.mg_of X G (OQ.isB_ok qheappop) }
  exact ⟨fdlaw, fun s v => FunD.bindsA (ps := ["script"]) Dlaw (fun _ _ _ _ _ _ us hl => match us, hl with | [_], _ => rfl) s [v] rfl, fun base _ _ => ok_law T⟩

end Toy
open PySem PySem.W PySem.Calls PyProof.Rows
set_option maxRecDepth 100000 in
set_option maxHeartbeats 0 in
theorem PySem.Challenge.cw_watchedways_k13_rules_of_zigzags_holds : PySem.Challenge.rw_watchedways_k13_rules_of_zigzags.Holds := by
  w_on; o_law
  refine HG.head_run (r := OpenLaw.row PySem.Challenge.rw_watchedways_k13_rules_of_zigzags) (q := view (OpenLaw.row PySem.Challenge.rw_watchedways_k13_rules_of_zigzags).prog [0, 69]) (H := Toy.hk) (ob := Toy.ob) (N := 30000) (M := Toy.HX.MT) (x0 := fun w => Toy.HX.X0 w Toy.HX.os0) (x1 := fun w => Toy.HX.X4 w Toy.HX.os0) (loose := Toy.looseH) (d := HandSHeadRun.topDef (OpenLaw.row PySem.Challenge.rw_watchedways_k13_rules_of_zigzags).prog 69) (kwd := []) (HG.obL_eq Toy.asH Toy.faH Toy.fnH Toy.exH)
    Toy.HX.boot Toy.HX.size Toy.HX.run (by kernel_rfl) Toy.HX.looks Toy.HX.seen_ Toy.HX.obs_ (by kernel_rfl) (by kernel_rfl) (by kernel_rfl) (by rfl) (by first | assumption | decide +kernel) (by decide +kernel) ⟨rfl, rfl, rfl, rfl, rfl, by decide +kernel⟩ ?hw ?hc
  case hw => w_witness2
  case hc =>
    refine L2.walk_ofE (l := PySem.Challenge.rw_watchedways_k13_rules_of_zigzags) (n := 63) (k := 13) (x := "script") (CX := L2.CX0) rfl (by decide) (by kernel_rfl) ⟨rfl, by decide, by decide⟩ ?F (fun _ _ _ _ z => z)
    intro w mg fa h Y G hmg0
    obtain ⟨K, KX, c, x⟩ := Y
    have hmg : mg ("law" : PySem.Str) = some (.ref fa) := by
      have e : (HandSHeadRun.topDef (OpenLaw.row PySem.Challenge.rw_watchedways_k13_rules_of_zigzags).prog 69).name = ("law" : PySem.Str) := by kernel_rfl
      rw [← e]
      exact hmg0
    obtain ⟨fd, hb, hF⟩ := Toy.facts (P := (PySem.Challenge.rw_watchedways_k13_rules_of_zigzags).prog) (w := w) KX G hmg c x
    exact ⟨K, fd, Toy.spLaw K, KX, hb, fun H a ns hl _ hS => ⟨a, ns, rfl, hS, hl, fun _ => rfl⟩, hF⟩

