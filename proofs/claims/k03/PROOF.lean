import PyProof.Rows.All
import Wide.All
import OpenK.AllK
import Wide.FinOn
import KE.KExcIs
import HandS.ForMost
import HandS.ForExc
import HandS.Codes
import HandS.Wide
import HandS.IsInst
import HandS.ExcInit
import HandS.ExcField
import HandS.ExcIs
import HandS.TryMany
import HandS.CallSlots
import HandS.Defaults
import HandS.Gcd
import HandS.DeepEq
import HandS.Flow
import HandS.TupLe
import PyProof.SumWalk
import PyProof.Rows.CountFlat

import HandS.Walk
import KE.GoesEnum
import HandS.SortInts
import HandS.Style
import HandS.Conv
import HandS.StrMore
import HandS.DictComp
import HandS.Head0
import HandS.Head1
import HandS.Head2
import HandS.Head3
import HandS.HeadEnd
import HandS.HeadHook1
import HandS.HeadHook2
import KE.KStateDown
import PySem.Challenge.RW_watchedways_k03_neighbours_and_classes
set_option Elab.async false
set_option linter.all false
set_option maxRecDepth 100000
set_option maxHeartbeats 4000000
set_option exponentiation.threshold 3000

/-! ### readings, step by step -/
namespace RD
open PySem L2
section
variable {σ : St} {H : Hp} {Q : VK} {B : Bool → Hp → Prop} {A : List V → Hp → Prop} {K : PySem.W.Frag} {v x y : V} {i j : Int} {n : Nat} {ta tb tc te : TE} {tA tB' : TT} {r r' : R2} {t : TA}
theorem d_var {n : Nat} {v : V} (e : σ[n]? = some (some v)) (h : Q v H) : tVar n σ H Q := ⟨v, e, h⟩
theorem d_c (h : Q v H) : tC v σ H Q := h
theorem d_op (h : ta σ H fun x H1 => tb σ H1 fun y H2 => r x y H2 Q) : tOp r ta tb σ H Q := h
theorem d_un {r : V → Hp → VK → Prop} (h : ta σ H fun x H1 => r x H1 Q) : tUn r ta σ H Q := h
theorem d_cb {r : List V → Hp → VK → Prop} (h : t σ H fun vs H1 => r vs H1 Q) : tCB r t σ H Q := h
theorem d_call {sp : Sp} {dvs : List V} {E : XK} (h : t σ H fun vs H1 => sp (vs ++ dvs) H1 Q E) : tCall sp dvs E t σ H Q := h
theorem d_nil (h : A [] H) : tNil σ H A := h
theorem d_cons {ta : TE} {tr : TA} (h : ta σ H fun x H1 => tr σ H1 fun xs H2 => A (x :: xs) H2) : tCons ta tr σ H A := h
theorem d_lst (h : t σ H fun xs H1 => xs.length ≤ sizeLine ∧ ∀ p, H1 p = none → Q (.ref p) (upd H1 p (.lst xs))) : tLst t σ H Q := h
theorem d_tup (h : t σ H fun xs H1 => xs.length ≤ sizeLine ∧ ∀ p, H1 p = none → Q (.ref p) (upd H1 p (.tup xs))) : tTup t σ H Q := h
theorem d_test (h : ta σ H fun x H' => ∃ k, x = .bl k ∧ B k H') : tTest ta σ H B := h
theorem d_tB (h : ta σ H fun x H' => ∃ k, x = .bl k ∧ B k H') : L2.tB ta σ H B := h
theorem d_bl {b : Bool} {R : Bool → Prop} (h : R b) : ∃ k, V.bl b = .bl k ∧ R k := ⟨b, rfl, h⟩
theorem d_and (h : tA σ H fun c H1 => if c = true then tB' σ H1 B else B false H1) : tAnd tA tB' σ H B := h
theorem d_or (h : tA σ H fun c H1 => if c = true then B true H1 else tB' σ H1 B) : tOr tA tB' σ H B := h
theorem d_not (h : tA σ H fun c H1 => B (!c) H1) : tNot tA σ H B := h
theorem d_andV (h : ta σ H fun x H1 => ∃ c, x = .bl c ∧ if c = true then tb σ H1 Q else Q (.bl false) H1) : tAndV ta tb σ H Q := h
theorem d_orV (h : ta σ H fun x H1 => ∃ c, x = .bl c ∧ if c = true then Q (.bl true) H1 else tb σ H1 Q) : tOrV ta tb σ H Q := h
theorem d_notV (h : ta σ H fun x H1 => ∃ c, x = .bl c ∧ Q (.bl (!c)) H1) : tNotV ta σ H Q := h
theorem d_if (h : tA σ H fun c H1 => if c = true then ta σ H1 Q else tb σ H1 Q) : tIf tA ta tb σ H Q := h
theorem d_rI0 {g : Int → Int → V} (h : Q (g i j) H) : rI0 g (.int i) (.int j) H Q := ⟨i, j, rfl, rfl, h⟩
theorem d_rI {C : Int → Int → Prop} {g : Int → Int → V} (c : C i j) (h : Q (g i j) H) : rI C g (.int i) (.int j) H Q := ⟨i, j, rfl, rfl, c, h⟩
theorem d_rU {g : Int → V} (h : Q (g i) H) : rU g (.int i) H Q := ⟨i, rfl, h⟩
theorem d_eqI (h : Q (.bl (decide (i = j))) H) : rEq (.int i) (.int j) H Q := ⟨rfl, by
  have e : decide (V.int i = V.int j) = decide (i = j) := by rw [dec_int, Bool.eq_iff_iff]; simp
  rw [e]; exact h⟩
theorem d_neI (h : Q (.bl (!decide (i = j))) H) : rNe (.int i) (.int j) H Q := ⟨rfl, by
  have e : decide (V.int i = V.int j) = decide (i = j) := by rw [dec_int, Bool.eq_iff_iff]; simp
  rw [e]; exact h⟩
theorem d_eqB {i j : Bool} (h : Q (.bl (decide (i = j))) H) : rEq (.bl i) (.bl j) H Q := ⟨rfl, by
  have e : decide (V.bl i = V.bl j) = decide (i = j) := by rw [dec_bl, Bool.eq_iff_iff]; simp
  rw [e]; exact h⟩
theorem d_eqS {i j : Str} (h : Q (.bl (decide (i = j))) H) : rEq (.str i) (.str j) H Q := ⟨rfl, by
  have e : decide (V.str i = V.str j) = decide (i = j) := by rw [dec_str, Bool.eq_iff_iff]; simp
  rw [e]; exact h⟩
theorem d_neS {i j : Str} (h : Q (.bl (!decide (i = j))) H) : rNe (.str i) (.str j) H Q := ⟨rfl, by
  have e : decide (V.str i = V.str j) = decide (i = j) := by rw [dec_str, Bool.eq_iff_iff]; simp
  rw [e]; exact h⟩
theorem d_ixL {p : Addr} {xs : List V} {v : V} (hs : SqL K H p xs) (e : atI xs i = some v) (h : Q v H) : rIxL K (.ref p) (.int i) H Q := ⟨p, xs, i, v, rfl, rfl, hs, e, h⟩
theorem d_ixT {p : Addr} {xs : List V} {v : V} (hs : SqT K H p xs) (e : atI xs i = some v) (h : Q v H) : rIxT K (.ref p) (.int i) H Q := ⟨p, xs, i, v, rfl, rfl, hs, e, h⟩
theorem d_setL {p : Addr} {xs : List V} {k : Nat} {R : Hp → Prop} (hp : H p = some (.lst xs)) (e : ixN xs.length i = some k) (h : R (upd H p (.lst (xs.set k v)))) : rSetL (.ref p) (.int i) v H R := ⟨p, xs, i, k, rfl, rfl, hp, e, h⟩
theorem d_gname {R : St → Hp → Prop} (h : R (σ.set n (some v)) H) : gName n v σ H R := h
theorem d_gsub {to ti : TE} {ts : TSet} {R : St → Hp → Prop} (h : to σ H fun o H1 => ti σ H1 fun i H2 => ts o i v H2 fun H3 => R σ H3) : gSub to ti ts v σ H R := h
section
variable {nx bk ct : St → Hp → Prop} {rt : VK} {u w : TS} {g : TG}
theorem d_seq (h : u ⟨w ⟨nx, rt, bk, ct⟩, rt, bk, ct⟩ σ H) : tSeq u w ⟨nx, rt, bk, ct⟩ σ H := h
theorem d_asg (h : te σ H fun x H1 => g x σ H1 nx) : tAsg te g ⟨nx, rt, bk, ct⟩ σ H := h
theorem d_ret (h : te σ H rt) : tRet te ⟨nx, rt, bk, ct⟩ σ H := h
theorem d_next (h : nx σ H) : tNext ⟨nx, rt, bk, ct⟩ σ H := h
theorem d_drop (h : te σ H fun _ H1 => nx σ H1) : tDrop te ⟨nx, rt, bk, ct⟩ σ H := h
theorem d_ifS (h : tA σ H fun b H1 => if b = true then u ⟨nx, rt, bk, ct⟩ σ H1 else w ⟨nx, rt, bk, ct⟩ σ H1) : tIfS tA u w ⟨nx, rt, bk, ct⟩ σ H := h
theorem d_cut (Mid : St → Hp → Prop) (h : u ⟨Mid, rt, bk, ct⟩ σ H) (k : ∀ σ' H', Mid σ' H' → w ⟨nx, rt, bk, ct⟩ σ' H') : C8.tCut u w ⟨nx, rt, bk, ct⟩ σ H := ⟨Mid, h, k⟩
theorem d_par {t : TA} {i j : Nat} (h : t σ H fun vs H1 => ∃ v w, vs = [v, w] ∧ nx ((σ.set i (some v)).set j (some w)) H1) : tPar i j t ⟨nx, rt, bk, ct⟩ σ H := h
end
def rInt1 : List V → Hp → VK → Prop := fun xs H Q => (∃ i, xs = [.int i] ∧ Q (.int i) H) ∨ ∃ k, xs = [.bl k] ∧ Q (.int (if k then 1 else 0)) H
theorem c_int {X : Cx} : CallR X (.type "int") rInt1 := call_int1
theorem d_int (h : Q (.int i) H) : rInt1 [.int i] H Q := .inl ⟨i, rfl, h⟩
theorem d_intB {b : Bool} (h : Q (.int (if b then 1 else 0)) H) : rInt1 [.bl b] H Q := .inr ⟨b, rfl, h⟩
def rAbs : List V → Hp → VK → Prop := fun xs H Q => ∃ i, xs = [.int i] ∧ Q (.int (if i < 0 then -i else i)) H
theorem c_abs {X : Cx} : CallR X (.builtin "abs") rAbs := call_abs
theorem d_abs (h : Q (.int (if i < 0 then -i else i)) H) : rAbs [.int i] H Q := ⟨i, rfl, h⟩
def rLen (K : PySem.W.Frag) : List V → Hp → VK → Prop := fun xs H Q => ∃ x n, xs = [x] ∧ LenV K x H n ∧ Q (.int n) H
theorem c_len {X : Cx} : CallR X (.builtin "len") (rLen X.K) := call_len
theorem d_lenL {p : Addr} {xs : List V} (hs : SqL K H p xs) (h : Q (.int xs.length) H) : rLen K [.ref p] H Q := ⟨_, _, rfl, .inl ⟨xs, hs, rfl⟩, h⟩
theorem d_lenT {p : Addr} {xs : List V} (hs : SqT K H p xs) (h : Q (.int xs.length) H) : rLen K [.ref p] H Q := ⟨_, _, rfl, .inr ⟨xs, hs, rfl⟩, h⟩
theorem d_lenS {z : Str} (hs : z.length ≤ sizeLine) (h : Q (.int z.length) H) : rLen K [.str z] H Q := ⟨_, _, rfl, ⟨hs, rfl⟩, h⟩
def rIsN : R2 := fun x y H Q => y = .non ∧ Q (.bl (decide (x = .non))) H
theorem o_isN {X : Cx} : OpR X (compareOp .Is) rIsN := op_isN
theorem d_isN (h : Q (.bl (decide (x = .non))) H) : rIsN x .non H Q := ⟨rfl, h⟩
def rNotN : R2 := fun x y H Q => y = .non ∧ Q (.bl (!decide (x = .non))) H
theorem o_notN {X : Cx} : OpR X (compareOp .IsNot) rNotN := op_notN
theorem d_notN (h : Q (.bl (!decide (x = .non))) H) : rNotN x .non H Q := ⟨rfl, h⟩
theorem d_iList {tl : TE} {R : It → Hp → Prop} (h : tl σ H fun x H1 => ∃ a, x = .ref a ∧ (∃ xs, SqL K H1 a xs) ∧ R (Itl K a) H1) : iList K tl σ H R := h
theorem d_refL {p : Addr} {xs : List V} {R : Addr → Prop} (hs : SqL K H p xs) (h : R p) : ∃ a, V.ref p = .ref a ∧ (∃ xs, SqL K H a xs) ∧ R a := ⟨p, rfl, ⟨xs, hs⟩, h⟩
theorem d_rng1 {t : TA} {R : It → Hp → Prop} (h : t σ H fun vs H1 => ∃ j : Int, vs = [.int j] ∧ -(2 ^ 62) ≤ j ∧ j < 2 ^ 62 ∧ R (Itr 0 j.toNat) H1) : iRng1 t σ H R := h
theorem d_lc {wi : TI} {g : TG} {tt : TT} {vs : List Nat} (h : wi σ H fun J H1 => ∀ D, H1 D = none → ∃ W : Nat → Nat → Hp → Prop, (∃ m, W 0 m (upd H1 D (.lst []))) ∧ ∀ i m H, W i m H →
  (J.stop i H ∧ Q (.ref D) H) ∨ (J.go i H ∧ ∃ Nx : Hp → Prop, (∀ H', Nx H' → ∃ m', m' < m ∧ W (i + 1) m' H') ∧ ∀ x H', J.yld i H x H' → g x (wipe σ vs) H' fun σ2 H2 => wipe σ2 vs = wipe σ vs ∧ tt σ2 H2 fun b H3 =>
    if b = true then te σ2 H3 fun y H4 => ∃ acc, H4 D = some (.lst acc) ∧ acc.length < sizeLine ∧ Nx (upd H4 D (.lst (acc ++ [y]))) else Nx H3)) : tLc wi g tt te vs σ H Q := h
theorem d_yes (h : B true H) : tYes σ H B := h
theorem d_iteT {X Y : Prop} (h : X) : if true = true then X else Y := by rw [if_pos rfl]; exact h
theorem d_iteF {X Y : Prop} (h : Y) : if false = true then X else Y := by rw [if_neg Bool.false_ne_true]; exact h
theorem d_wipe {R : Prop} {vs : List Nat} {σ' : St} (e : wipe σ' vs = wipe σ vs) (h : R) : wipe σ' vs = wipe σ vs ∧ R := ⟨e, h⟩
theorem d_sl {r : V → Option Int → Option Int → Hp → VK → Prop} {tl th : TO} (h : te σ H fun x H1 => tl σ H1 fun l H2 => th σ H2 fun u H3 => r x l u H3 Q) : tSl r te tl th σ H Q := h
theorem d_noPart {Q : Option Int → Hp → Prop} (h : Q none H) : tNoPart σ H Q := h
theorem d_part {Q : Option Int → Hp → Prop} (h : te σ H fun x H1 => ∃ i, x = .int i ∧ Q (some i) H1) : tPart te σ H Q := h
theorem d_exI {R : Int → Prop} (h : R i) : ∃ k, V.int i = .int k ∧ R k := ⟨i, rfl, h⟩
theorem d_isi {c : V} {t u : Value} {b : Bool} (hc : ClsV c u) (ty : TyX K H x t) (e : PySem.W.kitOne K t u = some b) (h : Q (.bl b) H) : rIsi K [x, c] H Q := ⟨x, c, t, u, b, rfl, hc, ty, e, h⟩
theorem d_fld {f : Str} (h : ta σ H fun x H1 => ∃ a C dx fs v, x = .ref a ∧ H1 a = some (.ins C dx fs) ∧ Cls K C ∧ NoAttr K C f ∧ fs.lookup f = some v ∧ Q v H1) : tFld K ta f σ H Q := h
theorem d_iteNF {X Y : Prop} (h : X) : if (!false) = true then X else Y := by rw [if_pos (show (!false) = true from rfl)]; exact h
theorem d_iteNT {X Y : Prop} (h : Y) : if (!true) = true then X else Y := by rw [if_neg (by decide)]; exact h
theorem d_iteDT {P X Y : Prop} {inst : Decidable P} (c : P) (h : X) : if decide P = true then X else Y := by rw [if_pos (decide_eq_true c)]; exact h
theorem d_iteDF {P X Y : Prop} {inst : Decidable P} (c : ¬ P) (h : Y) : if decide P = true then X else Y := by rw [if_neg (by simpa using c)]; exact h
theorem d_gcd (h : Q (.int ((Nat.gcd i.natAbs j.natAbs : Nat) : Int)) H) : rGcd [.int i, .int j] H Q := ⟨i, j, rfl, h⟩
theorem d_sfld {f : Str} {tv : TE} {nx bk ct : St → Hp → Prop} {rt : VK} (h : tv σ H fun y H1 => ta σ H1 fun x H2 => ∃ a C dx fs, x = .ref a ∧ H2 a = some (.ins C dx fs) ∧ Cls K C ∧ NoAttr K C f ∧ fs.length < 1000 ∧
  nx σ (upd H2 a (.ins C dx (putF f y fs)))) : sFld K ta tv f ⟨nx, rt, bk, ct⟩ σ H := h
theorem d_for {wi : TI} {g : TG} {tb : TS} {nx bk ct : St → Hp → Prop} {rt : VK} (h : wi σ H fun J H1 => ∃ W : Nat → Nat → St → Hp → Prop, (∃ m, W 0 m σ H1) ∧ ∀ i m σ H, W i m σ H →
  (J.stop i H ∧ nx σ H) ∨ (J.go i H ∧ ∃ N : St → Hp → Prop, (∀ σ' H', N σ' H' → ∃ m', m' < m ∧ W (i + 1) m' σ' H') ∧ ∀ x H', J.yld i H x H' → g x σ H' fun σ2 H2 => tb ⟨N, rt, nx, N⟩ σ2 H2)) :
  tFor wi g tb ⟨nx, rt, bk, ct⟩ σ H := h
theorem f_range {lo : Int} {n : Nat} {g : TG} {tb : TS} {nx : St → Hp → Prop} {rt : VK} (Pv : Nat → St → Hp → Prop) (h0 : Pv 0 σ H)
    (hs : ∀ i σ H, i < n → Pv i σ H → g (.int (lo + i)) σ H fun σ2 H2 => tb ⟨Pv (i + 1), rt, nx, Pv (i + 1)⟩ σ2 H2) (hd : ∀ σ H, Pv n σ H → nx σ H) :
    ∃ W : Nat → Nat → St → Hp → Prop, (∃ m, W 0 m σ H) ∧ ∀ i m σ H, W i m σ H → ((Itr lo n).stop i H ∧ nx σ H) ∨ ((Itr lo n).go i H ∧ ∃ N : St → Hp → Prop, (∀ σ' H', N σ' H' → ∃ m', m' < m ∧ W (i + 1) m' σ' H') ∧
      ∀ x H', (Itr lo n).yld i H x H' → g x σ H' fun σ2 H2 => tb ⟨N, rt, nx, N⟩ σ2 H2) := for_range (D := ⟨nx, rt, fun _ _ => False, fun _ _ => False⟩) Pv h0 hs hd
theorem f_list {K : PySem.W.Frag} {a : Addr} {xs : List V} {g : TG} {tb : TS} {nx : St → Hp → Prop} {rt : VK} (Pv : Nat → St → Hp → Prop) (h0 : Pv 0 σ H) (hl : ∀ i σ H, i ≤ xs.length → Pv i σ H → SqL K H a xs)
    (hs : ∀ i x σ H, xs[i]? = some x → Pv i σ H → g x σ H fun σ2 H2 => tb ⟨Pv (i + 1), rt, nx, Pv (i + 1)⟩ σ2 H2) (hd : ∀ σ H, Pv xs.length σ H → nx σ H) :
    ∃ W : Nat → Nat → St → Hp → Prop, (∃ m, W 0 m σ H) ∧ ∀ i m σ H, W i m σ H → ((Itl K a).stop i H ∧ nx σ H) ∨ ((Itl K a).go i H ∧ ∃ N : St → Hp → Prop, (∀ σ' H', N σ' H' → ∃ m', m' < m ∧ W (i + 1) m' σ' H') ∧
      ∀ x H', (Itl K a).yld i H x H' → g x σ H' fun σ2 H2 => tb ⟨N, rt, nx, N⟩ σ2 H2) := for_list (D := ⟨nx, rt, fun _ _ => False, fun _ _ => False⟩) Pv h0 hl hs hd
theorem iteD {P X Y : Prop} {inst : Decidable P} (h1 : P → X) (h2 : ¬ P → Y) : if decide P = true then X else Y := by
  by_cases h : P
  · rw [if_pos (decide_eq_true h)]; exact h1 h
  · rw [if_neg (by simpa using h)]; exact h2 h
theorem iteN {P X Y : Prop} {inst : Decidable P} (h1 : ¬ P → X) (h2 : P → Y) : if (!decide P) = true then X else Y := by
  by_cases h : P
  · rw [if_neg (by simpa using h)]; exact h2 h
  · rw [if_pos (by simpa using h)]; exact h1 h
end
end RD

/-! ### own == and != of a class of the text -/
namespace OQ
open PySem L2 PySem.Spec PyProof.Rows
section
variable {X : Cx} {CX : CXT} {C f : Addr} {fd : FuncData} {ps : List Str} {sp : Sp} {E : XK} {k : Nat}
/-- a def of the text called somewhere below the body that runs -/
theorem run_at {A : Around} (hA : A.frames = X.A.frames) (hr : Room k A) {pins : List (Addr × Obj)} {σ : L2.St} {H : Hp} {s : Shared} {Q : VK} {us : List Value} {vs : List V}
    (F : FnOk X.prog X.w X.K X.mg X.base CX k f fd ps sp) (hb : Binds X.K fd ps []) (hx : Passes CX X E) (I : Inv X pins σ H s) (r : Vals vs us) (h : sp vs H Q E) :
    wpAny (model X.prog X.w) A (call (.ref f) us) (EP X pins σ Q) X.xe s := by
  have z := I.env0
  have e0 : Env0 X.prog X.w X.K X.mg X.base A X.stack s H := ⟨hA ▸ z.frames, z.mod, z.bs, z.bsz, z.funs, z.frf, z.hok, z.bare⟩
  have hl : us.length = ps.length := by rw [← r.length]; exact F.len _ _ _ _ h
  have b := hb s us I.kIn (by rw [List.append_nil]; exact hl)
  rw [List.append_nil] at b
  refine wpAny_call (codeAny_mono (F.run A X.stack s H ⟨us, []⟩ us vs Q E hr e0 b r h) ?_)
  rintro (e | fl) s' hq
  · exact hx pins σ H s e s' I hq
  · cases fl with
    | ret u => exact I.after hq
    | next => exact hq.elim
    | brk => exact hq.elim
    | cont => exact hq.elim
theorem cmpBack_of {pins : List (Addr × Obj)} {σ : L2.St} {Q : VK} {u : Value} {s' : Shared} (h : EP X pins σ Q u s') : PySem.W.CmpBack (EP X pins σ Q) u s' := by
  obtain ⟨v, H', I', r, q⟩ := h
  have e : EP X pins σ Q u s' := ⟨v, H', I', r, q⟩
  cases u <;> first
    | exact e
    | (exfalso; cases v <;> first | exact Value.noConfusion r | (obtain ⟨t, rt⟩ := r; exact Value.noConfusion rt))
/-- x == y by the __eq__ of x's class -/
def rOwnEq (K : PySem.W.Frag) (C : Addr) (sp : Sp) (E : XK) : R2 := fun x y H Q => ∃ a dx fs t, x = .ref a ∧ H a = some (.ins C dx fs) ∧ TyX K H y t ∧ PySem.W.notFirst K C t = true ∧ sp [x, y] H Q E
theorem op_ownEq (F : FnOk X.prog X.w X.K X.mg X.base CX k f fd ps sp) (hr : Room k X.A) (hs : PySem.W.findIn X.K (.ref C) "__eq__" = some (some (.ref f))) (hf : PySem.W.isFn X.K (.ref f) = true)
    (hb : Binds X.K fd ps []) (hx : Passes CX X E) : OpR X (compareOp .Eq) (rOwnEq X.K C sp E) := by
  intro pins s σ H x y v u Q I rx ry hq
  obtain ⟨a, dx, fs, t, rfl, ha, ty, nf, q⟩ := hq
  cases rx
  obtain ⟨_, J0, _⟩ := ins_get I.hok ha
  obtain ⟨_, J, _⟩ := J0.look
  obtain ⟨_, hF⟩ := I.fr
  obtain ⟨_, kx, hp, _⟩ := kit_of I ry ty
  exact PySem.W.cmp_K (op := .Eq) hr.units0 hF I.ok.mod.kin J (kx.ty _ _ I.kIn hp) nf hs hf
    (wpAny_mono (run_at rfl hr F hb hx I (vs := [V.ref a, y]) (us := [Value.ref a, u]) (Paired.cons (show RelV (V.ref a) (Value.ref a) from rfl) (Paired.cons ry .nil)) q) (fun _ _ z => cmpBack_of z) fun _ _ z => z)
/-- looking a builtin slot up at an instance and calling it -/
theorem ifBound_B {M : Model} {A : Around} {E : Value → Shared → Prop} {s : Shared} {K : PySem.W.Frag} {x C : Addr} {ox : Obj} {od : Option Obj} {name : Str} {id : String} {args : List Value} {Q : Option Value → Shared → Prop} (Z : K.In s.heap)
    (I : PySem.W.InstAt s.heap x ox C od) (hs : PySem.W.findIn K (.ref C) name = some (some (.builtin id))) (S : bindSpecial (.builtin id) (.ref x) = pure (Value.builtin id, [Value.ref x]))
    (h : wpAny M A (call (.builtin id) (.ref x :: args)) (fun v => Q (some v)) E s) : wpAny M A (callSpecialIfBound? (.ref x) name args) Q E s := by
  have fin : wpAny M A (call (.builtin id) ([Value.ref x] ++ args) >>= fun v => pure (some v)) Q E s :=
    wpAny_bind (wpAny_mono h (fun _ _ z => wpAny_pure z) fun _ _ z => z)
  have tail : wpAny M A (some <$> (pure (Value.builtin id, [Value.ref x]) : Sem (Value × List Value))) (fun a s' => wpAny M A (match a with
    | some (g, first) => call g (first ++ args) >>= fun v => pure (some v)
    | none => pure none) Q E s') E s := wpAny_bind (wpAny_pure (wpAny_pure fin))
  simp only [callSpecialIfBound?, bindSpecialIfBound?]
  refine wpAny_holding ?_
  refine wpAny_bind ?_
  refine wpAny_bind ?_
  refine wpAny_bind (I.type.here ?_)
  refine (PySem.W.looks_findIn Z hs).here ?_
  simp only [S]
  refine wpAny_bind ?_
  refine wpAny_askSetting ?_
  refine wpAny_ite ?_
  split
  · refine wpAny_bind ?_
    exact wpAny_pure (wpAny_pure fin)
  · refine wpAny_tryCatch ?_
    refine wpAny_bind ?_
    exact wpAny_pure (wpAny_pure fin)
/-- object.__ne__(x, y) by the own __eq__ -/
theorem ne_body {M : Program} {w : World} {A : Around} {E : Value → Shared → Prop} {s : Shared} {K : PySem.W.Frag} {x C f : Addr} {ox : Obj} {od : Option Obj} {b : Value} {Q : Fin → Shared → Prop} (Z : K.In s.heap) (hu : A.units < cLine)
    (I : PySem.W.InstAt s.heap x ox C od) (hs : PySem.W.findIn K (.ref C) "__eq__" = some (some (.ref f))) (hf : PySem.W.isFn K (.ref f) = true)
    (h : wpAny (model M w) A (call (.ref f) [.ref x, b]) (fun v s' => ∃ r, v = .bool r ∧ Q (.done (.ret (.bool (!r)))) s') E s) :
    wpAny (model M w) A (Builtin.«object.__ne__» ⟨[.ref x, b], []⟩) Q E s := by
  unfold Builtin.«object.__ne__»
  have step : wpAny (model M w) A (callSpecialIfBound? (.ref x) "__eq__" [b]) (fun o s' => ∃ r, o = some (.bool r) ∧ Q (.done (.ret (.bool (!r)))) s') E s :=
    PySem.W.ifBound_K Z I hs hf (wpAny_mono h (fun v s' ⟨r, e, q⟩ => ⟨r, by rw [e], q⟩) fun _ _ z => z)
  refine wpAny_bind (wpAny_of_eq (a := ((Value.ref x : Value), [b])) (by first | rfl | (simp only [slotArgs]; rfl)) ?_)
  dsimp only
  refine wpAny_bind (wpAny_cRoomFor hu ?_)
  refine wpAny_bind (wpAny_mono step (fun o s' hv => ?_) fun _ _ z => z)
  obtain ⟨r, rfl, q⟩ := hv
  dsimp only
  refine wpAny_bind ?_
  refine wpAny_truthy_bool ?_
  exact wpAny_pure q
end
/-- x != y by the __eq__ of x's class -/
def rOwnNe (K : PySem.W.Frag) (C : Addr) (sp : Sp) (E : XK) : R2 := fun x y H Q => ∃ a dx fs t, x = .ref a ∧ H a = some (.ins C dx fs) ∧ TyX K H y t ∧ PySem.W.notFirst K C t = true ∧ sp [x, y] H (fun v H' => ∃ r, v = .bl r ∧ Q (.bl (!r)) H') E
section
variable {X : Cx} {CX : CXT} {C f : Addr} {fd : FuncData} {ps : List Str} {sp : Sp} {E : XK} {k : Nat}
theorem op_ownNe (F : FnOk X.prog X.w X.K X.mg X.base CX k f fd ps sp) (hr : Room (k + 1) X.A) (hs : PySem.W.findIn X.K (.ref C) "__eq__" = some (some (.ref f))) (hf : PySem.W.isFn X.K (.ref f) = true)
    (hn : PySem.W.findIn X.K (.ref C) "__ne__" = some (some (.builtin "object.__ne__"))) (hm : PySem.W.mroIn X.K C (.type "object") = some true)
    (hb : Binds X.K fd ps []) (hx : Passes CX X E) : OpR X (compareOp .NotEq) (rOwnNe X.K C sp E) := by
  intro pins s σ H x y v u Q I rx ry hq
  obtain ⟨a, dx, fs, t, rfl, ha, ty, nf, q⟩ := hq
  cases rx
  obtain ⟨_, J0, _⟩ := ins_get I.hok ha
  obtain ⟨_, J, _⟩ := J0.look
  obtain ⟨_, hF⟩ := I.fr
  obtain ⟨_, kx, hp, _⟩ := kit_of I ry ty
  have hlook := kx.ty (model X.prog X.w) _ I.kIn hp
  have hu := hr.units0
  have body := ne_body (M := X.prog) (w := X.w) (A := X.A.in1) (E := X.xe) (b := u) (Q := fun fin s' => ∃ r : Bool, fin = .done (.ret (.bool r)) ∧ EP X pins σ Q (.bool r) s') I.kIn hr.in1.units0 J hs hf
    (wpAny_mono (run_at (A := X.A.in1) rfl hr.in1 F hb hx I (vs := [V.ref a, y]) (us := [Value.ref a, u]) (Paired.cons (show RelV (V.ref a) (Value.ref a) from rfl) (Paired.cons ry .nil)) q) (fun w' s' z => by
      obtain ⟨v', H', I', rr, r, e, q'⟩ := z
      subst e
      exact ⟨r, rr, !r, rfl, .bl (!r), H', I', rfl, q'⟩) fun _ _ z => z)
  have one : wpAny (model X.prog X.w) X.A (tryCompare (.ref a) "__ne__" u) (fun o s' => ∃ r : Bool, o = some (.bool r) ∧ EP X pins σ Q (.bool r) s') X.xe s := by
    unfold tryCompare
    refine wpAny_bind (ifBound_B I.kIn J hn (PySem.F.cmp_object.ne.bind _) (wpAny_call (codeAny_call_builtin PySem.F.cmp_object.ne.plain PySem.F.cmpEntry_ne ?_)))
    refine PySem.W.check_slot PySem.F.cmpKind_ne PySem.F.cmpSplit_ne (J.type.andThen (PySem.W.looks_mroIn I.kIn hm)) (PySem.F.cmpArgs_ne _ _) ?_
    refine wpAny_mono body (fun fin s' z => ?_) fun _ _ z => z
    obtain ⟨r, rfl, ep⟩ := z
    exact wpAny_pure ⟨r, rfl, ep⟩
  show wpAny (model X.prog X.w) X.A (richCompare .NotEq (.ref a) u) (EP X pins σ Q) X.xe s
  unfold richCompare
  simp only [oneThing_ref]
  refine wpAny_holding ?_
  refine wpAny_bind (wpAny_cRoomFor hu ?_)
  refine wpAny_bind (J.type.here ?_)
  refine wpAny_bind (hlook.here ?_)
  have fin : ∀ {β : Type} {z : Value → Sem Value} {y : Sem Value}, True := fun {_ _ _} => trivial
  split
  · rename_i qq
    have e : PySem.W.subIn X.K t (.ref C) = some false := by
      rcases Bool.or_eq_true_iff.mp nf with e | e
      · rw [beq_iff_eq.mp e] at qq
        simp at qq
      · exact beq_iff_eq.mp e
    refine wpAny_bind ((PySem.W.looks_subIn I.kIn e).here ?_)
    simp only [Bool.false_eq_true, if_false]
    refine wpAny_bind (wpAny_mono one (fun o s' z => ?_) fun _ _ z => z)
    obtain ⟨r, rfl, ep⟩ := z
    exact wpAny_pure ep
  · refine wpAny_bind (wpAny_pure ?_)
    simp only [Bool.false_eq_true, if_false]
    refine wpAny_bind (wpAny_mono one (fun o s' z => ?_) fun _ _ z => z)
    obtain ⟨r, rfl, ep⟩ := z
    exact wpAny_pure ep
end
end OQ

/-! ### errors: isinstance of a caught one that has fields; making an instance within a try -/
namespace OQ
open PySem L2 PySem.Spec PyProof.Rows
/-- isinstance(e, c), e the error that the suite holds at a: its class cls, its dict d -/
def rIsX (K : PySem.W.Frag) (D a : Addr) (cls : Value) (d : Option Addr) : List V → Hp → VK → Prop := fun xs H Q => ∃ (c : V) (cv : Value) (b : Bool) (dd : Addr) (fs : List (Str × V)),
  xs = [.ref a, c] ∧ cls = .ref D ∧ d = some dd ∧ H dd = some (.xd fs) ∧ ClsV c cv ∧ PySem.W.kitOne K (.ref D) cv = some b ∧ Q (.bl b) H
theorem call_isX {X : Cx} {a D : Addr} {cls : Value} {d : Option Addr} {oe : Obj} {pn : List (Addr × Obj)} (C : ExcC X.K D) (hz : Zc cls d oe) (hf : ∃ vs, oe.data = .fields vs) :
    CallR (X.suite a ((a, oe) :: pn)) (.builtin "isinstance") (rIsX X.K D a cls d) := by
  rintro pins s σ H xs us Q I r ⟨c, cv, b, dd, fs, rfl, rfl, rfl, hx, hc, e, q⟩
  cases r with
  | cons rx rr => cases rr with
    | cons rt rr =>
      cases rr
      cases rx
      have ec := hc.eq rt
      subst ec
      obtain ⟨hget, _⟩ := I.pin (a, oe) (List.mem_append_left _ (List.mem_cons_self ..))
      obtain ⟨vs, hv⟩ := hf
      obtain ⟨_, hns, _⟩ := (show ObjOk X.prog X.w H s.heap dd (.xd fs) from I.hok dd _ hx)
      obtain ⟨od, ho, _⟩ := lookIn_ns hns
      have J : PySem.W.InstAt s.heap a oe D (some od) := ⟨hget, hz.1, (by unfold PySem.W.notCls; rw [hv] <;> rfl), (by rw [hz.2]; exact ho)⟩
      have hcl : (PySem.W.clsIn X.K D).isSome = true := by
        obtain ⟨cd, h1, _⟩ := PySem.W.any_some C.hd
        rw [h1]; rfl
      exact PySem.W.kia_one (PySem.W.kitx_exc hcl C.hg C.hk C.hs C.ha C.hn C.ht C.hm) I.kIn J e (fun z => Value.noConfusion z) fun tk => ⟨.bl b, H, I.kept (t' := tk) fun _ _ z => z, rfl, q⟩
section
variable {X : Cx} {CX : CXT} {C f : Addr} {fd : FuncData} {ps : List Str} {sp : Sp} {k : Nat} {ds : List Value} {dvs : List V} {E : L2.St → XK} {x : Str} {p pos : Pos} {e : Expr} {es : List Expr} {t : TA}
/-- C(e, ..), what is raised wished for at the slots -/
def tMakeS (C : Addr) (sp : Sp) (dvs : List V) (E : L2.St → XK) (t : TA) : TE := fun σ H Q => t σ H fun vs H1 => ∀ x dx, H1 x = none → H1 dx = none → dx ≠ x →
  sp (.ref x :: (vs ++ dvs)) (upd (upd H1 dx (.own x)) x (.ins C dx [])) (fun v H2 => v = .non ∧ Q (.ref x) H2) (E σ)
theorem pe_makeS (M : Mk X.K C f) (F : FnOk X.prog X.w X.K X.mg X.base CX k f fd ps sp) (hr : Room (k + 1) X.A) (hg : Gl X x) (hm : X.mg x = some (.ref C)) (hb : Binds X.K fd ps ds) (hd : Vals dvs ds)
    (hx : ∀ σ, PassesAt CX X σ (E σ)) (ha : PA X (e :: es) t) (hdb : (x == ("__debug__" : Str)) = false := by decide)
    (he : starEach (e :: es) X.env = (false, eval e X.env) :: starEach es X.env := by rfl) (hpl : (backTo pos (starEach es X.env)).any (·.1) = false := by rfl) :
    PE X (.Call (.Name x p) (e :: es) [] pos) (tMakeS C sp dvs E t) := by
  refine ⟨fun pins s σ H Q I h => ?_⟩
  refine wpAny_Call_Name_kw (ld_glob I hg hm ?_ hdb)
  refine PySem.W.callWith_K (h₀ := X.base) I.ok.mod.kin M.kp (thn (ha.run pos pins s σ H _ I h) ?_) he hpl
  rintro us s1 ⟨vs, H1, I1, r, q⟩
  refine ⟨I1.kIn, ?_⟩
  have nx : H1 (s1.heap.objs.size + 1) = none := I1.hok.fresh (Nat.le_succ _)
  have ndx : H1 s1.heap.objs.size = none := I1.hok.fresh (Nat.le_refl _)
  have hq := q _ _ nx ndx (Nat.ne_of_lt (Nat.lt_succ_self _))
  have I2 := Inv.made (C := C) I1
  have r2 : Vals (V.ref (s1.heap.objs.size + 1) :: (vs ++ dvs)) (Value.ref (s1.heap.objs.size + 1) :: (us ++ ds)) := .cons rfl (r.append hd)
  have hl : (Value.ref (s1.heap.objs.size + 1) :: us ++ ds).length = ps.length := (r2.length.symm).trans (F.len _ _ _ _ hq)
  refine wpAny_call (make_map (f := f) I1.kIn M.makes M.init (beq_iff_eq.mp M.fn) (codeAny_mono (F.run _ X.stack _ _ _ _ _ _ (E σ) (hr.make C us []) (I2.env0.make C us []) (hb _ (_ :: us) I2.kIn hl) r2 hq) ?_))
  rintro (er | fl) s' hq'
  · exact hx σ pins _ _ er s' I2 hq'
  · cases fl with
    | ret u =>
      obtain ⟨v, H', I3, rv, ev, q3⟩ := I2.after hq'
      subst ev
      exact ⟨rv, V.ref (s1.heap.objs.size + 1), H', I3, rfl, q3⟩
    | next => exact hq'.elim
    | brk => exact hq'.elim
    | cont => exact hq'.elim
end
/-- // by a divisor of either sign, below 2 ^ 9000 -/
def CDivX (_ j : Int) : Prop := j ≠ 0 ∧ j.natAbs.log2 < 9000
theorem op_fdivX {X : Cx} : OpR X (binaryOp .FloorDiv) (rI CDivX fun i j => .int (i.fdiv j)) := opI fun i j _ _ _ _ _ hc q => floordiv_int hc.1 q (.inl (PyProof.noPylong_of_log2 hc.2))
end OQ

namespace OQ
open PySem L2
/-- one of two rules -/
theorem op_or {X : Cx} {f : Value → Value → Sem Value} {r1 r2 : R2} (h1 : OpR X f r1) (h2 : OpR X f r2) : OpR X f (fun x y H Q => r1 x y H Q ∨ r2 x y H Q) :=
  fun pins s σ H x y v u Q I rx ry h => h.elim (h1 pins s σ H x y v u Q I rx ry) (h2 pins s σ H x y v u Q I rx ry)
/-- what lets nothing out where the wish is empty -/
theorem passN {X : Cx} : Passes (L2.CX X.prog X.w) X E0 := fun pins σ H s e s' I h => by
  obtain ⟨_, _, _, _, _, _, _, _, _, _, _, _, f⟩ := h
  exact f.elim
section
variable {σ : L2.St} {H : Hp} {Q : VK} {K : PySem.W.Frag}
theorem d_makeS {C : Addr} {sp : Sp} {dvs : List V} {E : L2.St → XK} {t : TA} (h : t σ H fun vs H1 => ∀ x dx, H1 x = none → H1 dx = none → dx ≠ x →
  sp (.ref x :: (vs ++ dvs)) (upd (upd H1 dx (.own x)) x (.ins C dx [])) (fun v H2 => v = .non ∧ Q (.ref x) H2) (E σ)) : tMakeS C sp dvs E t σ H Q := h
theorem d_make {C : Addr} {sp : Sp} {dvs : List V} {E : XK} {t : TA} (h : t σ H fun vs H1 => ∀ x dx, H1 x = none → H1 dx = none → dx ≠ x →
  sp (.ref x :: (vs ++ dvs)) (upd (upd H1 dx (.own x)) x (.ins C dx [])) (fun v H2 => v = .non ∧ Q (.ref x) H2) E) : tMake C sp dvs E t σ H Q := h
end
end OQ
namespace OQ
open PySem L2
theorem d_isX {K : PySem.W.Frag} {D a : Addr} {cls : Value} {d : Option Addr} {H : Hp} {Q : VK} {c : V} {cv : Value} {b : Bool} {dd : Addr} {fs : List (Str × V)} (e1 : cls = .ref D) (e2 : d = some dd) (hx : H dd = some (.xd fs)) (hc : ClsV c cv)
    (e : PySem.W.kitOne K (.ref D) cv = some b) (h : Q (.bl b) H) : rIsX K D a cls d [.ref a, c] H Q := ⟨c, cv, b, dd, fs, rfl, e1, e2, hx, hc, e, h⟩
end OQ

/-! ### readings: chained comparisons -/
namespace RD
open PySem L2
theorem d_chain {r r' : R2} {ta tb tc : TE} {σ : L2.St} {H : Hp} {Q : VK} (h : ta σ H fun x H1 => tb σ H1 fun y H2 => r x y H2 fun z H3 => ∃ k, z = .bl k ∧ (if k = true then tc σ H3 fun u H4 => r' y u H4 Q else Q (.bl false) H3)) : tChain r r' ta tb tc σ H Q := h
variable {σ : L2.St} {H : Hp}
theorem f_tup {K : PySem.W.Frag} {a : Addr} {xs : List V} {g : TG} {tb : TS} {nx : L2.St → Hp → Prop} {rt : VK} (Pv : Nat → L2.St → Hp → Prop) (h0 : Pv 0 σ H) (hl : ∀ i σ H, i ≤ xs.length → Pv i σ H → SqT K H a xs)
    (hs : ∀ i x σ H, xs[i]? = some x → Pv i σ H → g x σ H fun σ2 H2 => tb ⟨Pv (i + 1), rt, nx, Pv (i + 1)⟩ σ2 H2) (hd : ∀ σ H, Pv xs.length σ H → nx σ H) :
    ∃ W : Nat → Nat → L2.St → Hp → Prop, (∃ m, W 0 m σ H) ∧ ∀ i m σ H, W i m σ H → ((Itt K a).stop i H ∧ nx σ H) ∨ ((Itt K a).go i H ∧ ∃ N : L2.St → Hp → Prop, (∀ σ' H', N σ' H' → ∃ m', m' < m ∧ W (i + 1) m' σ' H') ∧
      ∀ x H', (Itt K a).yld i H x H' → g x σ H' fun σ2 H2 => tb ⟨N, rt, nx, N⟩ σ2 H2) := for_tup (D := ⟨nx, rt, fun _ _ => False, fun _ _ => False⟩) Pv h0 hl hs hd
end RD

/-! ### a range as a value, and for over it -/
namespace OQ
open PySem L2 PySem.Spec PyProof.Rows
section
variable {X : Cx} {tg : Expr} {e : Expr} {te : TE}
theorem cr_range1 : CallR X (.type "range") (fun vs H Q => ∃ j : Int, vs = [V.int j] ∧ ∀ p, H p = none → Q (.ref p) (upd H p (.rng 0 j))) := by
  rintro pins s σ H vs us Q I r ⟨j, rfl, wish⟩
  cases r with
  | cons one rest =>
    cases rest
    obtain ⟨tok, rfl⟩ := one
    have free := I.hok.fresh (Nat.le_refl s.heap.objs.size)
    exact call_range_1 ⟨.ref s.heap.objs.size, _, I.laid (t' := s.toks + 1 + 1) (o := .rng 0 j) (fun _ _ z => Heap.get?_push_of_some _ z) (Nat.le_refl _) ⟨s.toks, tok, s.toks + 1, Heap.get?_push_size _ rfl⟩, rfl, wish _ free⟩
/-- for .. in e, e a range from lo to hi -/
def iRngV (te : TE) : TI := fun σ H R => te σ H fun x H1 => ∃ (a : Addr) (lo hi : Int), x = .ref a ∧ H1 a = some (.rng lo hi) ∧ (-(2 ^ 62) ≤ lo ∧ lo < 2 ^ 62 ∧ -(2 ^ 62) ≤ hi ∧ hi < 2 ^ 62) ∧ R (Itr lo (hi - lo).toNat) H1
theorem pi_rngV (he : PE X e te) : PI X tg e (iRngV te) := by
  refine ⟨fun pins s σ H R I asked => thn (he.run pins s σ H _ I asked) fun v s1 ⟨x, H1, I1, rx, a, lo, hi, ex, ea, ⟨b1, b2, b3, b4⟩, go⟩ => ?_⟩
  subst ex
  obtain rfl : v = Value.ref a := rx
  obtain ⟨t, u, w, there⟩ := I1.hok a _ ea
  have isr : IsRange s1.heap a lo hi 1 t u w := there
  have len : (((hi - lo).toNat : Nat) : Int) = Builtin.Range.rangeSize lo hi 1 := by rw [rangeSize_one]; split <;> omega
  refine wpAny_pyIter_range isr (small_one b1 b2 b3 b4) ⟨s1.heap.objs.size, [s1.heap.objs.size], _, _, H1, rfl, I1.kept (t' := s1.toks) fun _ _ z => Heap.get?_push_of_some _ z, turn_range _ lo (hi - lo).toNat, ?_, fun b hb => ?_, go⟩
  · show IsRangeIter _ _ (lo + ((0 : Nat) : Int) * 1) ((((hi - lo).toNat : Nat) : Int) - ((0 : Nat) : Int)) 1
    rw [len]
    simp only [Int.natCast_zero, Int.zero_mul, Int.add_zero, Int.sub_zero]
    exact Heap.get?_push_size _ rfl
  · obtain rfl : b = s1.heap.objs.size := by simpa using hb
    exact I1.fpOk (Nat.le_refl _) (I1.hok.fresh (Nat.le_refl _))
end
end OQ

/-! ### rules whose reading names K itself (for the blocks of comprehensions) -/
namespace OQ
open PySem L2 PySem.Spec PyProof.Rows
section
variable {X : Cx} {e : Expr} {ta : TE} {f : Str} {pos : Pos}
theorem ixL (K : PySem.W.Frag) (h : X.K = K := by rfl) : IxR X (rIxL K) := h ▸ ix_list
theorem ixT (K : PySem.W.Frag) (h : X.K = K := by rfl) : IxR X (rIxT K) := h ▸ ix_tup
theorem fldK (K : PySem.W.Frag) (he : PE X e ta) (h : X.K = K := by rfl) (hb : attributeBase e f X.env (eval e X.env) = eval e X.env := by rfl) : PE X (.Attribute e f pos) (tFld K ta f) := h ▸ pe_fld he hb
def rTupK (K : PySem.W.Frag) : List V → Hp → VK → Prop := fun xs H Q => ∃ p ys, xs = [.ref p] ∧ ((SqL K H p ys ∧ ∀ l, H l = none → Q (.ref l) (upd H l (.tup ys))) ∨ (SqT K H p ys ∧ Q (.ref p) H))
theorem tupK (K : PySem.W.Frag) (h : X.K = K := by rfl) : CallR X (.type "tuple") (rTupK K) := h ▸ call_tuple_of
end
end OQ

/-! ### own errors as values: made, their fields read, isinstance of them -/
namespace OQ
open PySem L2 PySem.Spec PyProof.Rows
section
variable {X : Cx} {CX : CXT} {x n : Str} {C fI : Addr} {k : Nat} {fd : FuncData} {ps : List Str} {sp : Sp} {ds : List Value} {dvs : List V} {p pos : Pos} {e : Expr} {es : List Expr} {ta : TA} {te : TE} {E : XK}
/-- C(e, ..), C an own error: it stands as it was made -/
def tMkV (C : Addr) (sp : Sp) (dvs : List V) (E : XK) (ta : TA) : TE := fun σ H Q => ta σ H fun vs H1 => ∀ a, H1 a = none → sp (.ref a :: (vs ++ dvs)) (upd H1 a (exo a C none)) (fun v H2 => v = .non ∧ Q (.ref a) H2) E
/-- a new error: its place, and the state with it -/
theorem newErr {pins : List (Addr × Obj)} {st : Shared} {σ : L2.St} {H : Hp} (us : List Value) (D : Addr) (J : Inv X pins σ H st) :
    H (st.heap.objs.size + 1) = none ∧ Inv X pins σ (upd H (st.heap.objs.size + 1) (exo (st.heap.objs.size + 1) D none)) { st with heap := (st.heap.push (PySem.W.kdv_tup us)).push (PySem.HandSPX.excO D st.heap.objs.size) } := by
  have le := Nat.le_succ st.heap.objs.size
  refine ⟨J.hok.fresh le, J.laid (t' := st.toks) (fun _ _ z => Heap.get?_push_of_some _ (Heap.get?_push_of_some _ z)) le (exo_ok (t1 := st.heap.objs.size) ?_)⟩
  have z := Heap.get?_push_size (h := st.heap.push (PySem.W.kdv_tup us)) (o := PySem.HandSPX.excO D st.heap.objs.size) rfl
  have y : (st.heap.push (PySem.W.kdv_tup us)).objs.size = st.heap.objs.size + 1 := by simp [Heap.push]
  rw [y] at z
  exact z
theorem run_mkV {pins : List (Addr × Obj)} {st : Shared} {σ : L2.St} {H1 : Hp} {Q : VK} {vs : List V} {us : List Value} (T : OexC X.K C) (iC : PySem.W.findIn X.K (.ref C) "__init__" = some (some (.ref fI))) (tI : PySem.W.typeIn X.K (.ref fI) = some (.type "function"))
    (F1 : FnOk X.prog X.w X.K X.mg X.base CX k fI fd ps sp) (hr : Room (k + 1) X.A) (hb : Binds X.K fd ps ds) (hd : Vals dvs ds) (hx : Passes CX X E) (few : ps.length ≤ 100) (J : Inv X pins σ H1 st) (rv : Vals vs us)
    (wish : ∀ a, H1 a = none → sp (.ref a :: (vs ++ dvs)) (upd H1 a (exo a C none)) (fun v H2 => v = .non ∧ Q (.ref a) H2) E) : wpAny (model X.prog X.w) X.A (call (.ref C) us) (EP X pins σ Q) X.xe st := by
  obtain ⟨free, J2⟩ := newErr us C J
  have asked := wish _ free
  have all : Vals (V.ref (st.heap.objs.size + 1) :: (vs ++ dvs)) (Value.ref (st.heap.objs.size + 1) :: (us ++ ds)) := .cons rfl (rv.append hd)
  have many : (Value.ref (st.heap.objs.size + 1) :: us ++ ds).length = ps.length := (all.length.symm).trans (F1.len _ _ _ _ asked)
  have short : us.length ≤ sizeLine := by
    have q : (Value.ref (st.heap.objs.size + 1) :: us ++ ds).length ≤ 100 := many ▸ few
    simp only [List.cons_append, List.length_cons, List.length_append] at q
    exact Nat.le_trans (show us.length ≤ 100 by omega) (by decide)
  have body := F1.run _ X.stack _ _ ⟨Value.ref (st.heap.objs.size + 1) :: us, []⟩ _ _ _ E (hr.make C us []) (J2.env0.make C us []) (hb _ (_ :: us) J2.kIn many) all asked
  obtain ⟨_, _, _, _, bm, _, _, _, _, _, _, _, _, _, _, look, good⟩ := T.cls
  refine wpAny_call (PySem.HandSPX.call_own F.excBase_ValueError (fun _ => PySem.HandSPX.refsVE_contains _ bm good) (J.kIn _ _ look) (PySem.W.looks_findIn J.kIn iC) (fun v => PySem.W.bind_fn J.kIn v tI) short (codeAny_mono body ?_))
  rintro (er | fl) s2 post
  · exact hx pins σ _ _ er s2 J2 post
  · match fl, post with
    | .ret u, post =>
      obtain ⟨v, H2, J3, ru, e, q⟩ := J2.after post
      subst e
      exact ⟨ru, V.ref (st.heap.objs.size + 1), H2, J3, rfl, q⟩
theorem pe_mkV (T : OexC X.K C) (iC : PySem.W.findIn X.K (.ref C) "__init__" = some (some (.ref fI))) (tI : PySem.W.typeIn X.K (.ref fI) = some (.type "function"))
    (F1 : FnOk X.prog X.w X.K X.mg X.base CX k fI fd ps sp) (hr : Room (k + 1) X.A) (hb : Binds X.K fd ps ds) (hd : Vals dvs ds) (hx : Passes CX X E) (hsz : ps.length ≤ 100) (hg : Gl X x) (hm : X.mg x = some (.ref C)) (ha : PA X (e :: es) ta)
    (hdb : (x == ("__debug__" : Str)) = false := by decide) (he : starEach (e :: es) X.env = (false, eval e X.env) :: starEach es X.env := by rfl) (hpl : (backTo pos (starEach es X.env)).any (·.1) = false := by rfl) :
    PE X (.Call (.Name x p) (e :: es) [] pos) (tMkV C sp dvs E ta) := by
  refine ⟨fun pins s σ H Q I h => ?_⟩
  refine wpAny_Call_Name_kw (ld_glob I hg hm ?_ hdb)
  refine PySem.W.callWith_K (h₀ := X.base) I.ok.mod.kin T.kC (thn (ha.run pos pins s σ H _ I h) fun us s1 ⟨vs, H1, I1, r1, q1⟩ => ⟨I1.kIn, ?_⟩) he hpl
  exact run_mkV T iC tI F1 hr hb hd hx hsz I1 r1 q1
theorem pe_mkV0 (T : OexC X.K C) (iC : PySem.W.findIn X.K (.ref C) "__init__" = some (some (.ref fI))) (tI : PySem.W.typeIn X.K (.ref fI) = some (.type "function"))
    (F1 : FnOk X.prog X.w X.K X.mg X.base CX k fI fd ps sp) (hr : Room (k + 1) X.A) (hb : Binds X.K fd ps ds) (hd : Vals dvs ds) (hx : Passes CX X E) (hsz : ps.length ≤ 100) (hg : Gl X x) (hm : X.mg x = some (.ref C))
    (hdb : (x == ("__debug__" : Str)) = false := by decide) : PE X (.Call (.Name x p) [] [] pos) (tMkV C sp dvs E tNil) := by
  refine ⟨fun pins s σ H Q I h => ?_⟩
  refine wpAny_Call_Name_kw (ld_glob I hg hm ?_ hdb)
  exact PySem.W.callWith_K0 I.kIn T.kC (run_mkV (us := []) (vs := []) T iC tI F1 hr hb hd hx hsz I .nil h)
/-- an own error at a, with its fields -/
def ErrAt (H : Hp) (a C : Addr) (fs : List (Str × V)) : Prop := ∃ d, H a = some (exo a C (some d)) ∧ H d = some (exd d fs)
theorem errInst {pins : List (Addr × Obj)} {s : Shared} {σ : L2.St} {H : Hp} {a : Addr} {fs : List (Str × V)} (I : Inv X pins σ H s) (h : ErrAt H a C fs) :
    ∃ (oe : Obj) (od : Obj) (mA : Str → Option Value), PySem.W.InstAt s.heap a oe C (some od) ∧ (∀ f, RelO (fs.lookup f) (mA f)) ∧ ∀ n, PySem.W.lookIn n od = some (mA n) := by
  obtain ⟨d, e1, e2⟩ := h
  obtain ⟨t1, ho⟩ := exo_at I.hok e1
  obtain ⟨mA, hns, rel⟩ := exd_at I.hok e2
  obtain ⟨od, hd, hl⟩ := lookIn_ns hns
  exact ⟨_, od, mA, ⟨ho, rfl, rfl, hd⟩, rel, hl⟩
/-- e.f -/
def tVf (K : PySem.W.Frag) (n : Str) (te : TE) : TE := fun σ H Q => te σ H fun x H1 => ∃ (a C : Addr) (fs : List (Str × V)) (v : V), x = .ref a ∧ ErrAt H1 a C fs ∧ XfC K C ∧ PySem.W.findIn K (.ref C) n = some none ∧ fs.lookup n = some v ∧ Q v H1
theorem pe_vf (he : PE X e te) (hb : attributeBase e n X.env (eval e X.env) = eval e X.env := by rfl) : PE X (.Attribute e n pos) (tVf X.K n te) := by
  refine ⟨fun pins s σ H Q I h => ?_⟩
  refine attr_of hb (thn (he.run pins s σ H _ I h) fun u s1 hh => ?_)
  obtain ⟨x, H1, I1, rx, a, D, fs, v, ex, er, T, hno, l, q⟩ := hh
  subst ex
  obtain rfl : u = Value.ref a := rx
  obtain ⟨oe, od, mA, J, hr, hl⟩ := errInst I1 er
  obtain ⟨u, hu, ru⟩ := RelO.some_of (v := v) (o := mA n) (by rw [← l]; exact hr n)
  exact HandSPX.exc_get I1.kIn J T.ga T.gg T.exC (PySem.W.findObj_own T.hdC hno rfl (by rw [hl, hu])) (handed_of ru) ⟨v, H1, I1.tok _, ru, q⟩
/-- isinstance(x, c), x such an error -/
def rIsV (K : PySem.W.Frag) : List V → Hp → VK → Prop := fun xs H Q => ∃ (a D : Addr) (fs : List (Str × V)) (c : V) (cv : Value) (b : Bool), xs = [.ref a, c] ∧ ErrAt H a D fs ∧ ExcC K D ∧ ClsV c cv ∧ PySem.W.kitOne K (.ref D) cv = some b ∧ Q (.bl b) H
theorem call_isV : CallR X (.builtin "isinstance") (rIsV X.K) := by
  rintro pins s σ H xs us Q I r ⟨a, D, fs, c, cv, b, rfl, er, C, hc, e, q⟩
  cases r with
  | cons rx rr => cases rr with
    | cons rt rr =>
      cases rr
      cases rx
      have ec := hc.eq rt
      subst ec
      obtain ⟨oe, od, mA, J, _, _⟩ := errInst I er
      have hcl : (PySem.W.clsIn X.K D).isSome = true := by
        obtain ⟨cd, h1, _⟩ := PySem.W.any_some C.hd
        rw [h1]; rfl
      exact PySem.W.kia_one (PySem.W.kitx_exc hcl C.hg C.hk C.hs C.ha C.hn C.ht C.hm) I.kIn J e (fun z => Value.noConfusion z) fun tk => ⟨.bl b, H, I.kept (t' := tk) fun _ _ z => z, rfl, q⟩
end
end OQ

/-! ### own errors: what is known of their classes -/
namespace OQ
open PySem L2 PySem.Spec PyProof.Rows
structure ErC (K : PySem.W.Frag) (W fI C : Addr) : Prop where
  oex : OexC K C
  ini : PySem.W.findIn K (.ref C) "__init__" = some (some (.ref fI))
  va : PySem.W.findIn K (.ref C) "value" = some none
  xf : XfC K C
  exi : ExcC K C
  mro : ∃ cd, PySem.W.clsIn K C = some cd ∧ cd.mro = [.ref C, .ref W, .type "ValueError", .type "Exception", .type "BaseException", .type "object"]
theorem kit_er {K : PySem.W.Frag} {W f g C D : Addr} (a : ErC K W f C) (b : ErC K W g D) (n : D ≠ W) : PySem.W.kitOne K (.ref C) (.ref D) = some (decide (C = D)) := by
  by_cases h : C = D
  · subst h
    unfold PySem.W.kitOne
    rw [if_pos (by simp), decide_eq_true rfl]
  · have hb : ((Value.ref C : Value) == Value.ref D) = false := Bool.eq_false_iff.mpr fun q => h (by cases beq_iff_eq.mp q; rfl)
    unfold PySem.W.kitOne
    rw [if_neg (by rw [hb]; decide), decide_eq_false h]
    obtain ⟨cd, e1, _⟩ := b.mro
    obtain ⟨cc, e2, e3⟩ := a.mro
    have t : ((PySem.W.clsIn K D).isSome && PySem.W.typeIn K (.ref D) == some (.type "type")) = true := by rw [e1, b.oex.tyC] <;> rfl
    show (if ((PySem.W.clsIn K D).isSome && PySem.W.typeIn K (.ref D) == some (.type "type")) = true then PySem.W.mroIn K C (.ref D) else none) = some false
    rw [if_pos t]
    unfold PySem.W.mroIn
    rw [e2]
    show (if cc.mro.isEmpty = true then none else some (cc.mro.contains (.ref D))) = some false
    rw [e3, if_neg (by simp)]
    congr 1
    refine Bool.eq_false_iff.mpr fun q => ?_
    have m := List.contains_iff_mem.mp q
    simp only [List.mem_cons, List.not_mem_nil, or_false] at m
    rcases m with m | m | m | m | m | m
    · cases m; exact h rfl
    · cases m; exact n rfl
    all_goals cases m
end OQ

/-! ### C.f(..), C an own class of the text: the def itself -/
namespace OQ
open PySem L2 PySem.Spec PyProof.Rows
/-- C.f read off the class: the def at g -/
structure CDef (K : PySem.W.Frag) (C g : Addr) (n : Str) : Prop where
  rd : PySem.W.readsIn K C (.type "type") = true
  ga : PySem.W.specialIn K (.ref C) "__getattribute__" = some (some (.builtin "type.__getattribute__"))
  val : PySem.W.findCls K (.ref C) (.type "type") n = some (.val (.ref g))
  kp : PySem.W.keepIn K (.ref g) = true
section
variable {X : Cx} {CX : CXT} {n : Str} {C g : Addr} {k : Nat} {fd : FuncData} {ps : List Str} {sp : Sp} {o e : Expr} {es : List Expr} {to : TE} {t : TA} {E : XK} {pos apos : Pos} {pl : Sem Bool}
def tCDef (C : Addr) (sp : Sp) (E : XK) (to : TE) (t : TA) : TE := fun σ H Q => to σ H fun x H1 => x = .ref C ∧ t σ H1 fun vs H2 => sp vs H2 Q E
theorem pe_cdef (ho : PE X o to) (c : CDef X.K C g n) (F : FnOk X.prog X.w X.K X.mg X.base CX k g fd ps sp) (hr : Room k X.A) (hb : Binds X.K fd ps []) (hx : Passes CX X E) (ha : PA X (e :: es) t)
    (ht : eval (.Call (.Attribute o n apos) (e :: es) [] pos) X.env = (do
      let ov ← eval o X.env
      standAt apos.atName
      let (f, first) ← holding [ov] (getMethod ov n pl)
      callWith pos f first (backTo pos (starEach (e :: es) X.env)) (backToKw pos (keywordEach [] X.env))) := by rfl)
    (he : starEach (e :: es) X.env = (false, eval e X.env) :: starEach es X.env := by rfl) (hpl : (backTo pos (starEach es X.env)).any (·.1) = false := by rfl) :
    PE X (.Call (.Attribute o n apos) (e :: es) [] pos) (tCDef C sp E to t) := by
  refine ⟨fun pins s σ H Q I h => ?_⟩
  refine PySem.W.methodCall_KW (pl := pl) (thn (ho.run pins s σ H _ I h) fun u s1 ⟨x, H1, I1, rx, ex, q⟩ => ?_) ht
  subst ex
  obtain rfl : u = Value.ref C := rx
  refine PySem.W.method_cls I1.kIn c.ga (PySem.W.cls_value I1.kIn c.rd c.val rfl ?_)
  show wpAny _ _ (callWith pos (Value.ref g) [] (backTo pos (starEach (e :: es) X.env)) []) _ _ _
  refine PySem.W.callWith_K (h₀ := X.base) I1.ok.mod.kin c.kp (thn (ha.run pos pins _ σ H1 _ (I1.tok _) q) fun us s2 ⟨vs, H2, I2, rv, q2⟩ => ⟨I2.kIn, ?_⟩) he hpl
  exact run_at (A := X.A) rfl hr F hb hx I2 rv q2
end
end OQ

/-! ### own errors: of which classes above -/
namespace OQ
open PySem L2 PySem.Spec PyProof.Rows
theorem mro_has {K : PySem.W.Frag} {W f C : Addr} (a : ErC K W f C) {B : Value} (h : B ∈ [Value.ref C, .ref W, .type "ValueError", .type "Exception", .type "BaseException", .type "object"]) : PySem.W.mroIn K C B = some true := by
  obtain ⟨cc, e1, e2⟩ := a.mro
  unfold PySem.W.mroIn
  rw [e1]
  show (if cc.mro.isEmpty = true then none else some (cc.mro.contains B)) = some true
  rw [e2, if_neg (by simp), List.contains_iff_mem.mpr h]
theorem kit_eV {K : PySem.W.Frag} {W f C : Addr} (a : ErC K W f C) : PySem.W.kitOne K (.ref C) (.type "ValueError") = some true := by
  unfold PySem.W.kitOne
  rw [if_neg (by simp)]
  show (if PySem.W.kitMeta "ValueError" = true then PySem.W.mroIn K C (.type "ValueError") else none) = some true
  rw [if_pos (by decide +kernel), mro_has a (by simp)]
theorem kit_eW {K : PySem.W.Frag} {W f C : Addr} (a : ErC K W f C) (hc : PySem.W.isClsIn K W = true) (ht : PySem.W.typeIn K (.ref W) = some (.type "type")) : PySem.W.kitOne K (.ref C) (.ref W) = some true := by
  by_cases n : (Value.ref C == Value.ref W) = true
  · unfold PySem.W.kitOne
    rw [if_pos n]
  · unfold PySem.W.kitOne
    rw [if_neg n]
    have h : ((PySem.W.clsIn K W).isSome && PySem.W.typeIn K (.ref W) == some (.type "type")) = true := by
      rw [show (PySem.W.clsIn K W).isSome = true from hc, ht]; rfl
    show (if ((PySem.W.clsIn K W).isSome && PySem.W.typeIn K (.ref W) == some (.type "type")) = true then PySem.W.mroIn K C (.ref W) else none) = some true
    rw [if_pos h, mro_has a (by simp)]
end OQ

/-! ### all that is asked of an own error's class, in one look -/
namespace OQ
open PySem L2 PySem.Spec PyProof.Rows
/-- the classes above such a one -/
def upVE (C W : Addr) : List Value := [.ref C, .ref W, .type "ValueError", .type "Exception", .type "BaseException", .type "object"]
def shpB (W C : Addr) : Option Obj → Bool
  | some ⟨.type "type", _, .cls k, z⟩ => k.hasDict && (!k.hasDel && (decide (k.mro = upVE C W) && decide (z.size = 6 ∧ z[4]? = some (some (.builtin "ValueError.__new__")))))
  | _ => false
theorem six {z : Array (Option Value)} {u : Option Value} (n : z.size = 6) (e : z[4]? = some u) : ∃ a b c d f, z = #[a, b, c, d, u, f] := by
  obtain ⟨l⟩ := z
  match l, n, e with
  | [a, b, c, d, v, f], _, e => exact ⟨a, b, c, d, f, by cases e; rfl⟩
def fndB (K : PySem.W.Frag) (C : Addr) (n : Str) (v : Option Value) : Bool := decide (PySem.W.findIn K (.ref C) n = some v)
def erB (K : PySem.W.Frag) (W f C : Addr) : Bool :=
  shpB W C (K.lookup C) && (fndB K C "__setattr__" (some (.builtin "object.__setattr__")) && (decide (PySem.W.subIn K (.ref C) (.type "BaseException") = some true) && (decide (PySem.W.typeIn K (.ref C) = some (.type "type")) &&
    (PySem.W.keepIn K (.ref C) && (fndB K C "__init__" (some (.ref f)) && (fndB K C "value" none && (fndB K C "__getattribute__" (some (.builtin "BaseException.__getattribute__")) && (fndB K C "__getattr__" none &&
      (PySem.W.hasDictIn K C && fndB K C "__class__" (some (.builtin "object.__class__")))))))))))
/-- f of all of them -/
def allB {α : Type} (f : α → Bool) : List α → Bool
  | [] => true
  | x :: r => f x && allB f r
theorem allB_at {α : Type} {f : α → Bool} : ∀ {l : List α}, allB f l = true → ∀ x ∈ l, f x = true
  | [], _, _, m => nomatch m
  | y :: r, h, x, m => by
    have q : (f y && allB f r) = true := h
    rw [Bool.and_eq_true] at q
    rcases List.mem_cons.mp m with e | m
    · rw [e]; exact q.1
    · exact allB_at q.2 x m
theorem two {a b : Bool} (h : (a && b) = true) : a = true ∧ b = true := by simpa using h
theorem erB_ok {K : PySem.W.Frag} {W f C : Addr} (hn : PySem.W.specialIn K (.builtin "object.__class__") "__get__" = some (some (.builtin "getset_descriptor.__get__"))) (ht : PySem.W.takesIn K (.builtin "object.__class__") = some true)
    (h : erB K W f C = true) : ErC K W f C := by
  obtain ⟨c1, h⟩ := two h
  obtain ⟨c2, h⟩ := two h
  obtain ⟨c3, h⟩ := two h
  obtain ⟨c4, h⟩ := two h
  obtain ⟨c5, h⟩ := two h
  obtain ⟨c6, h⟩ := two h
  obtain ⟨c7, h⟩ := two h
  obtain ⟨c8, h⟩ := two h
  obtain ⟨c9, h⟩ := two h
  obtain ⟨c10, c11⟩ := two h
  have F : ∀ {n : Str} {v : Option Value}, fndB K C n v = true → PySem.W.findIn K (.ref C) n = some v := fun q => of_decide_eq_true q
  have sub := of_decide_eq_true c3
  cases e : K.lookup C with
  | none => rw [e] at c1; cases c1
  | some o =>
    rw [e] at c1
    unfold shpB at c1
    split at c1
    · rename_i dd k z eo
      have eo' := Option.some.inj eo
      subst eo'
      obtain ⟨d1, c1⟩ := two c1
      obtain ⟨d2, c1⟩ := two c1
      obtain ⟨d3, d4⟩ := two c1
      obtain ⟨s1, s2⟩ := of_decide_eq_true d4
      obtain ⟨k0, k1, k2, k3, k5, rfl⟩ := six s1 s2
      have mr := of_decide_eq_true d3
      obtain ⟨nm, bs, mro, ns, qn, hdct, sn, sub2, ab, col, hdel⟩ := k
      simp only [Bool.not_eq_true'] at d1 d2 mr
      subst d1 d2 mr
      have cl : PySem.W.clsIn K C = some { name := nm, bases := bs, mro := upVE C W, ns := ns, qualname := qn, hasDict := true, slotNames := sn, subclasses := sub2, abstract := ab, collection := col, hasDel := false } := by
        unfold PySem.W.clsIn
        rw [e]
      have up : PySem.W.mroIn K C (.type "object") = some true := by
        unfold PySem.W.mroIn
        rw [cl]
        show (if (upVE C W).isEmpty = true then none else some ((upVE C W).contains (.type "object"))) = some true
        rw [if_neg (by simp [upVE]), List.contains_iff_mem.mpr (by simp [upVE])]
      exact ⟨⟨⟨nm, qn, ns, bs, [.ref W, .type "ValueError", .type "Exception", .type "BaseException", .type "object"], sn, sub2, ab, col, dd, k0, k1, k2, k3, k5, e, by rfl⟩, F c2, sub, of_decide_eq_true c4, c5⟩, F c6, F c7,
        ⟨F c8, F c9, sub, c10⟩, ⟨F c8, F c9, sub, c10, F c11, hn, ht, up⟩, ⟨_, cl, rfl⟩⟩
    · cases c1
end OQ
namespace OQ
open PySem L2 PySem.Spec PyProof.Rows
theorem ErC.cls {K : PySem.W.Frag} {W f C : Addr} (a : ErC K W f C) : PySem.W.isClsIn K C = true := by
  obtain ⟨cc, e, _⟩ := a.mro
  show (PySem.W.clsIn K C).isSome = true
  rw [e]; rfl
/-- what «except D» says of an error of C -/
theorem exm_is {K : PySem.W.Frag} {C D : Addr} {b : Bool} (h1 : PySem.W.subIn K (.ref D) (.type "BaseException") = some true) (h2 : PySem.W.isClsIn K D = true) (h3 : PySem.W.typeIn K (.ref D) = some (.type "type")) (h : PySem.W.mroIn K C (.ref D) = some b) :
    PySem.W.exmOne K (.ref C) (.ref D) = some b := by
  unfold PySem.W.exmOne
  rw [h1, if_pos (by rfl)]
  have q : ((PySem.W.clsIn K D).isSome && PySem.W.typeIn K (.ref D) == some (.type "type")) = true := by
    rw [show (PySem.W.clsIn K D).isSome = true from h2, h3]; rfl
  unfold PySem.W.kitCls
  exact (if_pos q).trans h
theorem mro_er {K : PySem.W.Frag} {W f C : Addr} (a : ErC K W f C) {D : Addr} (n : D ≠ W) : PySem.W.mroIn K C (.ref D) = some (decide (C = D)) := by
  by_cases h : C = D
  · subst h; rw [mro_has a (by simp), decide_eq_true rfl]
  · obtain ⟨cc, e1, e2⟩ := a.mro
    unfold PySem.W.mroIn
    rw [e1, decide_eq_false h]
    show (if cc.mro.isEmpty = true then none else some (cc.mro.contains (.ref D))) = some false
    rw [e2, if_neg (by simp)]
    refine congrArg some (Bool.eq_false_iff.mpr fun q => ?_)
    have m := List.contains_iff_mem.mp q
    simp only [List.mem_cons, Value.ref.injEq, reduceCtorEq, List.not_mem_nil, or_false] at m
    exact m.elim (fun z => h z.symm) n
theorem exm_er {K : PySem.W.Frag} {W f g C D : Addr} (a : ErC K W f C) (b : ErC K W g D) (n : D ≠ W) : PySem.W.exmOne K (.ref C) (.ref D) = some (decide (C = D)) := exm_is b.oex.exC b.cls b.oex.tyC (mro_er a n)
theorem exm_eW {K : PySem.W.Frag} {W f C : Addr} (a : ErC K W f C) (h1 : PySem.W.subIn K (.ref W) (.type "BaseException") = some true) (h2 : PySem.W.isClsIn K W = true) (h3 : PySem.W.typeIn K (.ref W) = some (.type "type")) :
    PySem.W.exmOne K (.ref C) (.ref W) = some true := exm_is h1 h2 h3 (mro_has a (by simp))
end OQ

/-! ### the head by one run: facts by names, and one more look -/
namespace OQ
open PySem L2 PySem.Spec PyProof.Rows
/-- what of the heap is looked at: what the module's names reach, and the host's own names -/
def frB (n : Nat) (g : Addr → Option Obj) : PySem.W.Frag := He.frG g (cStatics :: He.asD g n)
def hookB (n : Nat) (fa : List He.Fa) (fn : List He.DefD) (ex : PySem.W.Frag → Bool) : PySem.W.Hook where
  α := He.AlD × Bool
  obs := fun s => (He.obsD fa fn (frB n s.heap.get?), ex (frB n s.heap.get?))
  val := fun _ => (He.valD fn, true)
  says := fun _ h => ∃ K : PySem.W.Frag, K.In h ∧ He.SaysD fa fn K ∧ ex K = true
  of := fun _ _ e => ⟨_, He.frG_in, congrArg Prod.fst e, congrArg Prod.snd e⟩
  keeps := fun _ _ _ ⟨K, hK, c, x⟩ k => ⟨K, PySem.W.Frag.In.keeps hK k, c, x⟩
def obB (n : Nat) (fa : List He.Fa) (fn : List He.DefD) (ex : PySem.W.Frag → Bool) (s : PySem.W.SharedT) : He.AlD × Bool :=
  (He.obsD fa fn (frB n (HandSHeadRun.getT s)), ex (frB n (HandSHeadRun.getT s)))
theorem obB_eq (n : Nat) (fa : List He.Fa) (fn : List He.DefD) (ex : PySem.W.Frag → Bool) (s : PySem.W.SharedT) : obB n fa fn ex s = (hookB n fa fn ex).obs s.abs := by
  have e : HandSHeadRun.getT s = s.abs.heap.get? := funext (HandSHeadRun.getT_eq s)
  unfold obB
  rw [e]
  rfl
theorem fun_of {K : PySem.W.Frag} {x q : Str} {st : Stmt} {f : Addr} {fd : FuncData} (F : FunD K x q (defArgs st) (defBody st) (defScope st) [] [] f fd) : Fun K x q st f fd := by
  obtain ⟨oc, od, dV, kV, doc, pm, an, cd, ct, sl, e, look, code, df, _⟩ := F.ex
  rcases df with ⟨_, rfl⟩ | ⟨no, _⟩
  · exact ⟨⟨oc, od, kV, doc, pm, an, cd, ct, sl, e, look, code⟩, F.kp⟩
  · exact absurd rfl no
/-- v as an option's option -/
def isB (a : Option (Option Value)) (v : Option Value) : Bool := decide (a = some v)
theorem isB_ok {a : Option (Option Value)} {v : Option Value} (h : isB a v = true) : a = some v := of_decide_eq_true h
end OQ

open RD in
local macro_rules | `(tactic| walk_at "rd1") => `(tactic| with_reducible first
  | refine d_seq ?_ | refine d_asg ?_ | refine d_op ?_ | refine d_c ?_ | refine d_gname ?_ | refine d_ifS ?_ | refine d_test ?_ | refine d_bl ?_ | refine d_ret ?_ | refine d_next ?_ | refine d_drop ?_
  | refine d_and ?_ | refine d_or ?_ | refine d_not ?_ | refine d_andV ?_ | refine d_orV ?_ | refine d_notV ?_ | refine d_if ?_ | refine d_tB ?_
  | refine d_rI0 ?_ | refine d_rU ?_ | refine d_eqI ?_ | refine d_neI ?_ | refine d_eqS ?_ | refine d_neS ?_ | refine d_eqB ?_ | refine d_isN ?_ | refine d_notN ?_ | refine d_intB ?_ | refine d_un ?_ | refine d_cb ?_ | refine d_cons ?_ | refine d_nil ?_ | refine d_lst ?_ | refine d_tup ?_ | refine d_call ?_
  | refine d_iList ?_ | refine d_rng1 ?_ | refine d_lc ?_ | refine d_yes ?_ | refine d_iteT ?_ | refine d_iteF ?_ | refine d_sl ?_ | refine d_noPart ?_ | refine d_part ?_ | refine d_exI ?_ | refine d_fld ?_ | refine d_iteNF ?_ | refine d_iteNT ?_ | refine d_gcd ?_ | refine d_sfld ?_ | refine d_for ?_ | refine OQ.d_makeS ?_ | refine OQ.d_make ?_ | refine OQ.d_methS ?_ | refine OQ.d_meth ?_ | refine d_gsub ?_ | refine d_par ?_ | refine d_int ?_ | refine d_abs ?_)
local macro_rules | `(tactic| walk_at "rdH") => `(tactic| first | assumption | exact L2.upd_same | (simp only [L2.upd_same, L2.upd_ne, ne_eq, not_false_eq_true, *]; done))
local macro_rules | `(tactic| walk_at "rdC") => `(tactic| first | assumption | (refine Or.inr ⟨?_, ?_⟩ <;> first | decide | omega) | (refine Or.inl ⟨?_, ?_⟩ <;> first | decide | omega) | (show (0 : Int) < _; first | assumption | decide | omega) | exact ⟨by decide, by decide +kernel⟩ | exact ⟨by decide, by decide, by decide +kernel⟩ | exact ⟨by assumption, by assumption⟩)
local macro_rules | `(tactic| walk_at "rd2") => `(tactic| first
  | refine RD.d_var rfl ?_
  | ((with_reducible (refine' RD.d_ixL ?hs ?e ?k)); (case hs => exact L2.SqL.of (by walk_at "rdH")); (case e => rfl))
  | ((with_reducible (refine' RD.d_ixT ?hs ?e ?k)); (case hs => exact L2.SqT.of (by walk_at "rdH")); (case e => rfl))
  | ((with_reducible (refine' RD.d_lenL ?hs ?k)); (case hs => exact L2.SqL.of (by walk_at "rdH")))
  | ((with_reducible (refine' RD.d_wipe ?e ?k)); (case e => rfl))
  | ((with_reducible (refine' RD.d_refL ?hs ?k)); (case hs => exact L2.SqL.of (by walk_at "rdH")))
  | ((with_reducible (refine' RD.d_lenT ?hs ?k)); (case hs => exact L2.SqT.of (by walk_at "rdH")))
  | ((with_reducible (refine' RD.d_lenS ?hs ?k)); (case hs => first | assumption | omega))
  | ((with_reducible (refine' RD.d_rI ?c ?k)); (case c => walk_at "rdC"))
  | ((with_reducible (refine' RD.d_setL ?hs ?e ?k)); (case hs => walk_at "rdH"); (case e => rfl)))
local macro_rules | `(tactic| walk_at "rd") => `(tactic| repeat (first | walk_at "rd1" | walk_at "rd2"))

/-! ### words, watches, links, floods -/
namespace WW
abbrev Wd := List Nat
def piece (W : Wd) (i j : Nat) : Wd := (W.drop i).take (j - i)
/-- the watch w stands at spot l of W -/
def Hit (W : Wd) (l : Nat) (w : Wd) : Prop := piece W l (l + w.length) = w
def Link (ws : List Wd) (W : Wd) (i j : Nat) : Prop := ∃ w ∈ ws, (Hit W i w ∧ j = i + w.length) ∨ (Hit W j w ∧ i = j + w.length)
instance {W : Wd} {l : Nat} {w : Wd} : Decidable (Hit W l w) := inferInstanceAs (Decidable (_ = _))
theorem Link.symm {ws : List Wd} {W : Wd} {i j : Nat} (h : Link ws W i j) : Link ws W j i := by
  obtain ⟨w, m, h⟩ := h
  exact ⟨w, m, h.symm⟩
theorem piece_length (W : Wd) (i j : Nat) : (piece W i j).length = min (j - i) (W.length - i) := by simp [piece]
theorem Hit.bound {W : Wd} {l : Nat} {w : Wd} (h : Hit W l w) (n : w ≠ []) : l + w.length ≤ W.length := by
  have e := congrArg List.length h
  rw [piece_length] at e
  have : 0 < w.length := List.length_pos_iff.mpr n
  omega
theorem Link.le {ws : List Wd} {W : Wd} {i j : Nat} (hw : ∀ w ∈ ws, w ≠ []) (h : Link ws W i j) : i ≤ W.length ∧ j ≤ W.length ∧ i ≠ j := by
  obtain ⟨w, m, ⟨h, e⟩ | ⟨h, e⟩⟩ := h
  · have := h.bound (hw w m)
    have : 0 < w.length := List.length_pos_iff.mpr (hw w m)
    omega
  · have := h.bound (hw w m)
    have : 0 < w.length := List.length_pos_iff.mpr (hw w m)
    omega
theorem Link.mono {ws vs : List Wd} {W : Wd} {i j : Nat} (s : ∀ w ∈ ws, w ∈ vs) (h : Link ws W i j) : Link vs W i j := by
  obtain ⟨w, m, h⟩ := h
  exact ⟨w, s w m, h⟩
/-- r steps lead from g to v -/
def Wk (E : Nat → Nat → Prop) (g : Nat) : Nat → Nat → Prop
  | 0, v => v = g
  | r + 1, v => ∃ u, Wk E g r u ∧ E u v
/-- r steps and no fewer -/
def Ds (E : Nat → Nat → Prop) (g r v : Nat) : Prop := Wk E g r v ∧ ∀ s, s < r → ¬ Wk E g s v
def Rc (E : Nat → Nat → Prop) (g v : Nat) : Prop := ∃ r, Wk E g r v
theorem Rc.ds {E : Nat → Nat → Prop} {g v : Nat} (h : Rc E g v) : ∃ r, Ds E g r v := by
  obtain ⟨r, h⟩ := h
  induction r using Nat.strongRecOn with
  | ind r ih =>
    by_cases c : ∃ s, s < r ∧ Wk E g s v
    · obtain ⟨s, hs, k⟩ := c
      exact ih s hs k
    · exact ⟨r, h, fun s hs k => c ⟨s, hs, k⟩⟩
theorem Ds.uniq {E : Nat → Nat → Prop} {g r s v : Nat} (h : Ds E g r v) (k : Ds E g s v) : r = s := by
  rcases Nat.lt_trichotomy r s with c | c | c
  · exact (k.2 r c h.1).elim
  · exact c
  · exact (h.2 s c k.1).elim
/-- a step further than r leads to r + 1, or to what is nearer -/
theorem Ds.step {E : Nat → Nat → Prop} {g r u v : Nat} (h : Ds E g r u) (e : E u v) : Ds E g (r + 1) v ∨ ∃ s, s ≤ r ∧ Ds E g s v := by
  obtain ⟨s, k⟩ := Rc.ds ⟨r + 1, u, h.1, e⟩
  by_cases c : s ≤ r
  · exact .inr ⟨s, c, k⟩
  · by_cases c2 : s = r + 1
    · subst c2; exact .inl k
    · exact (k.2 (r + 1) (by omega) ⟨u, h.1, e⟩).elim
theorem Ds.back {E : Nat → Nat → Prop} {g r v : Nat} (h : Ds E g (r + 1) v) : ∃ u, Ds E g r u ∧ E u v := by
  obtain ⟨⟨u, k, e⟩, n⟩ := h
  exact ⟨u, ⟨k, fun s hs z => n (s + 1) (by omega) ⟨u, z, e⟩⟩, e⟩
theorem Ds.down {E : Nat → Nat → Prop} {g : Nat} : ∀ {r v : Nat}, Ds E g r v → ∀ s, s ≤ r → ∃ u, Ds E g s u
  | r, v, h, s, hs => by
    by_cases c : s = r
    · subst c; exact ⟨v, h⟩
    · cases r with
      | zero => omega
      | succ r =>
        obtain ⟨u, k, _⟩ := h.back
        exact k.down s (by omega)
theorem Wk.trans {E : Nat → Nat → Prop} {g u : Nat} {r : Nat} (h : Wk E g r u) : ∀ {s v : Nat}, Wk E u s v → Wk E g (r + s) v
  | 0, v, k => by cases k; exact h
  | s + 1, v, ⟨x, k, e⟩ => ⟨x, h.trans k, e⟩
theorem Rc.trans {E : Nat → Nat → Prop} {g u v : Nat} (h : Rc E g u) (k : Rc E u v) : Rc E g v := by
  obtain ⟨r, h⟩ := h
  obtain ⟨s, k⟩ := k
  exact ⟨r + s, h.trans k⟩
theorem Rc.one {E : Nat → Nat → Prop} {u v : Nat} (e : E u v) : Rc E u v := ⟨1, u, rfl, e⟩
theorem Rc.refl {E : Nat → Nat → Prop} {u : Nat} : Rc E u u := ⟨0, rfl⟩
theorem Rc.symm {E : Nat → Nat → Prop} (sy : ∀ u v, E u v → E v u) {u v : Nat} (h : Rc E u v) : Rc E v u := by
  obtain ⟨r, h⟩ := h
  induction r generalizing v with
  | zero => cases h; exact .refl
  | succ r ih =>
    obtain ⟨x, k, e⟩ := h
    exact (Rc.one (sy _ _ e)).trans (ih k)
theorem Rc.mono {E F : Nat → Nat → Prop} (m : ∀ u v, E u v → F u v) {u v : Nat} (h : Rc E u v) : Rc F u v := by
  obtain ⟨r, h⟩ := h
  induction r generalizing v with
  | zero => cases h; exact .refl
  | succ r ih =>
    obtain ⟨x, k, e⟩ := h
    exact (ih k).trans (.one (m _ _ e))
/-- the book of ws tells W -/
def Told (ws : List Wd) (W : Wd) : Prop := Rc (Link ws W) 0 W.length
end WW
namespace WW
/-! the marks: spots with one mark are led to one another -/
structure Cls (m : Nat → Int) (n : Nat) (F : Nat → Nat → Prop) : Prop where
  snd : ∀ i j, i ≤ n → j ≤ n → m i = m j → Rc F i j
  cmp : ∀ i j, F i j → m i = m j
def addE (F : Nat → Nat → Prop) (a b : Nat) : Nat → Nat → Prop := fun u v => F u v ∨ (u = a ∧ v = b) ∨ (v = a ∧ u = b)
theorem Cls.same {m : Nat → Int} {n a b : Nat} {F : Nat → Nat → Prop} (h : Cls m n F) (e : m a = m b) : Cls m n (addE F a b) :=
  ⟨fun i j hi hj z => (h.snd i j hi hj z).mono fun _ _ => .inl, fun i j z => by
    rcases z with z | ⟨rfl, rfl⟩ | ⟨rfl, rfl⟩
    · exact h.cmp _ _ z
    · exact e
    · exact e.symm⟩
def relab (m : Nat → Int) (a b : Nat) : Nat → Int := fun i => if m i = m b then m a else m i
theorem Cls.join {m : Nat → Int} {n a b : Nat} {F : Nat → Nat → Prop} (h : Cls m n F) (ha : a ≤ n) (hb : b ≤ n) (e : m a ≠ m b) : Cls (relab m a b) n (addE F a b) := by
  have up : ∀ u v, Rc F u v → Rc (addE F a b) u v := fun u v k => k.mono fun _ _ => .inl
  have ab : Rc (addE F a b) a b := .one (.inr (.inl ⟨rfl, rfl⟩))
  have ba : Rc (addE F a b) b a := .one (.inr (.inr ⟨rfl, rfl⟩))
  refine ⟨fun i j hi hj z => ?_, fun i j z => ?_⟩
  · unfold relab at z
    split at z <;> split at z
    · rename_i c d
      exact up _ _ (h.snd i j hi hj (c.trans d.symm))
    · rename_i c d
      exact ((up _ _ (h.snd i b hi hb c)).trans ba).trans (up _ _ (h.snd a j ha hj z))
    · rename_i c d
      exact ((up _ _ (h.snd i a hi ha z)).trans ab).trans (up _ _ (h.snd b j hb hj d.symm))
    · exact up _ _ (h.snd i j hi hj z)
  · unfold relab
    rcases z with z | ⟨rfl, rfl⟩ | ⟨rfl, rfl⟩
    · rw [h.cmp _ _ z]
    · rw [if_neg e, if_pos rfl]
    · rw [if_neg e, if_pos rfl]
theorem Cls.told {m : Nat → Int} {n : Nat} {F : Nat → Nat → Prop} (h : Cls m n F) {i j : Nat} (hi : i ≤ n) (hj : j ≤ n) : m i = m j ↔ Rc F i j := by
  refine ⟨h.snd i j hi hj, fun k => ?_⟩
  obtain ⟨r, k⟩ := k
  clear hi hj
  induction r generalizing j with
  | zero => cases k; rfl
  | succ r ih =>
    obtain ⟨x, k, e⟩ := k
    exact (ih k).trans (h.cmp _ _ e)
/-! the links, as they are found -/
/-- those found ahead of the watch kk at spot low -/
def LkF (ws : List Wd) (W : Wd) (low kk : Nat) (i j : Nat) : Prop := ∃ l k w, ws[k]? = some w ∧ Hit W l w ∧ (l < low ∨ (l = low ∧ k < kk)) ∧ ((i = l ∧ j = l + w.length) ∨ (j = l ∧ i = l + w.length))
theorem LkF.zero {ws : List Wd} {W : Wd} {i j : Nat} : ¬ LkF ws W 0 0 i j := by
  rintro ⟨l, k, w, _, _, c, _⟩
  omega
theorem LkF.next {ws : List Wd} {W : Wd} {low i j : Nat} : LkF ws W low ws.length i j ↔ LkF ws W (low + 1) 0 i j := by
  refine ⟨fun ⟨l, k, w, h1, h2, c, h3⟩ => ⟨l, k, w, h1, h2, by omega, h3⟩, fun ⟨l, k, w, h1, h2, c, h3⟩ => ⟨l, k, w, h1, h2, ?_, h3⟩⟩
  have := (List.getElem?_eq_some_iff.mp h1).1
  omega
theorem LkF.all {ws : List Wd} {W : Wd} {i j : Nat} (n : ∀ w ∈ ws, w ≠ []) : LkF ws W W.length 0 i j ↔ Link ws W i j := by
  constructor
  · rintro ⟨l, k, w, h1, h2, c, h3⟩
    refine ⟨w, List.mem_of_getElem? h1, ?_⟩
    rcases h3 with ⟨rfl, e⟩ | ⟨rfl, e⟩
    · exact .inl ⟨h2, e⟩
    · exact .inr ⟨h2, e⟩
  · rintro ⟨w, m, h⟩
    obtain ⟨k, hk⟩ := List.getElem?_of_mem m
    have l0 : 0 < w.length := List.length_pos_iff.mpr (n w m)
    rcases h with ⟨h, e⟩ | ⟨h, e⟩
    · exact ⟨i, k, w, hk, h, by have := h.bound (n w m); omega, .inl ⟨rfl, e⟩⟩
    · exact ⟨j, k, w, hk, h, by have := h.bound (n w m); omega, .inr ⟨rfl, e⟩⟩
theorem LkF.miss {ws : List Wd} {W : Wd} {low kk : Nat} {w : Wd} (hk : ws[kk]? = some w) (h : ¬ Hit W low w) (i j : Nat) : LkF ws W low (kk + 1) i j ↔ LkF ws W low kk i j := by
  refine ⟨fun ⟨l, k, v, h1, h2, c, h3⟩ => ⟨l, k, v, h1, h2, ?_, h3⟩, fun ⟨l, k, v, h1, h2, c, h3⟩ => ⟨l, k, v, h1, h2, by omega, h3⟩⟩
  rcases c with c | ⟨rfl, c⟩
  · exact .inl c
  · by_cases e : k = kk
    · subst e
      rw [hk] at h1
      cases h1
      exact (h h2).elim
    · exact .inr ⟨rfl, by omega⟩
theorem LkF.hit {ws : List Wd} {W : Wd} {low kk : Nat} {w : Wd} (hk : ws[kk]? = some w) (h : Hit W low w) (i j : Nat) : LkF ws W low (kk + 1) i j ↔ addE (LkF ws W low kk) low (low + w.length) i j := by
  constructor
  · rintro ⟨l, k, v, h1, h2, c, h3⟩
    by_cases e : l = low ∧ k = kk
    · obtain ⟨rfl, rfl⟩ := e
      rw [hk] at h1
      cases h1
      rcases h3 with ⟨rfl, rfl⟩ | ⟨rfl, rfl⟩
      · exact .inr (.inl ⟨rfl, rfl⟩)
      · exact .inr (.inr ⟨rfl, rfl⟩)
    · exact .inl ⟨l, k, v, h1, h2, by omega, h3⟩
  · rintro (⟨l, k, v, h1, h2, c, h3⟩ | h3)
    · exact ⟨l, k, v, h1, h2, by omega, h3⟩
    · refine ⟨low, kk, w, hk, h, by omega, ?_⟩
      rcases h3 with ⟨rfl, rfl⟩ | ⟨rfl, rfl⟩
      · exact .inl ⟨rfl, rfl⟩
      · exact .inr ⟨rfl, rfl⟩
theorem LkF.new {ws : List Wd} {W : Wd} {low kk : Nat} {w : Wd} (nd : ws.Nodup) (n : ∀ w ∈ ws, w ≠ []) (hk : ws[kk]? = some w) (h : Hit W low w) : ¬ LkF ws W low kk low (low + w.length) ∧ ¬ LkF ws W low kk (low + w.length) low := by
  have l0 : 0 < w.length := List.length_pos_iff.mpr (n w (List.mem_of_getElem? hk))
  have key : ∀ l k v, ws[k]? = some v → Hit W l v → (l < low ∨ (l = low ∧ k < kk)) → l = low → v.length = w.length → False := by
    rintro l k v h1 h2 c rfl e
    have e2 : v = w := by
      unfold Hit at h2 h
      rw [← h2, ← h, e]
    subst e2
    have lt : k < kk := by omega
    have := (List.getElem?_inj (List.getElem?_eq_some_iff.mp h1).1 nd).mp (h1.trans hk.symm)
    omega
  refine ⟨fun ⟨l, k, v, h1, h2, c, h3⟩ => ?_, fun ⟨l, k, v, h1, h2, c, h3⟩ => ?_⟩ <;>
  · have l1 : 0 < v.length := List.length_pos_iff.mpr (n v (List.mem_of_getElem? h1))
    exact key l k v h1 h2 c (by omega) (by omega)
/-- rows of links -/
structure LkI (rows : Nat → List Nat) (F : Nat → Nat → Prop) : Prop where
  mem : ∀ i j, j ∈ rows i ↔ F i j
  nd : ∀ i, (rows i).Nodup
def push (rows : Nat → List Nat) (a b : Nat) : Nat → List Nat := fun i => if i = a then rows i ++ [b] else rows i
theorem LkI.add {rows : Nat → List Nat} {F : Nat → Nat → Prop} {a b : Nat} (h : LkI rows F) (ne : a ≠ b) (n1 : ¬ F a b) (n2 : ¬ F b a) : LkI (push (push rows a b) b a) (addE F a b) := by
  have e : ∀ i, push (push rows a b) b a i = if i = a then rows i ++ [b] else if i = b then rows i ++ [a] else rows i := by
    intro i
    unfold push
    by_cases c : i = a
    · subst c; rw [if_neg ne, if_pos rfl, if_pos rfl]
    · simp only [if_neg c]
  refine ⟨fun i j => ?_, fun i => ?_⟩
  · rw [e]
    split
    · rename_i c
      subst c
      rw [List.mem_append, h.mem, List.mem_singleton]
      unfold addE
      constructor
      · rintro (z | z)
        · exact .inl z
        · exact .inr (.inl ⟨rfl, z⟩)
      · rintro (z | ⟨_, z⟩ | ⟨_, z⟩)
        · exact .inl z
        · exact .inr z
        · exact (ne z).elim
    · rename_i c
      split
      · rename_i d
        subst d
        rw [List.mem_append, h.mem, List.mem_singleton]
        unfold addE
        constructor
        · rintro (z | z)
          · exact .inl z
          · exact .inr (.inr ⟨z, rfl⟩)
        · rintro (z | ⟨z, _⟩ | ⟨z, _⟩)
          · exact .inl z
          · exact (c z).elim
          · exact .inr z
      · rename_i d
        rw [h.mem]
        unfold addE
        constructor
        · exact .inl
        · rintro (z | ⟨z, _⟩ | ⟨_, z⟩)
          · exact z
          · exact (c z).elim
          · exact (d z).elim
  · rw [e]
    have app : ∀ (l : List Nat) (x : Nat), l.Nodup → x ∉ l → (l ++ [x]).Nodup := by
      intro l x nl nx
      rw [List.nodup_append]
      refine ⟨nl, by simp, fun y hy z hz q => ?_⟩
      rw [List.mem_singleton] at hz
      subst hz; subst q
      exact nx hy
    split
    · rename_i c
      subst c
      exact app _ _ (h.nd _) fun z => n1 ((h.mem _ _).mp z)
    · split
      · rename_i c d
        subst d
        exact app _ _ (h.nd _) fun z => n2 ((h.mem _ _).mp z)
      · exact h.nd _
theorem LkI.iff {rows : Nat → List Nat} {F G : Nat → Nat → Prop} (h : LkI rows F) (e : ∀ i j, G i j ↔ F i j) : LkI rows G := ⟨fun i j => (h.mem i j).trans (e i j).symm, h.nd⟩
theorem LkI.zero {ws : List Wd} {W : Wd} : LkI (fun _ => []) (LkF ws W 0 0) := ⟨fun i j => ⟨fun z => (nomatch z), fun z => (LkF.zero z).elim⟩, fun _ => List.nodup_nil⟩
end WW
namespace WW
theorem nodup_len : ∀ (n : Nat) (l : List Nat), l.Nodup → (∀ x ∈ l, x < n) → l.length ≤ n
  | 0, l, _, h => by
    cases l with
    | nil => exact Nat.le_refl _
    | cons a r => exact absurd (h a (List.mem_cons_self ..)) (Nat.not_lt_zero _)
  | n + 1, l, nd, h => by
    by_cases m : n ∈ l
    · have e := List.length_erase_of_mem m
      have ih := nodup_len n (l.erase n) (nd.erase n) (fun x hx => by
        have := h x (List.mem_of_mem_erase hx)
        have : x ≠ n := fun z => by subst z; exact (nd.not_mem_erase hx)
        omega)
      omega
    · exact Nat.le_succ_of_le (nodup_len n l nd fun x hx => by
        have := h x hx
        have : x ≠ n := fun z => m (z ▸ hx)
        omega)
theorem LkF.le {ws : List Wd} {W : Wd} {low kk i j : Nat} (n : ∀ w ∈ ws, w ≠ []) (h : LkF ws W low kk i j) : i ≤ W.length ∧ j ≤ W.length := by
  obtain ⟨l, k, w, h1, h2, c, h3⟩ := h
  have := h2.bound (n w (List.mem_of_getElem? h1))
  omega
theorem LkI.len {rows : Nat → List Nat} {F : Nat → Nat → Prop} {n : Nat} (h : LkI rows F) (b : ∀ i j, F i j → j ≤ n) (i : Nat) : (rows i).length ≤ n + 1 :=
  nodup_len _ _ (h.nd i) fun x m => Nat.lt_succ_of_le (b _ _ ((h.mem i x).mp m))
theorem addE.le {F : Nat → Nat → Prop} {a b n : Nat} (h : ∀ i j, F i j → j ≤ n) (ha : a ≤ n) (hb : b ≤ n) (i j : Nat) (k : addE F a b i j) : j ≤ n := by
  rcases k with k | ⟨_, rfl⟩ | ⟨rfl, _⟩
  · exact h _ _ k
  · exact hb
  · exact ha
/-- ints sorted, as numbers -/
theorem sorted_nats {r : List Nat} {ns : List Int} (p : ns.Perm (r.map fun (j : Nat) => (j : Int))) (s : ns.Pairwise (· ≤ ·)) (nd : r.Nodup) : ∃ q : List Nat, ns = q.map (fun (j : Nat) => (j : Int)) ∧ (∀ x, x ∈ q ↔ x ∈ r) ∧ q.Pairwise (· < ·) := by
  refine ⟨ns.map Int.toNat, ?_, fun x => ?_, ?_⟩
  · rw [List.map_map]
    have : ∀ z ∈ ns, ((fun (j : Nat) => (j : Int)) ∘ Int.toNat) z = z := fun z m => by
      obtain ⟨j, _, rfl⟩ := List.mem_map.mp (p.mem_iff.mp m)
      simp
    rw [List.map_congr_left this, List.map_id']
  · rw [List.mem_map]
    constructor
    · rintro ⟨z, m, rfl⟩
      obtain ⟨j, mj, rfl⟩ := List.mem_map.mp (p.mem_iff.mp m)
      simpa using mj
    · intro m
      exact ⟨(x : Int), p.mem_iff.mpr (List.mem_map.mpr ⟨x, m, rfl⟩), by simp⟩
  · have nd' : ns.Nodup := p.nodup_iff.mpr (List.Pairwise.map _ (fun a b (h : a ≠ b) => (fun z => h (by omega) : (a : Int) ≠ (b : Int))) nd)
    rw [List.pairwise_map]
    have both := s.and nd'
    refine both.imp_of_mem ?_
    rintro a b ma mb ⟨h1, h2⟩
    obtain ⟨x, _, rfl⟩ := List.mem_map.mp (p.mem_iff.mp ma)
    obtain ⟨y, _, rfl⟩ := List.mem_map.mp (p.mem_iff.mp mb)
    simp at *
    omega
end WW

/-! ### texts as lists of letters -/
namespace WW
open PySem L2
/-- the text of these letters -/
def S (l : Wd) : Str := ⟨l.toArray⟩
theorem S_len (l : Wd) : (S l).length = l.length := by show l.toArray.size = _; simp
theorem S_cps (l : Wd) : (S l).cps.toList = l := rfl
theorem S_of (z : Str) : z = S z.cps.toList := by cases z; rfl
theorem S_inj {l m : Wd} : S l = S m ↔ l = m := by
  constructor
  · intro h
    have := congrArg (fun z : Str => z.cps.toList) h
    exact this
  · exact congrArg S
theorem S_app (l m : Wd) : S l ++ S m = S (l ++ m) := by
  show Str.mk _ = Str.mk _
  simp [S]
theorem take_all {α : Type} (l : List α) {n m : Nat} (h : l.length ≤ n) (k : l.length ≤ m) : l.take n = l.take m := by
  rw [List.take_of_length_le h, List.take_of_length_le k]
theorem cut_nat {α : Type} (l : List α) (a b : Nat) : (l.drop (min a l.length)).take (min b l.length - min a l.length) = (l.drop a).take (b - a) := by
  rcases Nat.le_total a l.length with ha | ha
  · have e : min a l.length = a := by omega
    rw [e]
    rcases Nat.le_total b l.length with hb | hb
    · have e : min b l.length = b := by omega
      rw [e]
    · exact take_all _ (by rw [List.length_drop]; omega) (by rw [List.length_drop]; omega)
  · have e : min a l.length = l.length := by omega
    rw [e, List.drop_of_length_le (Nat.le_refl l.length), List.drop_of_length_le ha]
    simp
theorem S_cut (l : Wd) (a b : Nat) : cutS (S l) (some (a : Int)) (some (b : Int)) = S (piece l a b) := by
  unfold cutS piece
  rw [S_len, HT.sIx_nat, HT.sIx_nat, S_cps, cut_nat]
  rfl
theorem S_cutLo (l : Wd) (a : Nat) : cutS (S l) (some (a : Int)) none = S (l.drop a) := by
  have e : cutS (S l) (some (a : Int)) none = cutS (S l) (some (a : Int)) (some ((l.length : Nat) : Int)) := by
    unfold cutS
    rw [S_len, HT.sIx_nat, HT.sIx_nat, HT.sIx_none, Nat.min_self]
  rw [e, S_cut]
  show S _ = S _
  congr 1
  exact List.take_of_length_le (by rw [List.length_drop]; omega)
theorem S_cutHi (l : Wd) (b : Nat) : cutS (S l) none (some (b : Int)) = S (l.take b) := by
  have e : cutS (S l) none (some (b : Int)) = cutS (S l) (some ((0 : Nat) : Int)) (some (b : Int)) := by
    unfold cutS
    have z : ∀ n : Nat, HT.sIx n 0 (some ((0 : Nat) : Int)) = 0 := fun n => by rw [HT.sIx_nat, Nat.zero_min]
    rw [z, HT.sIx_none]
  rw [e, S_cut]
  rfl
/-- a row of texts -/
def Ss (ws : List Wd) : List V := ws.map fun w => V.str (S w)
theorem Ss_get {ws : List Wd} {i : Nat} {x : V} (h : (Ss ws)[i]? = some x) : ∃ w, ws[i]? = some w ∧ x = .str (S w) := by
  unfold Ss at h
  rw [List.getElem?_map] at h
  cases e : ws[i]? with
  | none => rw [e] at h; cases h
  | some w => rw [e] at h; cases h; exact ⟨w, rfl, rfl⟩
theorem Ss_len (ws : List Wd) : (Ss ws).length = ws.length := List.length_map ..
def Lt (c : Nat) : Prop := 97 ≤ c ∧ c ≤ 122
instance {c : Nat} : Decidable (Lt c) := inferInstanceAs (Decidable (_ ∧ _))
/-- all of its signs are letters -/
def Lw (l : Wd) : Prop := ∀ c ∈ l, Lt c
theorem Lw.piece {l : Wd} (h : Lw l) (a b : Nat) : Lw (piece l a b) := fun c m => h c (List.mem_of_mem_drop (List.mem_of_mem_take m))
theorem Lw.drop {l : Wd} (h : Lw l) (a : Nat) : Lw (l.drop a) := fun c m => h c (List.mem_of_mem_drop m)
theorem Lw.take {l : Wd} (h : Lw l) (a : Nat) : Lw (l.take a) := fun c m => h c (List.mem_of_mem_take m)
theorem Lw.app {l m : Wd} (h : Lw l) (k : Lw m) : Lw (l ++ m) := fun c z => (List.mem_append.mp z).elim (h c) (k c)
theorem Lw.nil : Lw [] := fun _ m => nomatch m
theorem Lw.one {c : Nat} (h : Lt c) : Lw [c] := fun x m => by rw [List.mem_singleton.mp m]; exact h
def alpha : Str := "abcdefghijklmnopqrstuvwxyz"
theorem alpha_S : alpha = S (List.range' 97 26) := by decide +kernel
theorem alpha_in (c : Nat) : decide (c ∈ alpha.cps.toList) = decide (Lt c) := by
  rw [alpha_S, S_cps]
  rw [decide_eq_decide]
  unfold Lt
  rw [List.mem_range'_1]
  omega
theorem alpha_at {i : Nat} (h : i < 26) : (List.range' 97 26)[i]? = some (97 + i) := by
  rw [List.getElem?_range' h]; simp
end WW
/-! ### readings of texts -/
namespace RD
open PySem L2
section
variable {σ : L2.St} {H : Hp} {Q : VK} {K : PySem.W.Frag} {l m : WW.Wd} {a b : Nat} {i j : Int}
def rAddS : R2 := fun x y H Q => ∃ i j, x = .str i ∧ y = .str j ∧ i.length + j.length ≤ sizeLine ∧ Q (.str (i ++ j)) H
theorem o_addS {X : Cx} : OpR X (binaryOp .Add) rAddS := op_add_str
theorem d_addS (n : l.length + m.length ≤ sizeLine) (h : Q (.str (WW.S (l ++ m))) H) : rAddS (.str (WW.S l)) (.str (WW.S m)) H Q :=
  ⟨_, _, rfl, rfl, by rw [WW.S_len, WW.S_len]; exact n, by rw [WW.S_app]; exact h⟩
def rSign : R2 := fun x y H Q => ∃ (c : Nat) (z : Str), x = .str ⟨#[c]⟩ ∧ y = .str z ∧ Q (.bl (decide (c ∈ z.cps.toList))) H
theorem o_sign {X : Cx} : OpR X (compareOp .In) rSign := op_in_sign
theorem d_alpha {c : Nat} (h : Q (.bl (decide (WW.Lt c))) H) : rSign (.str ⟨#[c]⟩) (.str "abcdefghijklmnopqrstuvwxyz") H Q :=
  ⟨c, _, rfl, rfl, by rw [show decide (c ∈ (("abcdefghijklmnopqrstuvwxyz" : Str)).cps.toList) = decide (WW.Lt c) from WW.alpha_in c]; exact h⟩
theorem d_cutS {i j : Int} (hi : i = a) (hj : j = b) (n : l.length ≤ sizeLine) (h : Q (.str (WW.S (WW.piece l a b))) H) : rSlS (.str (WW.S l)) (some i) (some j) H Q := by
  subst hi hj
  exact ⟨_, rfl, by rw [WW.S_len]; exact n, by rw [WW.S_cut]; exact h⟩
theorem d_cutSLo {i : Int} (hi : i = a) (n : l.length ≤ sizeLine) (h : Q (.str (WW.S (l.drop a))) H) : rSlS (.str (WW.S l)) (some i) none H Q := by
  subst hi
  exact ⟨_, rfl, by rw [WW.S_len]; exact n, by rw [WW.S_cutLo]; exact h⟩
theorem d_cutSHi {i : Int} (hi : i = b) (n : l.length ≤ sizeLine) (h : Q (.str (WW.S (l.take b))) H) : rSlS (.str (WW.S l)) none (some i) H Q := by
  subst hi
  exact ⟨_, rfl, by rw [WW.S_len]; exact n, by rw [WW.S_cutHi]; exact h⟩
theorem d_lenW (n : l.length ≤ sizeLine) (h : Q (.int l.length) H) : rLen K [.str (WW.S l)] H Q := ⟨_, _, rfl, ⟨by rw [WW.S_len]; exact n, rfl⟩, by rw [WW.S_len]; exact h⟩
theorem d_ixS {i : Int} {c : Nat} (hi : i = a) (n : l.length ≤ sizeLine) (e : l[a]? = some c) (h : Q (.str (WW.S [c])) H) : rIxS (.str (WW.S l)) (.int i) H Q := by
  subst hi
  exact ⟨_, _, c, rfl, rfl, by rw [WW.S_len]; exact n, by rw [WW.S_cps]; exact atI_nat e, h⟩
theorem d_eqW (h : Q (.bl (decide (l = m))) H) : rEq (.str (WW.S l)) (.str (WW.S m)) H Q := ⟨rfl, by
  have e : decide (V.str (WW.S l) = V.str (WW.S m)) = decide (l = m) := by rw [decide_eq_decide]; exact ⟨fun z => WW.S_inj.mp (V.str.inj z), fun z => by rw [z]⟩
  rw [e]; exact h⟩
theorem d_neW (h : Q (.bl (!decide (l = m))) H) : rNe (.str (WW.S l)) (.str (WW.S m)) H Q := ⟨rfl, by
  have e : decide (V.str (WW.S l) = V.str (WW.S m)) = decide (l = m) := by rw [decide_eq_decide]; exact ⟨fun z => WW.S_inj.mp (V.str.inj z), fun z => by rw [z]⟩
  rw [e]; exact h⟩
end
end RD

/-! ### enumerate over a tuple -/
namespace OQ
open PySem L2 PySem.Spec PyProof.Rows
theorem meets_enumV {v : Value} {o : Obj} {B : Heap → Prop} (b : Begins v o B) :
    Meets (Builtin.«enumerate.__new__» ⟨[.type "enumerate", v], []⟩) (fun _ R z => B z.heap ∧
      R (.ok (.ret (.ref (z.heap.push o).objs.size))) { z with heap := (z.heap.push o).push { cls := .type "enumerate", data := .fields #[.none, .bool false, .ref z.heap.objs.size, rawInt 0, .none, .none] } }) :=
  .of_wp fun P W A R z q => by
    obtain ⟨hp, g, d, tk, os⟩ := z; obtain ⟨b0, q⟩ := q
    have know := sub_enumerate
    have begin_ : ∀ {A' : Around} {E Q : Value → Shared → Prop}, Q (.ref hp.objs.size) ⟨hp.push o, g, d, tk, os⟩ → wpAny (model P W) A' (pyIter v) Q E ⟨hp, g, d, tk, os⟩ :=
      fun r => b.iter P W _ _ ⟨hp, g, d, tk, os⟩ _ b0 r
    wp_walk using begin_
    refine wpAny_stack_any fun _ => wpAny_pure ?_
    split
    · rename_i c _ _ _ _ _
      cases (c == Value.type "enumerate") <;> (wp_walk using begin_; exact ⟨_, rfl, q⟩)
    · (wp_walk using begin_; exact ⟨_, rfl, q⟩)
theorem call_enumV {P : Program} {W : World} {A : Around} {E Q : Value → Shared → Prop} {z : Shared} {v : Value} {o : Obj} {B : Heap → Prop} (b : Begins v o B) (b0 : B z.heap)
    (q : ∀ h', IsEnum h' (z.heap.objs.size + 1) z.heap.objs.size 0 .none → h'.get? z.heap.objs.size = some o → (∀ c u, z.heap.get? c = some u → h'.get? c = some u) → Q (.ref (z.heap.objs.size + 1)) { z with heap := h' }) :
    wpAny (model P W) A (call (.type "enumerate") [v]) Q E z := by
  refine callType_new F.called_enumerate (by decide) (F.typeCall_enumerate_1 _) (F.newCall_enumerate_1 _) (fun _ => F.args_object_init_2 _ _) F.entry_enumerate_new (meets_enumV b) ⟨b0, ?_⟩
  have n1 : (z.heap.push o).objs.size = z.heap.objs.size + 1 := Heap.size_push ..
  have e1 := Heap.get?_push_size (z.heap.push o) (o := { cls := .type "enumerate", data := .fields #[.none, .bool false, .ref z.heap.objs.size, rawInt 0, .none, .none] }) rfl
  rw [n1] at e1
  show _ ∧ _
  rw [n1]
  exact ⟨⟨_, e1, rfl⟩, q _ e1 (Heap.get?_push_of_some _ (Heap.get?_push_size _ b.free)) fun c u x => Heap.get?_push_of_some _ (Heap.get?_push_of_some _ x)⟩
/-- the tuple at a, each item in a new pair behind its number -/
def IteT (K : PySem.W.Frag) (a : Addr) : It where
  go i H := ∃ xs x, SqT K H a xs ∧ xs[i]? = some x
  yld i H v H' := ∃ T x, v = .ref T ∧ H T = none ∧ H' = upd H T (.tup [.int (i : Nat), x]) ∧ ∀ xs, SqT K H a xs → xs[i]? = some x
  stop i H := ∃ xs, SqT K H a xs ∧ xs.length ≤ i
theorem two_mem {b e it : Addr} (h : b ∈ [e, it]) : b = e ∨ b = it := by simpa using h
theorem turn_enumT {P : Program} {w : World} {K : PySem.W.Frag} {elts : List Expr} {kk : Nat} {tpos : Pos} (a e it : Addr) :
    Turn P w K (.Tuple elts kk tpos) (IteT K a) [e, it] e (fun i h => (∃ old, IsEnum h e it ((i : Nat) : Int) old) ∧ h.IsTupleIter it a i ∧ e ≠ it) where
  mem := List.mem_cons_self ..
  obj := fun i h st b hb => by
    obtain ⟨⟨old, x1⟩, ⟨o, x2, _, x3⟩, _⟩ := st
    rcases two_mem hb with rfl | rfl
    · exact ⟨_, x1, fun _ z => nomatch z⟩
    · exact ⟨o, x2, fun _ z => by rw [x3] at z; cases z⟩
  keep := fun i h h' st k => ⟨st.1.imp fun _ y => k e (List.mem_cons_self ..) _ y, st.2.1.at fun o y => k it (by simp) o y, st.2.2⟩
  item := by
    intro X hP hw hK hc i pins s σ H E I hf st hg
    subst hP hw hK
    obtain ⟨⟨old, x1⟩, x2, ne⟩ := st
    obtain ⟨xs, x, sq, hx⟩ := hg
    obtain ⟨its, rv, pt, _⟩ := I.tuple sq
    obtain ⟨u, hu, ru⟩ := rv.get hx
    have pt' : s.heap.IsTuple a its.toArray := pt
    have na : a ≠ it := fun z => by
      subst z
      obtain ⟨o1, y1, c1, _⟩ := x2
      obtain ⟨o2, y2, c2, _⟩ := pt'
      rw [y1] at y2
      cases y2
      rw [c1] at c2
      simp at c2
    have le : e < s.heap.objs.size := Heap.lt_size x1
    have li : it < s.heap.objs.size := let ⟨_, y, _⟩ := x2; Heap.lt_size y
    have la : a < s.heap.objs.size := let ⟨_, y, _⟩ := pt'; Heap.lt_size y
    have nea : e ≠ a := fun z => by
      subst z
      obtain ⟨o2, y2, c2, _⟩ := pt'
      have y1 : s.heap.get? e = _ := x1
      rw [y1] at y2
      cases y2
      simp at c2
    have lt : i < its.toArray.size := by
      have := rv.length
      have := (List.getElem?_eq_some_iff.mp hx).1
      rw [List.size_toArray]; omega
    refine wpAny_pyNext_enum_itemD (Draws.tuple (A := X.A.in1) (show X.A.in1.handled = none from I.ok.hd hc) it a na its.toArray) x1 ⟨x2, pt'⟩ lt ne (by intro z; rcases two_mem z with z | z; exact ne z; exact nea z) fun y h1 tk hy out st1 hT _ hk => ?_
    have ey : y = u := by
      have : its.toArray[i]? = some u := by simpa using hu
      rw [this] at hy
      exact (Option.some.inj hy).symm
    subst ey
    refine ⟨_, rfl, wpAny_letOwnedTupleGo_enum (s := { s with heap := h1, toks := tk + 1 }) out fun h2 x3 sb => ?_⟩
    have hT2 := (sb.2 _ (Nat.ne_of_gt le)).trans hT
    have new : ObjOk X.prog X.w (upd H s.heap.objs.size (.tup [.int (i : Nat), x])) h2 s.heap.objs.size (.tup [.int (i : Nat), x]) :=
      ⟨by show 2 ≤ sizeLine; decide, [.int i tk, y], .cons ⟨_, rfl⟩ (.cons ru .nil), ⟨_, hT2, rfl, _, rfl⟩⟩
    have I2 : Inv X pins σ (upd H s.heap.objs.size (.tup [.int (i : Nat), x])) { s with heap := h2, toks := tk + 1 } :=
      I.turnedNew (ch := [e, it]) (fun b o nb q => (sb.2 b (fun z => nb (by simp [z]))).trans (hk b o (fun z => nb (by simp [z])) (fun z => nb (by simp [z])) q)) hf (Nat.le_refl _) new
    refine ⟨.ref s.heap.objs.size, _, I2, rfl, ⟨_, x, rfl, I.hok.fresh (Nat.le_refl _), rfl, fun ys hy => by rw [I.tuple_inj hy sq]; exact hx⟩, ⟨⟨y, ?_⟩, st1.1.at fun o q => (sb.2 it (Ne.symm ne)).trans q, ne⟩, fun b hb => ?_⟩
    · rw [Int.natCast_succ]; exact x3
    · have lb : b < s.heap.objs.size := (two_mem hb).elim (fun z => z ▸ le) (fun z => z ▸ li)
      rw [upd_ne (Nat.ne_of_lt lb)]
      exact (hf b hb).1
  done := by
    intro X hP hw hK hc i pins s σ H E I hf st hg
    subst hP hw hK
    obtain ⟨⟨old, x1⟩, x2, ne⟩ := st
    obtain ⟨xs, sq, lx⟩ := hg
    obtain ⟨its, rv, pt, _⟩ := I.tuple sq
    obtain ⟨f0, f1, f2, f3, f4, f5⟩ := hf it (by simp)
    have pt' : s.heap.IsTuple a its.toArray := pt
    have len := rv.length
    have hT : s.TypeIs (.ref e) "enumerate" := ⟨_, x1, rfl⟩
    unfold pyNext
    refine wpAny_bind (wpAny_attempt (wpAny_callSpecial?_slot (name := Str.ofString "__next__") hT F.slot_enumerate_next
      (wpAny_call_entry F.slot_enumerate_next hT F.entry_enumerate_next ?_ (F.args_enumerate_next_1 _))))
    show wpAny _ _ (field (.ref e) 2 >>= _) _ _ _
    refine wpAny_bind (wpAny_field x1 rfl (x := .ref it) rfl ?_)
    refine wpAny_bind (wpAny_nextOf_tuple_end (I.ok.hd hc) x2 pt' (by simp; omega) fun h' x he' hx' => ?_)
    obtain ⟨o, ho, c⟩ := hx'
    exact wpAny_bind (wpAny_isInstance (T := "StopIteration") (b := true) ⟨o, ho, c⟩ isSubtype_stop (wpAny_pure ⟨rfl, I.turned (t' := s.toks) (fun b u nb q => he' b u nb q) f0 f1 f3 f4 f5⟩))
  self := fun A i s Q E st h => let ⟨⟨_, x1⟩, _⟩ := st; wpAny_pyIter_enum x1 h
def iEnumT (K : PySem.W.Frag) (ta : TA) : TI := fun σ H R => ta σ H fun vs H1 => ∃ a xs, vs = [.ref a] ∧ SqT K H1 a xs ∧ R (IteT K a) H1
theorem pi_enumT {X : Cx} {arg : Expr} {ta : TA} {p q tp : Pos} {elts : List Expr} {kk : Nat} (hg : Gl X "enumerate") (hm : X.mg "enumerate" = none) (ha : PA X [arg] ta) (hs : starEach [arg] X.env = [(false, eval arg X.env)] := by rfl) :
    PI X (.Tuple elts kk tp) (.Call (.Name "enumerate" p) [arg] [] q) (iEnumT X.K ta) := by
  refine ⟨fun pins s σ H R I asked => Call_ (ld_blt I hg hm boot_enumerate (callWith_type1 (thn (ha.run q pins s σ H _ I asked) fun us s1 ⟨vs, H1, I1, rel, a, xs, evs, sq, go⟩ => ?_) hs rfl))⟩
  subst evs
  cases rel with
  | cons one rest =>
    cases rest
    cases one
    obtain ⟨its, rv, pt, _⟩ := I1.tuple sq
    have pt' : s1.heap.IsTuple a its.toArray := pt
    refine call_enumV (begins_tuple a its.toArray) pt' fun h' x1 x2 hk => wpAny_pyIter_enum x1 ?_
    refine ⟨s1.heap.objs.size + 1, [s1.heap.objs.size + 1, s1.heap.objs.size], _, _, H1, rfl, I1.kept (t' := s1.toks) hk, turn_enumT a (s1.heap.objs.size + 1) s1.heap.objs.size, ⟨⟨.none, x1⟩, ⟨_, x2, rfl, rfl⟩, Nat.succ_ne_self _⟩, fun b hb => ?_, go⟩
    have lb : s1.heap.objs.size ≤ b := by
      rcases two_mem hb with z | z
      · exact z ▸ Nat.le_succ _
      · exact z ▸ Nat.le_refl _
    exact I1.fpOk lb (I1.hok.fresh lb)
/-- enumerate of a list or of a tuple -/
theorem walk_enumT {K : PySem.W.Frag} {a : Addr} {xs : List V} : Walk (IteT K a) xs.length (fun H => SqT K H a xs) (YPair (fun i => some (.int (i : Nat))) (fun i => xs[i]?)) where
  goes i _ hi q := ⟨xs, xs[i], q, List.getElem?_eq_getElem hi⟩
  stops _ q := ⟨xs, q, Nat.le_refl _⟩
  yields i H v H' _ q y := let ⟨T, x, h1, h2, h3, h4⟩ := y; ⟨T, .int (i : Nat), x, h1, h2, h3, rfl, h4 xs q⟩
end OQ

/-! ### rows: lists or tuples -/
namespace OQ
open PySem L2 PySem.Spec PyProof.Rows
def SeqAt (K : PySem.W.Frag) (H : Hp) (a : Addr) (xs : List V) : Prop := SqL K H a xs ∨ SqT K H a xs
theorem sqT_same {K : PySem.W.Frag} {H H' : Hp} {a : Addr} {xs : List V} (h : SqT K H a xs) (e : Same H H') : SqT K H' a xs :=
  h.imp (fun h => h.imp (e _ _) fun ⟨o, h⟩ => ⟨o, e _ _ h⟩) id
theorem SeqAt.same {K : PySem.W.Frag} {H H' : Hp} {a : Addr} {xs : List V} (h : SeqAt K H a xs) (e : Same H H') : SeqAt K H' a xs :=
  h.imp e.seq fun h => sqT_same h e
theorem SeqAt.len {K : PySem.W.Frag} {H : Hp} {a : Addr} {xs : List V} {Q : VK} (h : SeqAt K H a xs) (k : Q (.int xs.length) H) : RD.rLen K [.ref a] H Q :=
  h.elim (fun h => RD.d_lenL h k) fun h => RD.d_lenT h k
/-- the one way of walking or the other -/
def iOr (u w : TI) : TI := fun σ H R => u σ H R ∨ w σ H R
theorem pi_or {X : Cx} {tg e : Expr} {u w : TI} (h : PI X tg e u) (k : PI X tg e w) : PI X tg e (iOr u w) :=
  ⟨fun pins s σ H R I z => z.elim (h.run pins s σ H R I) (k.run pins s σ H R I)⟩
theorem pi_seq {X : Cx} {tg e : Expr} {te : TE} (he : PE X e te) : PI X tg e (iOr (iList X.K te) (iTup X.K te)) := pi_or (pi_list he) (pi_tup he)
theorem d_seqVar {K : PySem.W.Frag} {σ : L2.St} {H : Hp} {R : It → Hp → Prop} {n : Nat} {a : Addr} {xs : List V} (e : σ[n]? = some (some (.ref a))) (h : SeqAt K H a xs)
    (k : ∀ J G, Walk J xs.length G (YAt xs) → (∀ H', Same H H' → G H') → R J H) : iOr (iList K (tVar n)) (iTup K (tVar n)) σ H R := by
  rcases h with h | h
  · exact .inl ⟨_, e, a, rfl, ⟨xs, h⟩, k _ _ walk_list fun H' s => s.seq h⟩
  · exact .inr ⟨_, e, a, rfl, ⟨xs, h⟩, k _ _ walk_tup fun H' s => sqT_same h s⟩
theorem d_enumVar {K : PySem.W.Frag} {σ : L2.St} {H : Hp} {R : It → Hp → Prop} {n : Nat} {a : Addr} {xs : List V} (e : σ[n]? = some (some (.ref a))) (h : SeqAt K H a xs)
    (k : ∀ J G, Walk J xs.length G (YPair (fun i => some (.int (i : Nat))) (fun i => xs[i]?)) → (∀ H', Same H H' → G H') → R J H) :
    iOr (iEnum K (tCons (tVar n) tNil)) (iEnumT K (tCons (tVar n) tNil)) σ H R := by
  rcases h with h | h
  · exact .inl ⟨_, e, a, xs, rfl, h, k _ _ walk_enum fun H' s => s.seq h⟩
  · exact .inr ⟨_, e, a, xs, rfl, h, k _ _ walk_enumT fun H' s => sqT_same h s⟩
theorem eqV_str {z y : Str} : eqV (.str z) (.str y) = (z == y) := rfl
theorem inV_Ss (w : WW.Wd) (ws : List WW.Wd) : inV (.str (WW.S w)) (WW.Ss ws) = decide (w ∈ ws) := by
  unfold inV WW.Ss
  rw [Bool.eq_iff_iff]
  simp only [List.any_map, List.any_eq_true, Function.comp, decide_eq_true_eq, eqV_str, beq_iff_eq, WW.S_inj]
  constructor
  · rintro ⟨x, m, rfl⟩; exact m
  · intro m; exact ⟨w, m, rfl⟩
theorem flat_Ss (ws : List WW.Wd) : (WW.Ss ws).all flatV = true := by
  unfold WW.Ss
  rw [List.all_map]
  exact List.all_eq_true.mpr fun _ _ => rfl
theorem d_inSs {K : PySem.W.Frag} {H : Hp} {Q : VK} {a : Addr} {w : WW.Wd} {ws : List WW.Wd} (h : SeqAt K H a (WW.Ss ws)) (k : Q (.bl (decide (w ∈ ws))) H) : rIn K false (.str (WW.S w)) (.ref a) H Q :=
  ⟨a, _, rfl, h, rfl, flat_Ss ws, by rw [inV_Ss]; exact k⟩
theorem d_notInSs {K : PySem.W.Frag} {H : Hp} {Q : VK} {a : Addr} {w : WW.Wd} {ws : List WW.Wd} (h : SeqAt K H a (WW.Ss ws)) (k : Q (.bl (!decide (w ∈ ws))) H) : rIn K true (.str (WW.S w)) (.ref a) H Q :=
  ⟨a, _, rfl, h, rfl, flat_Ss ws, by rw [inV_Ss]; exact k⟩
end OQ
namespace OQ
open PySem L2 PySem.Spec PyProof.Rows
theorem sortK {X : Cx} (K : PySem.W.Frag) (h : X.K = K := by rfl) : CallR X (.builtin "sorted") (rSortedI K) := h ▸ cr_sortedI
theorem lenK {X : Cx} (K : PySem.W.Frag) (h : X.K = K := by rfl) : CallR X (.builtin "len") (RD.rLen K) := h ▸ RD.c_len
theorem inK {X : Cx} (K : PySem.W.Frag) (h : X.K = K := by rfl) : OpR X (compareOp .In) (rIn K false) := h ▸ op_in_seq
theorem notInK {X : Cx} (K : PySem.W.Frag) (h : X.K = K := by rfl) : OpR X (compareOp .NotIn) (rIn K true) := h ▸ op_notIn_seq
end OQ

/-! ### any for, step by step -/
namespace RD
open PySem L2
theorem f_it {J : It} {n : Nat} {G : Hp → Prop} {Y : Nat → Hp → V → Hp → Prop} {σ : L2.St} {H : Hp} {g : TG} {tb : TS} {nx : L2.St → Hp → Prop} {rt : VK} (w : Walk J n G Y) (Pv : Nat → L2.St → Hp → Prop) (h0 : Pv 0 σ H) (hG : ∀ i σ H, i ≤ n → Pv i σ H → G H)
    (hs : ∀ i x σ H H', i < n → Pv i σ H → Y i H x H' → g x σ H' fun σ2 H2 => tb ⟨Pv (i + 1), rt, nx, Pv (i + 1)⟩ σ2 H2) (hd : ∀ σ H, Pv n σ H → nx σ H) :
    ∃ W : Nat → Nat → L2.St → Hp → Prop, (∃ m, W 0 m σ H) ∧ ∀ i m σ H, W i m σ H → (J.stop i H ∧ nx σ H) ∨ (J.go i H ∧ ∃ N : L2.St → Hp → Prop, (∀ σ' H', N σ' H' → ∃ m', m' < m ∧ W (i + 1) m' σ' H') ∧
      ∀ x H', J.yld i H x H' → g x σ H' fun σ2 H2 => tb ⟨N, rt, nx, N⟩ σ2 H2) := for_it (D := ⟨nx, rt, fun _ _ => False, fun _ _ => False⟩) w Pv h0 hG hs hd
/-- a pair taken apart by two names -/
theorem d_two {K : PySem.W.Frag} {n i j : Nat} {a : Addr} {x y : V} {σ : L2.St} {H : Hp} {R : L2.St → Hp → Prop} (en : n = 2) (e : SqT K H a [x, y]) (k : R ((σ.set i (some x)).set j (some y)) H) :
    gTup K n (gCons (gName i) (gCons (gName j) gNil)) (.ref a) σ H R := ⟨a, [x, y], rfl, e, en.symm, x, [y], rfl, y, [], rfl, rfl, k⟩
end RD
namespace OQ
open PySem L2
theorem d_tupSeq {K : PySem.W.Frag} {H : Hp} {a : Addr} {xs : List V} {Q : VK} (h : SeqAt K H a xs) (k : ∀ H' t, Same H H' → SqT K H' t xs → Q (.ref t) H') : rTupK K [.ref a] H Q := by
  rcases h with h | h
  · exact ⟨a, xs, rfl, .inl ⟨h, fun l hl => k _ l (fun b u e => by rw [upd_ne (ne_of_none e hl)]; exact e) (SqT.of upd_same)⟩⟩
  · exact ⟨a, xs, rfl, .inr ⟨h, k _ a (Same.refl _) h⟩⟩
end OQ
namespace RD
open PySem L2
theorem d_bm {K : PySem.W.Frag} {T : String} {r : V → List V → Hp → VK → Prop} {to : TE} {t : TA} {σ : L2.St} {H : Hp} {Q : VK} (h : to σ H fun x H1 => tyV K T x H1 ∧ t σ H1 fun xs H2 => r x xs H2 Q) : tBM K T r to t σ H Q := h
theorem tyL {K : PySem.W.Frag} {H : Hp} {p : Addr} {xs : List V} (e : H p = some (.lst xs)) : tyV K "list" (.ref p) H := .inl ⟨rfl, xs, SqL.of e⟩
theorem d_app {H : Hp} {Q : VK} {p : Addr} {xs : List V} {y : V} (e : H p = some (.lst xs)) (n : xs.length < sizeLine) (h : Q .non (upd H p (.lst (xs ++ [y])))) : rAppend (.ref p) [y] H Q := ⟨p, xs, y, rfl, rfl, e, n, h⟩
end RD
namespace WW
open PySem L2
def Ns (r : List Nat) : List V := r.map fun (j : Nat) => V.int j
theorem Ns_len (r : List Nat) : (Ns r).length = r.length := List.length_map ..
theorem Ns_app (r : List Nat) (j : Nat) : Ns r ++ [V.int j] = Ns (r ++ [j]) := by unfold Ns; rw [List.map_append]; rfl
theorem Ns_get {r : List Nat} {i : Nat} {x : V} (h : (Ns r)[i]? = some x) : ∃ j, r[i]? = some j ∧ x = .int (j : Nat) := by
  unfold Ns at h
  rw [List.getElem?_map] at h
  cases e : r[i]? with
  | none => rw [e] at h; cases h
  | some w => rw [e] at h; cases h; exact ⟨w, rfl, rfl⟩
end WW
namespace RD
open PySem L2
theorem d_dput {td ty tv : TE} {σ : L2.St} {H : Hp} {nx bk ct : L2.St → Hp → Prop} {rt : VK} (h : tv σ H fun v H1 => td σ H1 fun x H2 => ty σ H2 fun y H3 => ∃ a H4, x = .ref a ∧ DPut H3 a y v H4 ∧ nx σ H4) : sDPut td ty tv ⟨nx, rt, bk, ct⟩ σ H := h
theorem d_dget {td ty : TE} {σ : L2.St} {H : Hp} {Q : VK} (h : td σ H fun x H1 => ty σ H1 fun y H2 => ∃ a v, x = .ref a ∧ DGet H2 a y (some v) ∧ Q v H2) : tDGet td ty σ H Q := h
end RD
namespace RD
open PySem L2
theorem d_din {ty td : TE} {σ : L2.St} {H : Hp} {Q : VK} (h : ty σ H fun y H1 => td σ H1 fun x H2 => ∃ a o, x = .ref a ∧ DGet H2 a y o ∧ Q (.bl o.isSome) H2) : tDIn ty td σ H Q := h
theorem d_dnotin {ty td : TE} {σ : L2.St} {H : Hp} {Q : VK} (h : ty σ H fun y H1 => td σ H1 fun x H2 => ∃ a o, x = .ref a ∧ DGet H2 a y o ∧ Q (.bl (!o.isSome)) H2) : tDNotIn ty td σ H Q := h
end RD
namespace RD
open PySem L2
theorem d_break {nx bk ct : L2.St → Hp → Prop} {rt : VK} {σ : L2.St} {H : Hp} (h : bk σ H) : tBreak ⟨nx, rt, bk, ct⟩ σ H := h
end RD
namespace WW
open PySem L2
theorem Ss_app (ws : List Wd) (w : Wd) : Ss ws ++ [V.str (S w)] = Ss (ws ++ [w]) := by unfold Ss; rw [List.map_append]; rfl
theorem nodup_snoc {α : Type} {l : List α} {x : α} (h : l.Nodup) (n : x ∉ l) : (l ++ [x]).Nodup := by
  rw [List.nodup_append]
  refine ⟨h, by simp, fun a ha b hb q => ?_⟩
  rw [List.mem_singleton] at hb
  subst hb; subst q
  exact n ha
end WW
namespace RD
open PySem L2
theorem d_lstRg {ta : TE} {σ : L2.St} {H : Hp} {Q : VK} (h : ta σ H fun x H1 => ∃ n, x = .int n ∧ RgOk 0 n ∧ ∀ q, H1 q = none → Q (.ref q) (upd H1 q (.lst (rgV 0 n)))) : tLstRg (tRg1 ta) σ H Q := h
end RD

/-! ### breadth first -/
namespace WW
open PySem L2
def Dk (ps : List (Nat × Nat)) : List (Key × V) := ps.map fun p => (Sum.inl (p.1 : Int), V.int p.2)
def look (ps : List (Nat × Nat)) (v : Nat) : Option Nat := (ps.find? fun p => p.1 == v).map (·.2)
theorem valV_Dk (ps : List (Nat × Nat)) (v : Nat) : valV (Dk ps) (Sum.inl (v : Int)) = (look ps v).map fun (d : Nat) => V.int d := by
  induction ps with
  | nil => rfl
  | cons p ps ih =>
    unfold Dk look at *
    rw [List.map_cons, List.find?_cons]
    by_cases c : p.1 = v
    · rw [valV_pos (by rw [c])]
      simp [c]
    · rw [valV_neg (fun z => c (by have := Sum.inl.inj z; omega)), ih]
      have e : (p.1 == v) = false := by simpa using c
      rw [e]
theorem look_none {ps : List (Nat × Nat)} {v : Nat} : look ps v = none ↔ v ∉ ps.map (·.1) := by
  unfold look
  rw [Option.map_eq_none_iff, List.find?_eq_none, List.mem_map]
  constructor
  · rintro h ⟨p, m, e⟩
    exact h p m (by simpa using e)
  · intro h p m e
    exact h ⟨p, m, by simpa using e⟩
theorem look_snoc {ps : List (Nat × Nat)} {v r : Nat} (h : look ps v = none) (w : Nat) : look (ps ++ [(v, r)]) w = if w = v then some r else look ps w := by
  by_cases c : w = v
  · subst c
    rw [if_pos rfl]
    unfold look at *
    rw [List.find?_append]
    rw [Option.map_eq_none_iff] at h
    simp [h]
  · rw [if_neg c]
    unfold look
    rw [List.find?_append]
    have : ((v, r) :: []).find? (fun p : Nat × Nat => p.1 == w) = none := by simp; exact fun z => c z.symm
    rw [this]
    simp
theorem Dk_put {ps : List (Nat × Nat)} {v r : Nat} (h : look ps v = none) : putK (Dk ps) (Sum.inl (v : Int)) (.int r) = Dk (ps ++ [(v, r)]) := by
  rw [putK_new]
  · unfold Dk; rw [List.map_append]; rfl
  · rw [valV_Dk, h]; rfl
/-- what is found while the ring of those r steps away is gone through: Sn was seen -/
structure Bf (E : Nat → Nat → Prop) (g n r : Nat) (ps : List (Nat × Nat)) (far : List Nat) (Sn : Nat → Prop) : Prop where
  st : ∀ v d, look ps v = some d ↔ (Ds E g d v ∧ d ≤ r) ∨ (d = r + 1 ∧ Ds E g (r + 1) v ∧ Sn v)
  far : ∀ v, v ∈ far ↔ Ds E g (r + 1) v ∧ Sn v
  nd : (ps.map (·.1)).Nodup
  lt : ∀ p ∈ ps, p.1 < n
theorem Bf.iff {E : Nat → Nat → Prop} {g n r : Nat} {ps : List (Nat × Nat)} {far : List Nat} {Sn Sm : Nat → Prop} (h : Bf E g n r ps far Sn) (e : ∀ v, Sm v ↔ Sn v) : Bf E g n r ps far Sm :=
  ⟨fun v d => by rw [h.st, e], fun v => by rw [h.far, e], h.nd, h.lt⟩
theorem Bf.len {E : Nat → Nat → Prop} {g n r : Nat} {ps : List (Nat × Nat)} {far : List Nat} {Sn : Nat → Prop} (h : Bf E g n r ps far Sn) : ps.length ≤ n := by
  have := nodup_len n _ h.nd (fun x m => by obtain ⟨p, mp, rfl⟩ := List.mem_map.mp m; exact h.lt p mp)
  rwa [List.length_map] at this
theorem Bf.here {E : Nat → Nat → Prop} {g n r : Nat} {ps : List (Nat × Nat)} {far : List Nat} {Sn : Nat → Prop} (h : Bf E g n r ps far Sn) {u : Nat} (hu : Ds E g r u) : look ps u = some r := (h.st u r).mpr (.inl ⟨hu, Nat.le_refl _⟩)
theorem Bf.old {E : Nat → Nat → Prop} {g n r : Nat} {ps : List (Nat × Nat)} {far : List Nat} {Sn : Nat → Prop} (h : Bf E g n r ps far Sn) {v : Nat} (hv : look ps v ≠ none) : Bf E g n r ps far (fun w => Sn w ∨ w = v) := by
  have key : Ds E g (r + 1) v → Sn v := fun k => by
    cases e : look ps v with
    | none => exact absurd e hv
    | some d =>
      rcases (h.st v d).mp e with ⟨k2, le⟩ | ⟨_, _, s⟩
      · have := k.uniq k2; omega
      · exact s
  have same : ∀ w, (Ds E g (r + 1) w ∧ (Sn w ∨ w = v)) ↔ (Ds E g (r + 1) w ∧ Sn w) := fun w => by
    constructor
    · rintro ⟨a, b | rfl⟩
      · exact ⟨a, b⟩
      · exact ⟨a, key a⟩
    · rintro ⟨a, b⟩; exact ⟨a, .inl b⟩
  exact ⟨fun w d => by rw [h.st, same], fun w => by rw [h.far, same], h.nd, h.lt⟩
theorem Bf.new {E : Nat → Nat → Prop} {g n r : Nat} {ps : List (Nat × Nat)} {far : List Nat} {Sn : Nat → Prop} (h : Bf E g n r ps far Sn) {u v : Nat} (hu : Ds E g r u) (e : E u v) (hn : v < n) (hv : look ps v = none) : Bf E g n r (ps ++ [(v, r + 1)]) (far ++ [v]) (fun w => Sn w ∨ w = v) := by
  have dv : Ds E g (r + 1) v := by
    rcases hu.step e with k | ⟨s, hs, k⟩
    · exact k
    · have := (h.st v s).mpr (.inl ⟨k, hs⟩)
      rw [hv] at this; cases this
  refine ⟨fun w d => ?_, fun w => ?_, ?_, ?_⟩
  · rw [look_snoc hv]
    by_cases c : w = v
    · subst c
      rw [if_pos rfl]
      constructor
      · intro z; cases z; exact .inr ⟨rfl, dv, .inr rfl⟩
      · rintro (⟨k, le⟩ | ⟨rfl, _, _⟩)
        · have := k.uniq dv; omega
        · rfl
    · rw [if_neg c, h.st]
      constructor
      · rintro (k | ⟨a, b, s⟩)
        · exact .inl k
        · exact .inr ⟨a, b, .inl s⟩
      · rintro (k | ⟨a, b, s | s⟩)
        · exact .inl k
        · exact .inr ⟨a, b, s⟩
        · exact (c s).elim
  · rw [List.mem_append, h.far, List.mem_singleton]
    constructor
    · rintro (⟨a, s⟩ | rfl)
      · exact ⟨a, .inl s⟩
      · exact ⟨dv, .inr rfl⟩
    · rintro ⟨a, s | s⟩
      · exact .inl ⟨a, s⟩
      · exact .inr s
  · rw [List.map_append, List.nodup_append]
    refine ⟨h.nd, by simp, fun a ha b hb q => ?_⟩
    simp at hb
    subst hb; subst q
    exact (look_none.mp hv) ha
  · intro p m
    rcases List.mem_append.mp m with m | m
    · exact h.lt p m
    · rw [List.mem_singleton.mp m]; exact hn
/-- between the rounds -/
structure Bo (E : Nat → Nat → Prop) (g n r : Nat) (ps : List (Nat × Nat)) (ring : List Nat) : Prop where
  st : ∀ v d, look ps v = some d ↔ Ds E g d v ∧ d ≤ r
  ring : ∀ v, v ∈ ring ↔ Ds E g r v
  nd : (ps.map (·.1)).Nodup
  lt : ∀ p ∈ ps, p.1 < n
theorem Bo.zero {E : Nat → Nat → Prop} {g n : Nat} (hg : g < n) : Bo E g n 0 [(g, 0)] [g] := by
  have z : ∀ v, Ds E g 0 v ↔ v = g := fun v => ⟨fun h => h.1, fun h => ⟨h, fun _ k => absurd k (Nat.not_lt_zero _)⟩⟩
  refine ⟨fun v d => ?_, fun v => by rw [z, List.mem_singleton], by simp, by simp; exact hg⟩
  unfold look
  by_cases c : g = v
  · subst c
    simp
    constructor
    · rintro rfl; exact ⟨(z _).mpr rfl, rfl⟩
    · rintro ⟨_, h⟩; exact h.symm
  · simp [c]
    intro k
    intro q
    subst q
    exact c ((z _).mp k).symm
theorem Bo.begin {E : Nat → Nat → Prop} {g n r : Nat} {ps : List (Nat × Nat)} {ring : List Nat} (h : Bo E g n r ps ring) : Bf E g n r ps [] (fun _ => False) :=
  ⟨fun v d => by rw [h.st]; simp, fun v => by simp, h.nd, h.lt⟩
theorem Bf.done {E : Nat → Nat → Prop} {g n r : Nat} {ps : List (Nat × Nat)} {ring far : List Nat} {Sn : Nat → Prop} (h : Bf E g n r ps far Sn) (hr : ∀ v, v ∈ ring ↔ Ds E g r v) (hs : ∀ u v, u ∈ ring → E u v → Sn v) : Bo E g n (r + 1) ps far := by
  have se : ∀ v, Ds E g (r + 1) v → Sn v := fun v k => by
    obtain ⟨u, ku, e⟩ := k.back
    exact hs u v ((hr u).mpr ku) e
  refine ⟨fun v d => ?_, fun v => ?_, h.nd, h.lt⟩
  · rw [h.st]
    constructor
    · rintro (⟨k, le⟩ | ⟨rfl, k, _⟩)
      · exact ⟨k, by omega⟩
      · exact ⟨k, Nat.le_refl _⟩
    · rintro ⟨k, le⟩
      by_cases c : d ≤ r
      · exact .inl ⟨k, c⟩
      · have : d = r + 1 := by omega
        subst this
        exact .inr ⟨rfl, k, se v k⟩
  · rw [h.far]
    exact ⟨fun k => k.1, fun k => ⟨k, se v k⟩⟩
theorem Bo.end_ {E : Nat → Nat → Prop} {g n r : Nat} {ps : List (Nat × Nat)} (h : Bo E g n r ps []) (v d : Nat) : look ps v = some d ↔ Ds E g d v := by
  rw [h.st]
  refine ⟨fun k => k.1, fun k => ⟨k, ?_⟩⟩
  by_cases c : d ≤ r
  · exact c
  · obtain ⟨u, ku⟩ := k.down r (by omega)
    exact nomatch (h.ring u).mpr ku
end WW

/-! ### the law's marks -/
namespace WW
open PySem L2
def Ms (n : Nat) (m : Nat → Int) : List V := (List.range n).map fun i => V.int (m i)
theorem Ms_len (n : Nat) (m : Nat → Int) : (Ms n m).length = n := by unfold Ms; rw [List.length_map, List.length_range]
theorem Ms_get {n i : Nat} (m : Nat → Int) (h : i < n) : (Ms n m)[i]? = some (.int (m i)) := by unfold Ms; rw [List.getElem?_map, List.getElem?_range h]; rfl
theorem Ms_set {n i : Nat} (m : Nat → Int) (v : Int) : (Ms n m).set i (.int v) = Ms n (fun j => if j = i then v else m j) := by
  apply List.ext_getElem?
  intro j
  by_cases hj : j < n
  · rw [Ms_get _ hj, List.getElem?_set]
    by_cases c : i = j
    · subst c
      rw [if_pos rfl, Ms_len, if_pos hj, if_pos rfl]
    · rw [if_neg c, if_neg (fun z => c z.symm), Ms_get _ hj]
  · rw [List.getElem?_eq_none (by rw [List.length_set, Ms_len]; omega), List.getElem?_eq_none (by rw [Ms_len]; omega)]
theorem rgV_Ms (n : Nat) : rgV 0 (n : Int) = Ms n (fun i => (i : Int)) := by
  unfold rgV Ms
  rw [show ((n : Int) - 0).toNat = n from by omega]
  refine List.map_congr_left fun i _ => ?_
  rw [Int.zero_add]
/-- the links ahead of spot sp of the watch kk -/
def MkF (ws : List Wd) (W : Wd) (kk sp : Nat) (i j : Nat) : Prop := ∃ l k w, ws[k]? = some w ∧ Hit W l w ∧ (k < kk ∨ (k = kk ∧ l < sp)) ∧ ((i = l ∧ j = l + w.length) ∨ (j = l ∧ i = l + w.length))
theorem MkF.zero {ws : List Wd} {W : Wd} {i j : Nat} : ¬ MkF ws W 0 0 i j := by
  rintro ⟨l, k, w, _, _, c, _⟩
  omega
theorem MkF.next {ws : List Wd} {W w : Wd} {kk sp i j : Nat} (hk : ws[kk]? = some w) (n : w ≠ []) (hs : W.length < sp + w.length) : MkF ws W kk sp i j ↔ MkF ws W (kk + 1) 0 i j := by
  refine ⟨fun ⟨l, k, v, h1, h2, c, h3⟩ => ⟨l, k, v, h1, h2, by omega, h3⟩, fun ⟨l, k, v, h1, h2, c, h3⟩ => ⟨l, k, v, h1, h2, ?_, h3⟩⟩
  by_cases e : k = kk
  · subst e
    rw [hk] at h1; cases h1
    have := h2.bound n
    omega
  · omega
theorem MkF.all {ws : List Wd} {W : Wd} {i j : Nat} : MkF ws W ws.length 0 i j ↔ Link ws W i j := by
  constructor
  · rintro ⟨l, k, w, h1, h2, c, h3⟩
    refine ⟨w, List.mem_of_getElem? h1, ?_⟩
    rcases h3 with ⟨rfl, e⟩ | ⟨rfl, e⟩
    · exact .inl ⟨h2, e⟩
    · exact .inr ⟨h2, e⟩
  · rintro ⟨w, m, h⟩
    obtain ⟨k, hk⟩ := List.getElem?_of_mem m
    have := (List.getElem?_eq_some_iff.mp hk).1
    rcases h with ⟨h, e⟩ | ⟨h, e⟩
    · exact ⟨i, k, w, hk, h, by omega, .inl ⟨rfl, e⟩⟩
    · exact ⟨j, k, w, hk, h, by omega, .inr ⟨rfl, e⟩⟩
theorem MkF.miss {ws : List Wd} {W : Wd} {kk sp : Nat} {w : Wd} (hk : ws[kk]? = some w) (h : ¬ Hit W sp w) (i j : Nat) : MkF ws W kk (sp + 1) i j ↔ MkF ws W kk sp i j := by
  refine ⟨fun ⟨l, k, v, h1, h2, c, h3⟩ => ⟨l, k, v, h1, h2, ?_, h3⟩, fun ⟨l, k, v, h1, h2, c, h3⟩ => ⟨l, k, v, h1, h2, by omega, h3⟩⟩
  rcases c with c | ⟨rfl, c⟩
  · exact .inl c
  · by_cases e : l = sp
    · subst e
      rw [hk] at h1
      cases h1
      exact (h h2).elim
    · exact .inr ⟨rfl, by omega⟩
theorem MkF.hit {ws : List Wd} {W : Wd} {kk sp : Nat} {w : Wd} (hk : ws[kk]? = some w) (h : Hit W sp w) (i j : Nat) : MkF ws W kk (sp + 1) i j ↔ addE (MkF ws W kk sp) sp (sp + w.length) i j := by
  constructor
  · rintro ⟨l, k, v, h1, h2, c, h3⟩
    by_cases e : l = sp ∧ k = kk
    · obtain ⟨rfl, rfl⟩ := e
      rw [hk] at h1
      cases h1
      rcases h3 with ⟨rfl, rfl⟩ | ⟨rfl, rfl⟩
      · exact .inr (.inl ⟨rfl, rfl⟩)
      · exact .inr (.inr ⟨rfl, rfl⟩)
    · exact .inl ⟨l, k, v, h1, h2, by omega, h3⟩
  · rintro (⟨l, k, v, h1, h2, c, h3⟩ | h3)
    · exact ⟨l, k, v, h1, h2, by omega, h3⟩
    · refine ⟨sp, kk, w, hk, h, by omega, ?_⟩
      rcases h3 with ⟨rfl, rfl⟩ | ⟨rfl, rfl⟩
      · exact .inl ⟨rfl, rfl⟩
      · exact .inr ⟨rfl, rfl⟩
theorem Cls.iff {m : Nat → Int} {n : Nat} {F G : Nat → Nat → Prop} (h : Cls m n F) (e : ∀ i j, G i j ↔ F i j) : Cls m n G :=
  ⟨fun i j hi hj z => (h.snd i j hi hj z).mono fun u v k => (e u v).mpr k, fun i j z => h.cmp i j ((e i j).mp z)⟩
theorem Cls.zero {ws : List Wd} {W : Wd} {n : Nat} : Cls (fun i => (i : Int)) n (MkF ws W 0 0) :=
  ⟨fun i j _ _ z => by have : i = j := by omega
                       subst this; exact .refl, fun i j z => (MkF.zero z).elim⟩
/-- marks of the first at spots set anew -/
def relabTo (m : Nat → Int) (a b at_ : Nat) : Nat → Int := fun i => if i < at_ ∧ m i = m b then m a else m i
theorem relabTo_zero (m : Nat → Int) (a b : Nat) : relabTo m a b 0 = m := by funext i; unfold relabTo; rw [if_neg (by omega)]
theorem relabTo_a {m : Nat → Int} {a b t : Nat} : relabTo m a b t a = m a := by unfold relabTo; split <;> rfl
theorem relabTo_at {m : Nat → Int} {a b t : Nat} : relabTo m a b t t = m t := by unfold relabTo; rw [if_neg (by omega)]
theorem relabTo_hit {m : Nat → Int} {a b t : Nat} (h : m t = m b) : (fun j => if j = t then m a else relabTo m a b t j) = relabTo m a b (t + 1) := by
  funext j
  unfold relabTo
  by_cases c : j = t
  · subst c; rw [if_pos rfl, if_pos ⟨by omega, h⟩]
  · rw [if_neg c]
    by_cases d : j < t ∧ m j = m b
    · rw [if_pos d, if_pos ⟨by omega, d.2⟩]
    · rw [if_neg d, if_neg (fun z => d ⟨by omega, z.2⟩)]
theorem relabTo_miss {m : Nat → Int} {a b t : Nat} (h : m t ≠ m b) : relabTo m a b (t + 1) = relabTo m a b t := by
  funext j
  unfold relabTo
  by_cases d : j < t ∧ m j = m b
  · rw [if_pos d, if_pos ⟨by omega, d.2⟩]
  · rw [if_neg d, if_neg (fun z => d ⟨by
      rcases Nat.lt_or_ge j t with q | q
      · exact q
      · have : j = t := by omega
        subst this; exact (h z.2).elim, z.2⟩)]
theorem Ms_congr {n : Nat} {m m' : Nat → Int} (h : ∀ i, i < n → m i = m' i) : Ms n m = Ms n m' := by
  unfold Ms
  exact List.map_congr_left fun i hi => by rw [h i (List.mem_range.mp hi)]
end WW

/-! ### rows of texts, compared -/
namespace OQ
open PySem L2 PySem.Spec PyProof.Rows
def Td (ls : List WW.Wd) : List PyData := ls.map fun l => .str (WW.S l)
theorem Td_all {K : PySem.W.Frag} {H : Hp} : ∀ ls : List WW.Wd, DpAll K H (WW.Ss ls) (Td ls)
  | [] => .nil
  | l :: ls => .cons (.str _) (Td_all ls)
theorem Td_lay : ∀ ls : List WW.Wd, (∀ l ∈ ls, WW.Lw l) → PyData.canLayAll0 (Td ls) = true ∧ PyData.depthAll (Td ls) = 0
  | [], _ => ⟨by rw [Td, List.map_nil, PyData.canLayAll0], by rw [Td, List.map_nil, PyData.depthAll]⟩
  | l :: ls, h => by
    obtain ⟨h1, h2⟩ := Td_lay ls fun x m => h x (List.mem_cons_of_mem _ m)
    have hl := h l (List.mem_cons_self ..)
    have e : Td (l :: ls) = .str (WW.S l) :: Td ls := rfl
    rw [e, PyData.canLayAll0, PyData.canLay0, PyData.depthAll, PyData.depth, h1, h2]
    refine ⟨?_, rfl⟩
    rw [Bool.and_true]
    show (WW.S l).cps.all (· < 0x110000) = true
    have : ∀ c ∈ l, c < 0x110000 := fun c m => by have := hl c m; unfold WW.Lt at this; omega
    simpa [WW.S] using this
theorem Td_shaped (ls : List WW.Wd) (h : ∀ l ∈ ls, WW.Lw l) : SeqAt.shaped (.list (Td ls)) = true ∧ SeqAt.shaped (.tuple (Td ls)) = true := by
  obtain ⟨h1, h2⟩ := Td_lay ls h
  constructor <;> (unfold SeqAt.shaped; rw [PyData.canLay0, PyData.depth, h1, h2]; rfl)
theorem Td_eqv : ∀ ls ms : List WW.Wd, PyData.eqvAll (Td ls) (Td ms) = decide (ls = ms)
  | [], [] => by rw [Td, List.map_nil, PyData.eqvAll]; rfl
  | [], m :: ms => by rw [Td, Td, List.map_nil, List.map_cons, PyData.eqvAll]; rfl
  | l :: ls, [] => by rw [Td, Td, List.map_nil, List.map_cons, PyData.eqvAll]; rfl
  | l :: ls, m :: ms => by
    have e1 : Td (l :: ls) = .str (WW.S l) :: Td ls := rfl
    have e2 : Td (m :: ms) = .str (WW.S m) :: Td ms := rfl
    rw [e1, e2, PyData.eqvAll, PyData.eqv, Td_eqv ls ms, Bool.eq_iff_iff]
    simp only [Bool.and_eq_true, beq_iff_eq, decide_eq_true_eq, List.cons.injEq, WW.S_inj]
theorem d_neSs {K : PySem.W.Frag} {H : Hp} {Q : VK} {a b : Addr} {ls ms : List WW.Wd} (ha : SqL K H a (WW.Ss ls)) (hb : SqL K H b (WW.Ss ms)) (la : ∀ l ∈ ls, WW.Lw l) (lb : ∀ l ∈ ms, WW.Lw l) (k : Q (.bl (!decide (ls = ms))) H) : rNeD K (.ref a) (.ref b) H Q :=
  ⟨_, _, .lst ha (Td_all ls), .lst hb (Td_all ms), (Td_shaped ls la).1, (Td_shaped ms lb).1, by rw [PyData.eqv, Td_eqv]; exact k⟩
theorem d_eqSs {K : PySem.W.Frag} {H : Hp} {Q : VK} {a b : Addr} {ls ms : List WW.Wd} (ha : SqL K H a (WW.Ss ls)) (hb : SqL K H b (WW.Ss ms)) (la : ∀ l ∈ ls, WW.Lw l) (lb : ∀ l ∈ ms, WW.Lw l) (k : Q (.bl (decide (ls = ms))) H) : rEqD K (.ref a) (.ref b) H Q :=
  ⟨_, _, .lst ha (Td_all ls), .lst hb (Td_all ms), (Td_shaped ls la).1, (Td_shaped ms lb).1, by rw [PyData.eqv, Td_eqv]; exact k⟩
theorem d_eqSsT {K : PySem.W.Frag} {H : Hp} {Q : VK} {a b : Addr} {ls ms : List WW.Wd} (ha : SqT K H a (WW.Ss ls)) (hb : SqT K H b (WW.Ss ms)) (la : ∀ l ∈ ls, WW.Lw l) (lb : ∀ l ∈ ms, WW.Lw l) (k : Q (.bl (decide (ls = ms))) H) : rEqD K (.ref a) (.ref b) H Q :=
  ⟨_, _, .tup ha (Td_all ls), .tup hb (Td_all ms), (Td_shaped ls la).2, (Td_shaped ms lb).2, by rw [PyData.eqv, Td_eqv]; exact k⟩
theorem d_neSsT {K : PySem.W.Frag} {H : Hp} {Q : VK} {a b : Addr} {ls ms : List WW.Wd} (ha : SqT K H a (WW.Ss ls)) (hb : SqT K H b (WW.Ss ms)) (la : ∀ l ∈ ls, WW.Lw l) (lb : ∀ l ∈ ms, WW.Lw l) (k : Q (.bl (!decide (ls = ms))) H) : rNeD K (.ref a) (.ref b) H Q :=
  ⟨_, _, .tup ha (Td_all ls), .tup hb (Td_all ms), (Td_shaped ls la).2, (Td_shaped ms lb).2, by rw [PyData.eqv, Td_eqv]; exact k⟩
end OQ

/-! ### a piece found in a word -/
namespace WW
open PySem L2
theorem Hit.of_sub {W w : Wd} {i : Nat} : Builtin.Str.subAt (S W) (S w) i = true ↔ Hit W i w := by
  rw [StrLaws.subAt_eq, beq_iff_eq, S_cps, S_cps, S_len]
  unfold Hit piece
  rw [Nat.add_sub_cancel_left]
theorem occ_full (s sub : Str) (hi : Nat) : ∀ (l : List Nat) (a f : Nat), (forIn l (#[a], f) (StrLaws.occBody s sub hi 1)).run.fst = #[a]
  | [], a, f => rfl
  | x :: l, a, f => by
    rw [List.forIn_cons]
    unfold StrLaws.occBody
    rw [if_neg (by intro h; have := h.1.1.1; simp at this)]
    exact occ_full s sub hi l a f
theorem occ_first (s sub : Str) (hi : Nat) : ∀ (n lo free : Nat), free ≤ lo →
    (∃ i, lo ≤ i ∧ i < lo + n ∧ i + sub.length ≤ hi ∧ Builtin.Str.subAt s sub i = true ∧ (∀ j, lo ≤ j → j < i → ¬ (j + sub.length ≤ hi ∧ Builtin.Str.subAt s sub j = true)) ∧ (forIn (List.range' lo n) ((#[] : Array Nat), free) (StrLaws.occBody s sub hi 1)).run.fst = #[i]) ∨
    ((∀ j, lo ≤ j → j < lo + n → ¬ (j + sub.length ≤ hi ∧ Builtin.Str.subAt s sub j = true)) ∧ (forIn (List.range' lo n) ((#[] : Array Nat), free) (StrLaws.occBody s sub hi 1)).run.fst = #[])
  | 0, lo, free, _ => .inr ⟨fun j h1 h2 => by omega, rfl⟩
  | n + 1, lo, free, hf => by
    rw [List.range'_succ, List.forIn_cons]
    by_cases hc : lo + sub.length ≤ hi ∧ Builtin.Str.subAt s sub lo = true
    · refine .inl ⟨lo, Nat.le_refl _, by omega, hc.1, hc.2, fun j h1 h2 => by omega, ?_⟩
      have c1 : (((#[] : Array Nat), free).fst.size < 1 ∧ ((#[] : Array Nat), free).snd ≤ lo) ∧ lo + sub.length ≤ hi := ⟨⟨by simp, hf⟩, hc.1⟩
      have e : StrLaws.occBody s sub hi 1 lo ((#[] : Array Nat), free) = pure (ForInStep.yield (#[lo], lo + sub.length)) := by
        unfold StrLaws.occBody
        rw [if_pos ⟨c1, hc.2⟩]
        rfl
      rw [e]
      exact occ_full s sub hi _ lo _
    · have e : StrLaws.occBody s sub hi 1 lo ((#[] : Array Nat), free) = pure (ForInStep.yield ((#[] : Array Nat), free)) := by
        unfold StrLaws.occBody
        rw [if_neg (fun h => hc ⟨h.1.2, h.2⟩)]
      rw [e]
      rcases occ_first s sub hi n (lo + 1) free (by omega) with ⟨i, h1, h2, h3, h4, h5, h6⟩ | ⟨h1, h2⟩
      · refine .inl ⟨i, by omega, by omega, h3, h4, fun j j1 j2 => ?_, h6⟩
        by_cases c : j = lo
        · subst c; exact hc
        · exact h5 j (by omega) j2
      · refine .inr ⟨fun j j1 j2 => ?_, h2⟩
        by_cases c : j = lo
        · subst c; exact hc
        · exact h1 j (by omega) (by omega)
/-- what a search for w from spot lo on tells: the next spot where it stands, or -1 -/
def Nx (W w : Wd) (lo : Nat) (v : Int) : Prop := (∃ i : Nat, v = i ∧ lo ≤ i ∧ Hit W i w ∧ ∀ j, lo ≤ j → j < i → ¬ Hit W j w) ∨ (v = -1 ∧ ∀ j, lo ≤ j → ¬ Hit W j w)
theorem occ_nx {W w : Wd} {lo : Nat} (n : w ≠ []) : Nx W w lo (match Builtin.Str.occurrences (S W) (S w) lo (S W).length 1 with | i :: _ => (i : Int) | [] => -1) := by
  rw [StrLaws.occ_eq]
  rcases occ_first (S W) (S w) (S W).length ((S W).length + 1 - lo) lo lo (Nat.le_refl _) with ⟨i, h1, h2, h3, h4, h5, h6⟩ | ⟨h1, h2⟩
  · rw [h6]
    refine .inl ⟨i, rfl, h1, Hit.of_sub.mp h4, fun j j1 j2 z => h5 j j1 j2 ⟨?_, Hit.of_sub.mpr z⟩⟩
    rw [S_len, S_len]; exact z.bound n
  · rw [h2]
    refine .inr ⟨rfl, fun j j1 z => ?_⟩
    have b := z.bound n
    have l0 : 0 < w.length := List.length_pos_iff.mpr n
    refine h1 j j1 ?_ ⟨by rw [S_len, S_len]; exact b, Hit.of_sub.mpr z⟩
    rw [S_len]; omega
theorem find_nx {W w : Wd} (n : w ≠ []) : Nx W w 0 (Txt.find (S W) (S w)) := occ_nx n
theorem find3_nx {W w : Wd} {lo : Nat} {i : Int} (n : w ≠ []) (e : i = lo) : Nx W w lo (Txt.find3 (S W) (S w) i) := by
  subst e
  have e : PySem.fromIndex (S W).length (lo : Int) = lo := by
    unfold PySem.fromIndex
    split <;> omega
  have h := occ_nx (W := W) (w := w) (lo := lo) n
  unfold Txt.find3
  rw [e]
  exact h
/-! the links, as they are found piece by piece -/
/-- those found ahead of spot low with the piece kk -/
def LkG (ws : List Wd) (W : Wd) (kk low : Nat) (i j : Nat) : Prop := ∃ l k w, ws[k]? = some w ∧ Hit W l w ∧ (k < kk ∨ (k = kk ∧ l < low)) ∧ ((i = l ∧ j = l + w.length) ∨ (j = l ∧ i = l + w.length))
theorem LkG.zero {ws : List Wd} {W : Wd} {i j : Nat} : ¬ LkG ws W 0 0 i j := by
  rintro ⟨l, k, w, _, _, c, _⟩
  omega
theorem LkG.skip {ws : List Wd} {W w : Wd} {kk lo hi : Nat} (hk : ws[kk]? = some w) (le : lo ≤ hi) (n : ∀ j, lo ≤ j → j < hi → ¬ Hit W j w) (i j : Nat) : LkG ws W kk hi i j ↔ LkG ws W kk lo i j := by
  refine ⟨fun ⟨l, k, v, h1, h2, c, h3⟩ => ⟨l, k, v, h1, h2, ?_, h3⟩, fun ⟨l, k, v, h1, h2, c, h3⟩ => ⟨l, k, v, h1, h2, by omega, h3⟩⟩
  rcases c with c | ⟨rfl, c⟩
  · exact .inl c
  · rw [hk] at h1
    cases h1
    refine .inr ⟨rfl, ?_⟩
    apply Nat.lt_of_not_le
    intro z
    exact n l z c h2
theorem LkG.next {ws : List Wd} {W w : Wd} {kk lo i j : Nat} (hk : ws[kk]? = some w) (n : ∀ j, lo ≤ j → ¬ Hit W j w) : LkG ws W (kk + 1) 0 i j ↔ LkG ws W kk lo i j := by
  refine ⟨fun ⟨l, k, v, h1, h2, c, h3⟩ => ⟨l, k, v, h1, h2, ?_, h3⟩, fun ⟨l, k, v, h1, h2, c, h3⟩ => ⟨l, k, v, h1, h2, by omega, h3⟩⟩
  by_cases e : k = kk
  · subst e
    rw [hk] at h1
    cases h1
    refine .inr ⟨rfl, ?_⟩
    apply Nat.lt_of_not_le
    intro z
    exact n l z h2
  · omega
theorem LkG.all {ws : List Wd} {W : Wd} {i j : Nat} : LkG ws W ws.length 0 i j ↔ Link ws W i j := by
  constructor
  · rintro ⟨l, k, w, h1, h2, c, h3⟩
    refine ⟨w, List.mem_of_getElem? h1, ?_⟩
    rcases h3 with ⟨rfl, e⟩ | ⟨rfl, e⟩
    · exact .inl ⟨h2, e⟩
    · exact .inr ⟨h2, e⟩
  · rintro ⟨w, m, h⟩
    obtain ⟨k, hk⟩ := List.getElem?_of_mem m
    have kl := (List.getElem?_eq_some_iff.mp hk).1
    rcases h with ⟨h, e⟩ | ⟨h, e⟩
    · exact ⟨i, k, w, hk, h, .inl kl, .inl ⟨rfl, e⟩⟩
    · exact ⟨j, k, w, hk, h, .inl kl, .inr ⟨rfl, e⟩⟩
theorem LkG.hit {ws : List Wd} {W : Wd} {low kk : Nat} {w : Wd} (hk : ws[kk]? = some w) (h : Hit W low w) (i j : Nat) : LkG ws W kk (low + 1) i j ↔ addE (LkG ws W kk low) low (low + w.length) i j := by
  constructor
  · rintro ⟨l, k, v, h1, h2, c, h3⟩
    by_cases e : l = low ∧ k = kk
    · obtain ⟨rfl, rfl⟩ := e
      rw [hk] at h1
      cases h1
      rcases h3 with ⟨rfl, rfl⟩ | ⟨rfl, rfl⟩
      · exact .inr (.inl ⟨rfl, rfl⟩)
      · exact .inr (.inr ⟨rfl, rfl⟩)
    · exact .inl ⟨l, k, v, h1, h2, by omega, h3⟩
  · rintro (⟨l, k, v, h1, h2, c, h3⟩ | h3)
    · exact ⟨l, k, v, h1, h2, by omega, h3⟩
    · refine ⟨low, kk, w, hk, h, by omega, ?_⟩
      rcases h3 with ⟨rfl, rfl⟩ | ⟨rfl, rfl⟩
      · exact .inl ⟨rfl, rfl⟩
      · exact .inr ⟨rfl, rfl⟩
theorem LkG.new {ws : List Wd} {W : Wd} {low kk : Nat} {w : Wd} (nd : ws.Nodup) (n : ∀ w ∈ ws, w ≠ []) (hk : ws[kk]? = some w) (h : Hit W low w) : ¬ LkG ws W kk low low (low + w.length) ∧ ¬ LkG ws W kk low (low + w.length) low := by
  have l0 : 0 < w.length := List.length_pos_iff.mpr (n w (List.mem_of_getElem? hk))
  have key : ∀ l k v, ws[k]? = some v → Hit W l v → (k < kk ∨ (k = kk ∧ l < low)) → l = low → v.length = w.length → False := by
    rintro l k v h1 h2 c rfl e
    have e2 : v = w := by
      unfold Hit at h2 h
      rw [← h2, ← h, e]
    subst e2
    have := (List.getElem?_inj (List.getElem?_eq_some_iff.mp h1).1 nd).mp (h1.trans hk.symm)
    omega
  refine ⟨fun ⟨l, k, v, h1, h2, c, h3⟩ => ?_, fun ⟨l, k, v, h1, h2, c, h3⟩ => ?_⟩ <;>
  · have l1 : 0 < v.length := List.length_pos_iff.mpr (n v (List.mem_of_getElem? h1))
    exact key l k v h1 h2 c (by omega) (by omega)
theorem LkG.le {ws : List Wd} {W : Wd} {low kk i j : Nat} (n : ∀ w ∈ ws, w ≠ []) (h : LkG ws W low kk i j) : i ≤ W.length ∧ j ≤ W.length := by
  obtain ⟨l, k, w, h1, h2, c, h3⟩ := h
  have := h2.bound (n w (List.mem_of_getElem? h1))
  omega
/-- rows of links, of pieces that may be alike -/
structure LkJ (rows : Nat → List Nat) (F : Nat → Nat → Prop) (u : Prop) (m : Nat) : Prop where
  mem : ∀ i j, j ∈ rows i ↔ F i j
  nd : u → ∀ i, (rows i).Nodup
  len : ∀ i, (rows i).length ≤ m
theorem push2 (rows : Nat → List Nat) {a b : Nat} (ne : a ≠ b) (i : Nat) : push (push rows a b) b a i = if i = a then rows i ++ [b] else if i = b then rows i ++ [a] else rows i := by
  unfold push
  by_cases c : i = a
  · subst c; rw [if_neg ne, if_pos rfl, if_pos rfl]
  · simp only [if_neg c]
theorem LkJ.add {rows : Nat → List Nat} {F : Nat → Nat → Prop} {u : Prop} {m a b : Nat} (h : LkJ rows F u m) (ne : a ≠ b) (n1 : u → ¬ F a b) (n2 : u → ¬ F b a) : LkJ (push (push rows a b) b a) (addE F a b) u (m + 1) := by
  refine ⟨fun i j => ?_, fun hu => ?_, fun i => ?_⟩
  · rw [push2 rows ne]
    split
    · rename_i c
      subst c
      rw [List.mem_append, h.mem, List.mem_singleton]
      unfold addE
      constructor
      · rintro (z | z)
        · exact .inl z
        · exact .inr (.inl ⟨rfl, z⟩)
      · rintro (z | ⟨_, z⟩ | ⟨_, z⟩)
        · exact .inl z
        · exact .inr z
        · exact (ne z).elim
    · rename_i c
      split
      · rename_i d
        subst d
        rw [List.mem_append, h.mem, List.mem_singleton]
        unfold addE
        constructor
        · rintro (z | z)
          · exact .inl z
          · exact .inr (.inr ⟨z, rfl⟩)
        · rintro (z | ⟨z, _⟩ | ⟨z, _⟩)
          · exact .inl z
          · exact (c z).elim
          · exact .inr z
      · rename_i d
        rw [h.mem]
        unfold addE
        constructor
        · exact .inl
        · rintro (z | ⟨z, _⟩ | ⟨_, z⟩)
          · exact z
          · exact (c z).elim
          · exact (d z).elim
  · exact (LkI.add ⟨h.mem, h.nd hu⟩ ne (n1 hu) (n2 hu)).nd
  · rw [push2 rows ne]
    have := h.len i
    split
    · rw [List.length_append, List.length_singleton]; omega
    · split
      · rw [List.length_append, List.length_singleton]; omega
      · omega
theorem LkJ.iff {rows : Nat → List Nat} {F G : Nat → Nat → Prop} {u : Prop} {m n : Nat} (h : LkJ rows F u m) (e : ∀ i j, G i j ↔ F i j) (le : m ≤ n) : LkJ rows G u n := ⟨fun i j => (h.mem i j).trans (e i j).symm, h.nd, fun i => Nat.le_trans (h.len i) le⟩
theorem LkJ.zero {ws : List Wd} {W : Wd} {u : Prop} : LkJ (fun _ => []) (LkG ws W 0 0) u 0 := ⟨fun i j => ⟨fun z => (nomatch z), fun z => (LkG.zero z).elim⟩, fun _ _ => List.nodup_nil, fun _ => Nat.le_refl _⟩
/-- ints sorted, as numbers, some alike -/
theorem sorted_natsG {r : List Nat} {ns : List Int} (p : ns.Perm (r.map fun (j : Nat) => (j : Int))) (s : ns.Pairwise (· ≤ ·)) : ∃ q : List Nat, ns = q.map (fun (j : Nat) => (j : Int)) ∧ q.Perm r ∧ q.Pairwise (· ≤ ·) := by
  refine ⟨ns.map Int.toNat, ?_, ?_, ?_⟩
  · rw [List.map_map]
    have : ∀ z ∈ ns, ((fun (j : Nat) => (j : Int)) ∘ Int.toNat) z = z := fun z m => by
      obtain ⟨j, _, rfl⟩ := List.mem_map.mp (p.mem_iff.mp m)
      simp
    rw [List.map_congr_left this, List.map_id']
  · have := p.map Int.toNat
    rw [List.map_map] at this
    have e : (Int.toNat ∘ fun (j : Nat) => (j : Int)) = id := by funext x; simp
    rw [e, List.map_id] at this
    exact this
  · rw [List.pairwise_map]
    exact s.imp fun h => by omega
theorem strict_of {q : List Nat} (s : q.Pairwise (· ≤ ·)) (nd : q.Nodup) : q.Pairwise (· < ·) := by
  have := s.and nd
  exact this.imp fun ⟨h1, h2⟩ => by omega
end WW
namespace RD
open PySem L2
theorem tyS {K : PySem.W.Frag} {H : Hp} {z : Str} : tyV K "str" (.str z) H := rfl
def rFind1 : V → List V → Hp → VK → Prop := fun x xs H Q => ∃ a b, x = .str a ∧ xs = [.str b] ∧ Q (.int (Txt.find a b)) H
def rFind2 : V → List V → Hp → VK → Prop := fun x xs H Q => ∃ (a b : Str) (i : Int), x = .str a ∧ xs = [.str b, .int i] ∧ Q (.int (Txt.find3 a b i)) H
theorem m_find1 {X : Cx} : MtR X "str.find" rFind1 := mt_find
theorem m_find2 {X : Cx} : MtR X "str.find" rFind2 := mt_find3
theorem d_find1 {W w : WW.Wd} {H : Hp} {Q : VK} (n : w ≠ []) (h : ∀ v, WW.Nx W w 0 v → Q (.int v) H) : rFind1 (.str (WW.S W)) [.str (WW.S w)] H Q := ⟨_, _, rfl, rfl, h _ (WW.find_nx n)⟩
theorem d_find2 {W w : WW.Wd} {lo : Nat} {i : Int} {H : Hp} {Q : VK} (n : w ≠ []) (e : i = lo) (h : ∀ v, WW.Nx W w lo v → Q (.int v) H) : rFind2 (.str (WW.S W)) [.str (WW.S w), .int i] H Q := ⟨_, _, _, rfl, rfl, h _ (WW.find3_nx n e)⟩
end RD
namespace OQ
open PySem L2
theorem d_seqVar2 {K : PySem.W.Frag} {σ : L2.St} {H0 H : Hp} {R : It → Hp → Prop} {n : Nat} {a : Addr} {xs : List V} (e : σ[n]? = some (some (.ref a))) (h : SeqAt K H0 a xs) (s : Same H0 H)
    (k : ∀ J G, Walk J xs.length G (YAt xs) → (∀ H', Same H0 H' → G H') → R J H) : iOr (iList K (tVar n)) (iTup K (tVar n)) σ H R := by
  rcases h with h | h
  · exact .inl ⟨_, e, a, rfl, ⟨xs, s.seq h⟩, k _ _ walk_list fun H' s => s.seq h⟩
  · exact .inr ⟨_, e, a, rfl, ⟨xs, sqT_same h s⟩, k _ _ walk_tup fun H' s => sqT_same h s⟩
end OQ

/-! ### texts joined -/
namespace WW
open PySem L2
theorem joinL_nil : ∀ ls : List (List Nat), TL.joinL [] ls = ls.flatten
  | [] => rfl
  | [p] => by simp [TL.joinL]
  | p :: q :: r => by
    rw [TL.joinL, joinL_nil (q :: r)]
    simp
theorem S_join (ls : List Wd) : Txt.join (S []) (ls.map S) = S ls.flatten := by
  have h := TL.tl_join (S []) (ls.map S)
  have e : TL.tl (S []) = [] := rfl
  rw [e, joinL_nil, List.map_map] at h
  have e2 : ls.map (TL.tl ∘ S) = ls := by
    have : ∀ l ∈ ls, (TL.tl ∘ S) l = l := fun l _ => rfl
    rw [List.map_congr_left this, List.map_id']
  rw [e2] at h
  rw [StrLaws.glued_eq_join (S []) (ls.map S) |> fun z => (show Txt.join (S []) (ls.map S) = Str.join (S []) (ls.map S) from z), S_of (Str.join _ _)]
  exact congrArg S h
/-- words of one letter -/
def Ones (ls : List Wd) : Prop := ∀ l ∈ ls, ∃ c, l = [c] ∧ Lt c
theorem Ones.flat : ∀ {ls : List Wd}, Ones ls → ls.flatten.length = ls.length ∧ Lw ls.flatten
  | [], _ => ⟨rfl, Lw.nil⟩
  | l :: ls, h => by
    obtain ⟨c, rfl, hc⟩ := h l (List.mem_cons_self ..)
    obtain ⟨h1, h2⟩ := Ones.flat (ls := ls) fun x m => h x (List.mem_cons_of_mem _ m)
    rw [List.flatten_cons]
    exact ⟨by rw [List.length_append, h1]; simp; omega, (Lw.one hc).app h2⟩
theorem Ones.snoc {ls : List Wd} {c : Nat} (h : Ones ls) (k : Lt c) : Ones (ls ++ [[c]]) := fun l m => (List.mem_append.mp m).elim (h l) fun z => ⟨c, List.mem_singleton.mp z, k⟩
theorem Ones.sum : ∀ {ls : List Wd}, Ones ls → ((ls.map S).map (·.length)).sum = ls.length
  | [], _ => rfl
  | l :: ls, h => by
    obtain ⟨c, rfl, hc⟩ := h l (List.mem_cons_self ..)
    have ih := Ones.sum (ls := ls) fun x m => h x (List.mem_cons_of_mem _ m)
    rw [List.map_cons, List.map_cons, List.sum_cons, ih, S_len]; simp; omega
end WW
namespace RD
open PySem L2
theorem d_m1 {r : V → List V → Hp → VK → Prop} {to te : TE} {σ : L2.St} {H : Hp} {Q : VK} (h : to σ H fun x H1 => (∃ a, x = .str a) ∧ te σ H1 fun y H2 => r x [y] H2 Q) : tM1 r to te σ H Q := h
end RD

/-! ### ways, compared as tuples -/
namespace WW
open PySem L2
def Ii (p : List Nat) : List Int := p.map fun (j : Nat) => (j : Int)
def lx (p q : List Nat) : Bool := HT.lexLt (Ii p) (Ii q)
theorem lx_cons (x y : Nat) (p q : List Nat) : lx (x :: p) (y :: q) = if x = y then lx p q else decide (x < y) := by
  unfold lx Ii
  rw [List.map_cons, List.map_cons, HT.lexLt_cons]
  by_cases c : x = y
  · subst c; rw [if_pos rfl, if_pos rfl]
  · rw [if_neg (by omega), if_neg c, decide_eq_decide]; omega
theorem lx_irr : ∀ p : List Nat, lx p p = false
  | [] => rfl
  | x :: p => by rw [lx_cons, if_pos rfl]; exact lx_irr p
theorem lx_tri : ∀ {p q : List Nat}, p.length = q.length → lx p q = false → lx q p = false → p = q
  | [], [], _, _, _ => rfl
  | [], _ :: _, h, _, _ => by simp at h
  | _ :: _, [], h, _, _ => by simp at h
  | x :: p, y :: q, h, a, b => by
    rw [lx_cons] at a b
    by_cases c : x = y
    · subst c
      rw [if_pos rfl] at a b
      rw [lx_tri (by simpa using h) a b]
    · rw [if_neg c] at a
      rw [if_neg (fun z => c z.symm)] at b
      simp at a b
      omega
theorem lx_asym : ∀ {p q : List Nat}, lx p q = true → lx q p = false
  | [], [], _ => rfl
  | [], _ :: _, _ => rfl
  | _ :: _, [], h => by cases h
  | x :: p, y :: q, h => by
    rw [lx_cons] at h ⊢
    by_cases c : x = y
    · subst c
      rw [if_pos rfl] at h ⊢
      exact lx_asym h
    · rw [if_neg c] at h
      rw [if_neg (fun z => c z.symm)]
      simp at h ⊢
      omega
/-- not less goes on -/
theorem lx_le : ∀ {p q r : List Nat}, p.length = q.length → q.length = r.length → lx q p = false → lx r q = false → lx r p = false
  | [], [], [], _, _, _, _ => rfl
  | [], _ :: _, _, h, _, _, _ => by simp at h
  | _ :: _, [], _, h, _, _, _ => by simp at h
  | _, [], _ :: _, _, h, _, _ => by simp at h
  | _, _ :: _, [], _, h, _, _ => by simp at h
  | x :: p, y :: q, z :: r, h, k, a, b => by
    rw [lx_cons] at a b ⊢
    by_cases c : y = x
    · subst c
      rw [if_pos rfl] at a
      by_cases d : z = y
      · subst d
        rw [if_pos rfl] at b ⊢
        exact lx_le (by simpa using h) (by simpa using k) a b
      · rw [if_neg d] at b ⊢
        exact b
    · rw [if_neg c] at a
      by_cases d : z = y
      · subst d
        rw [if_neg c]; exact a
      · rw [if_neg d] at b
        simp at a b
        rw [if_neg (by omega)]
        simp; omega
/-- the last numbers put on -/
theorem lx_app : ∀ {p q : List Nat} (s t : List Nat), p.length = q.length → lx (p ++ s) (q ++ t) = if p = q then lx s t else lx p q
  | [], [], s, t, _ => by rw [if_pos rfl]; rfl
  | [], _ :: _, _, _, h => by simp at h
  | _ :: _, [], _, _, h => by simp at h
  | x :: p, y :: q, s, t, h => by
    rw [List.cons_append, List.cons_append, lx_cons, lx_cons, lx_app s t (by simpa using h)]
    by_cases c : x = y
    · subst c
      rw [if_pos rfl, if_pos rfl]
      by_cases d : p = q
      · subst d; rw [if_pos rfl, if_pos rfl]
      · rw [if_neg d, if_neg (fun z => d (List.cons.inj z).2)]
    · rw [if_neg c, if_neg c, if_neg (fun z => c (List.cons.inj z).1)]
/-- p goes from g to v by r steps -/
def IsP (E : Nat → Nat → Prop) (g : Nat) : Nat → List Nat → Nat → Prop
  | 0, p, v => p = [g] ∧ v = g
  | r + 1, p, v => ∃ q u, IsP E g r q u ∧ E u v ∧ p = q ++ [v]
theorem IsP.len {E : Nat → Nat → Prop} {g : Nat} : ∀ {r : Nat} {p : List Nat} {v : Nat}, IsP E g r p v → p.length = r + 1
  | 0, _, _, ⟨rfl, _⟩ => rfl
  | r + 1, _, _, ⟨q, u, h, _, rfl⟩ => by rw [List.length_append, h.len]; rfl
theorem IsP.wk {E : Nat → Nat → Prop} {g : Nat} : ∀ {r : Nat} {p : List Nat} {v : Nat}, IsP E g r p v → Wk E g r v
  | 0, _, _, ⟨_, rfl⟩ => rfl
  | r + 1, _, _, ⟨q, u, h, e, _⟩ => ⟨u, h.wk, e⟩
theorem Wk.isP {E : Nat → Nat → Prop} {g : Nat} : ∀ {r v : Nat}, Wk E g r v → ∃ p, IsP E g r p v
  | 0, _, rfl => ⟨[g], rfl, rfl⟩
  | r + 1, v, ⟨u, h, e⟩ => let ⟨q, k⟩ := h.isP; ⟨q ++ [v], q, u, k, e, rfl⟩
theorem IsP.last {E : Nat → Nat → Prop} {g r : Nat} {p : List Nat} {v : Nat} (h : IsP E g r p v) : p[r]? = some v := by
  cases r with
  | zero => obtain ⟨rfl, rfl⟩ := h; rfl
  | succ r =>
    obtain ⟨q, u, k, e, rfl⟩ := h
    rw [List.getElem?_append_right (by rw [k.len]; omega), k.len, Nat.sub_self]; rfl
/-- what stands at place i of a way -/
theorem IsP.part {E : Nat → Nat → Prop} {g : Nat} : ∀ {r : Nat} {p : List Nat} {v : Nat}, IsP E g r p v → ∀ i, i ≤ r → ∃ u, p[i]? = some u ∧ IsP E g i (p.take (i + 1)) u ∧ Wk E u (r - i) v
  | 0, _, _, ⟨rfl, rfl⟩, 0, _ => ⟨g, rfl, ⟨rfl, rfl⟩, rfl⟩
  | r + 1, _, v, ⟨q, u, h, e, rfl⟩, i, hi => by
    have ql := h.len
    by_cases c : i = r + 1
    · subst c
      refine ⟨v, by rw [List.getElem?_append_right (by omega), ql, Nat.sub_self]; rfl, ?_, by rw [Nat.sub_self]; rfl⟩
      rw [List.take_of_length_le (by rw [List.length_append, ql]; exact Nat.le_refl _)]
      exact ⟨q, u, h, e, rfl⟩
    · obtain ⟨x, e1, e2, e3⟩ := h.part i (by omega)
      refine ⟨x, by rw [List.getElem?_append_left (by omega)]; exact e1, ?_, ?_⟩
      · rw [List.take_append_of_le_length (by omega)]; exact e2
      · rw [show r + 1 - i = (r - i) + 1 from by omega]
        exact ⟨u, e3, e⟩
theorem Wk.symm {E : Nat → Nat → Prop} (sy : ∀ u v, E u v → E v u) {u v r : Nat} (h : Wk E u r v) : Wk E v r u := by
  induction r generalizing v with
  | zero => cases (show v = u from h); rfl
  | succ r ih =>
    obtain ⟨x, k, e⟩ := h
    have := (show Wk E v 1 x from ⟨v, rfl, sy _ _ e⟩).trans (ih k)
    rwa [Nat.add_comm] at this
/-- the least way to v by r steps -/
def Lst (E : Nat → Nat → Prop) (g r : Nat) (p : List Nat) (v : Nat) : Prop := IsP E g r p v ∧ ∀ q, IsP E g r q v → lx q p = false
theorem Lst.uniq {E : Nat → Nat → Prop} {g r v : Nat} {p q : List Nat} (a : Lst E g r p v) (b : Lst E g r q v) : p = q :=
  lx_tri (a.1.len.trans b.1.len.symm) (b.2 _ a.1) (a.2 _ b.1)
/-- the least of the ways over the nearer ones -/
theorem Lst.step {E : Nat → Nat → Prop} {g r v : Nat} {L : Nat → List Nat} (hv : Ds E g (r + 1) v) (hL : ∀ u, Ds E g r u → Lst E g r (L u) u) {m : List Nat} (hm : ∃ u, Ds E g r u ∧ E u v ∧ m = L u ++ [v])
    (least : ∀ u, Ds E g r u → E u v → lx (L u ++ [v]) m = false) : Lst E g (r + 1) m v := by
  obtain ⟨u, du, e, rfl⟩ := hm
  refine ⟨⟨L u, u, (hL u du).1, e, rfl⟩, ?_⟩
  rintro _ ⟨q, x, hq, ex, rfl⟩
  have dx : Ds E g r x := ⟨hq.wk, fun s hs k => hv.2 (s + 1) (by omega) ⟨x, k, ex⟩⟩
  have l1 := (hL u du).1.len
  have l2 := (hL x dx).1.len
  have l3 := hq.len
  have h1 : lx (q ++ [v]) (L x ++ [v]) = false := by
    rw [lx_app _ _ (l3.trans l2.symm)]
    split
    · exact lx_irr _
    · exact (hL x dx).2 q hq
  exact lx_le (by simp [l1, l2]) (by simp [l2, l3]) (least x dx ex) h1
/-- a way from 0 that goes nearer to n, the least so far -/
structure Gr (E : Nat → Nat → Prop) (n k0 i : Nat) (p : List Nat) (v : Nat) : Prop where
  isp : IsP E 0 i p v
  d : Ds E n (k0 - i) v
  le : i ≤ k0
  least : ∀ q, IsP E 0 k0 q n → lx (q.take (i + 1)) p = false
theorem Gr.zero {E : Nat → Nat → Prop} {n k0 : Nat} (h : Ds E n k0 0) : Gr E n k0 0 [0] 0 :=
  ⟨⟨rfl, rfl⟩, h, Nat.zero_le _, fun q hq => by
    obtain ⟨u, e1, e2, _⟩ := hq.part 0 (Nat.zero_le _)
    rw [e2.1]; exact lx_irr _⟩
theorem Gr.end_ {E : Nat → Nat → Prop} {n k0 i : Nat} {p : List Nat} (h : Gr E n k0 i p n) : i = k0 := by
  have z : Ds E n 0 n := ⟨rfl, fun _ k => absurd k (Nat.not_lt_zero _)⟩
  have := h.d.uniq z
  have := h.le
  omega
theorem Gr.lst {E : Nat → Nat → Prop} {n k0 i : Nat} {p : List Nat} (h : Gr E n k0 i p n) : Lst E 0 k0 p n := by
  have e := h.end_
  subst e
  exact ⟨h.isp, fun q hq => by have := h.least q hq; rwa [List.take_of_length_le (by rw [hq.len]; exact Nat.le_refl _)] at this⟩
theorem Gr.lt {E : Nat → Nat → Prop} {n k0 i v : Nat} {p : List Nat} (h : Gr E n k0 i p v) (c : v ≠ n) : i < k0 := by
  have := h.le
  rcases Nat.lt_or_ge i k0 with z | z
  · exact z
  · have d := h.d
    rw [show k0 - i = 0 from by omega] at d
    exact (c d.1).elim
theorem Gr.some {E : Nat → Nat → Prop} (sy : ∀ u v, E u v → E v u) {n k0 i v : Nat} {p : List Nat} (h : Gr E n k0 i p v) (c : v ≠ n) : ∃ x d, E v x ∧ Ds E n d x ∧ d < k0 - i := by
  have := h.lt c
  have d := h.d
  rw [show k0 - i = (k0 - i - 1) + 1 from by omega] at d
  obtain ⟨x, dx, e⟩ := d.back
  exact ⟨x, _, sy _ _ e, dx, by omega⟩
theorem Gr.step {E : Nat → Nat → Prop} (sy : ∀ u v, E u v → E v u) {n k0 i v x d : Nat} {p : List Nat} (h : Gr E n k0 i p v) (c : v ≠ n) (e : E v x) (dx : Ds E n d x) (dl : d < k0 - i) (least : ∀ y d', E v y → Ds E n d' y → d' < k0 - i → x ≤ y) :
    Gr E n k0 (i + 1) (p ++ [x]) x := by
  have il := h.lt c
  have dd : d = k0 - (i + 1) := by
    rcases Nat.lt_or_ge d (k0 - (i + 1)) with z | z
    · exact ((h.d.2 (d + 1) (by omega)) ⟨x, dx.1, sy _ _ e⟩).elim
    · omega
  subst dd
  refine ⟨⟨p, v, h.isp, e, rfl⟩, dx, il, fun q hq => ?_⟩
  obtain ⟨u, u1, u2, _⟩ := hq.part i (by omega)
  obtain ⟨y, y1, y2, y3⟩ := hq.part (i + 1) il
  obtain ⟨q', u', hq', ey, eq⟩ := y2
  have ql := hq.len
  have e1 : q' = q.take (i + 1) := by
    have := congrArg (List.take (i + 1)) eq
    rw [List.take_take, show min (i + 1) (i + 1 + 1) = i + 1 from by omega, List.take_append_of_le_length (by rw [hq'.len]; exact Nat.le_refl _)] at this
    rw [List.take_of_length_le (l := q') (by rw [hq'.len]; exact Nat.le_refl _)] at this
    exact this.symm
  rw [eq, lx_app _ _ (by rw [hq'.len, h.isp.len])]
  by_cases c2 : q' = p
  · rw [if_pos c2]
    subst c2
    have uv : u' = v := by
      have a := hq'.last
      have b := h.isp.last
      rw [a] at b
      exact Option.some.inj b
    subst uv
    obtain ⟨d', dy⟩ := Rc.ds ⟨_, y3.symm sy⟩
    have : d' ≤ k0 - (i + 1) := by
      rcases Nat.lt_or_ge (k0 - (i + 1)) d' with z | z
      · exact (dy.2 _ z (y3.symm sy)).elim
      · exact z
    have := least y d' ey dy (by omega)
    rw [lx_cons]
    split
    · rfl
    · simp; omega
  · rw [if_neg c2, e1]
    exact h.least q hq
theorem Ds.symm {E : Nat → Nat → Prop} (sy : ∀ u v, E u v → E v u) {u v r : Nat} (h : Ds E u r v) : Ds E v r u := ⟨h.1.symm sy, fun s hs k => h.2 s hs (k.symm sy)⟩
open Classical in
theorem Ds.bound {E : Nat → Nat → Prop} {g k v N : Nat} (h : Ds E g k v) (lt : ∀ s u, Ds E g s u → u < N) : k + 1 ≤ N := by
  let f : Nat → Nat := fun s => if h : ∃ u, Ds E g s u then choose h else 0
  have hf : ∀ s, s ≤ k → Ds E g s (f s) := fun s hs => by
    have e := h.down s hs
    show Ds E g s (if h : ∃ u, Ds E g s u then choose h else 0)
    rw [dif_pos e]
    exact choose_spec e
  have := nodup_len N ((List.range (k + 1)).map f) (by
    unfold List.Nodup
    rw [List.pairwise_map]
    refine List.Pairwise.imp_of_mem ?_ List.nodup_range
    intro a b ma mb ne z
    rw [List.mem_range] at ma mb
    have da := hf a (by omega)
    have db := hf b (by omega)
    rw [z] at da
    exact ne (da.uniq db)) (fun x m => by
      obtain ⟨s, ms, rfl⟩ := List.mem_map.mp m
      rw [List.mem_range] at ms
      exact lt _ _ (hf s (by omega)))
  rwa [List.length_map, List.length_range] at this
end WW

/-! ### dicts from numbers to objects -/
namespace WW
open PySem L2
/-- keys ks in order, with these objects -/
structure Dn (kvs : List (Key × V)) (ks : List Nat) (val : Nat → Option Addr) : Prop where
  keys : kvs.map (·.1) = ks.map fun (k : Nat) => (Sum.inl (k : Int) : Key)
  nd : ks.Nodup
  vl : ∀ v : Nat, valV kvs (Sum.inl (v : Int)) = (val v).map V.ref
  mem : ∀ v, v ∈ ks ↔ (val v).isSome = true
theorem Dn.nil : Dn [] [] (fun _ => none) := ⟨rfl, List.nodup_nil, fun _ => rfl, fun _ => ⟨fun z => absurd z List.not_mem_nil, fun z => by cases z⟩⟩
theorem Dn.len {kvs : List (Key × V)} {ks : List Nat} {val : Nat → Option Addr} (h : Dn kvs ks val) : kvs.length = ks.length := by
  have := congrArg List.length h.keys
  rwa [List.length_map, List.length_map] at this
theorem Dn.key {kvs : List (Key × V)} {ks : List Nat} {val : Nat → Option Addr} (h : Dn kvs ks val) {i : Nat} {k : Key} {v : V} (e : kvs[i]? = some (k, v)) : ∃ n, ks[i]? = some n ∧ k = Sum.inl (n : Int) := by
  have := congrArg (fun l => l[i]?) h.keys
  simp only [List.getElem?_map, e, Option.map_some] at this
  cases z : ks[i]? with
  | none => rw [z] at this; cases this
  | some n => rw [z] at this; exact ⟨n, rfl, Option.some.inj this⟩
theorem Dn.listed {kvs : List (Key × V)} {ks : List Nat} {val : Nat → Option Addr} (h : Dn kvs ks val) : (kvs.map fun kv => kV kv.1) = Ns ks := by
  have : (kvs.map fun kv => kV kv.1) = (kvs.map (·.1)).map kV := by rw [List.map_map]; rfl
  rw [this, h.keys, List.map_map]
  rfl
theorem Dn.put {kvs : List (Key × V)} {ks : List Nat} {val : Nat → Option Addr} (h : Dn kvs ks val) (v : Nat) (t : Addr) :
    ∃ ks', Dn (putK kvs (Sum.inl (v : Int)) (.ref t)) ks' (fun w => if w = v then some t else val w) ∧ (∀ w, w ∈ ks' ↔ w = v ∨ w ∈ ks) ∧ (val v = none → ks' = ks ++ [v]) ∧ (val v ≠ none → ks' = ks) := by
  have vals : ∀ w : Nat, valV (putK kvs (Sum.inl (v : Int)) (.ref t)) (Sum.inl (w : Int)) = (if w = v then some t else val w).map V.ref := fun w => by
    rw [valV_put]
    by_cases c : w = v
    · subst c; rw [if_pos rfl, if_pos rfl]; rfl
    · rw [if_neg (fun z => c (by have := Sum.inl.inj z; omega)), if_neg c, h.vl]
  cases e : val v with
  | none =>
    have en : valV kvs (Sum.inl (v : Int)) = none := by rw [h.vl, e]; rfl
    have nm : v ∉ ks := fun m => by have := (h.mem v).mp m; rw [e] at this; cases this
    refine ⟨ks ++ [v], ⟨?_, nodup_snoc h.nd nm, vals, fun w => ?_⟩, fun w => by rw [List.mem_append, List.mem_singleton]; exact Or.comm, fun _ => rfl, fun z => absurd rfl z⟩
    · rw [putK_new _ en, List.map_append, h.keys, List.map_append]; rfl
    · rw [List.mem_append, List.mem_singleton, h.mem]
      by_cases c : w = v
      · subst c; simp
      · rw [if_neg c]; simp [c]
  | some a =>
    have es : (kvs.any fun kv => decide (kv.1 = (Sum.inl (v : Int) : Key))) = true := by rw [valV_any, h.vl, e]; rfl
    have m : v ∈ ks := (h.mem v).mpr (by rw [e]; rfl)
    refine ⟨ks, ⟨?_, h.nd, vals, fun w => ?_⟩, fun w => ⟨.inr, fun z => z.elim (fun z => z.symm ▸ m) id⟩, (fun z => nomatch z), fun _ => rfl⟩
    · unfold putK
      rw [if_pos es, List.map_map, ← h.keys]
      refine List.map_congr_left fun kv _ => ?_
      show (if kv.1 = Sum.inl (v : Int) then (kv.1, V.ref t) else kv).1 = kv.1
      split <;> rfl
    · by_cases c : w = v
      · subst c; rw [if_pos rfl]; exact ⟨fun _ => rfl, fun _ => m⟩
      · rw [if_neg c]; exact h.mem w
end WW

/-! ### rounds of the law's own ways -/
namespace WW
open PySem L2
/-- after r rounds: the spots at most r steps away, with the least of their shortest ways -/
structure Ro (E : Nat → Nat → Prop) (H : Hp) (d : Addr) (r : Nat) (val : Nat → Option Addr) (L : Nat → List Nat) (ks : List Nat) : Prop where
  dk : ∃ kvs, H d = some (.dK kvs) ∧ Dn kvs ks val
  tp : ∀ v t, val v = some t → H t = some (.tup (Ns (L v)))
  dom : ∀ v, (val v).isSome = true ↔ ∃ s, s ≤ r ∧ Ds E 0 s v
  lst : ∀ v s, s ≤ r → Ds E 0 s v → Lst E 0 s (L v) v
/-- what the round has found so far; Sn: the links that were looked at -/
structure La (H : Hp) (d : Addr) (val : Nat → Option Addr) (L : Nat → List Nat) (Sn : Nat → Nat → Prop) (vl2 : Nat → Option Addr) (M : Nat → List Nat) (ks : List Nat) : Prop where
  dk : ∃ kvs, H d = some (.dK kvs) ∧ Dn kvs ks vl2
  tp : ∀ v t, vl2 v = some t → H t = some (.tup (Ns (M v)))
  own : ∀ v, (vl2 v).isSome = true → val v = none ∧ (∃ u, Sn u v ∧ M v = L u ++ [v]) ∧ ∀ u, Sn u v → lx (L u ++ [v]) (M v) = false
  all : ∀ u v, Sn u v → val v = none → (vl2 v).isSome = true
def Tu (H H' : Hp) : Prop := ∀ t p, H t = some (.tup p) → H' t = some (.tup p)
theorem Ro.move {E : Nat → Nat → Prop} {H H' : Hp} {d : Addr} {r : Nat} {val : Nat → Option Addr} {L : Nat → List Nat} {ks : List Nat} (h : Ro E H d r val L ks) (e : H' d = H d) (t : Tu H H') : Ro E H' d r val L ks :=
  ⟨by rw [e]; exact h.dk, fun v q z => t _ _ (h.tp v q z), h.dom, h.lst⟩
theorem La.move {H H' : Hp} {d : Addr} {val : Nat → Option Addr} {L : Nat → List Nat} {Sn : Nat → Nat → Prop} {vl2 : Nat → Option Addr} {M : Nat → List Nat} {ks : List Nat} (h : La H d val L Sn vl2 M ks) (e : H' d = H d) (t : Tu H H') : La H' d val L Sn vl2 M ks :=
  ⟨by rw [e]; exact h.dk, fun v q z => t _ _ (h.tp v q z), h.own, h.all⟩
theorem La.iff {H : Hp} {d : Addr} {val : Nat → Option Addr} {L : Nat → List Nat} {Sn Sm : Nat → Nat → Prop} {vl2 : Nat → Option Addr} {M : Nat → List Nat} {ks : List Nat} (h : La H d val L Sn vl2 M ks) (e : ∀ u v, Sm u v ↔ Sn u v) : La H d val L Sm vl2 M ks := by
  have : Sm = Sn := funext fun u => funext fun v => propext (e u v)
  rw [this]; exact h
theorem La.nil {H : Hp} {d : Addr} {val : Nat → Option Addr} {L : Nat → List Nat} (e : H d = some (.dK [])) : La H d val L (fun _ _ => False) (fun _ => none) (fun _ => []) [] :=
  ⟨⟨_, e, Dn.nil⟩, fun _ _ z => (by cases z), fun _ z => (by cases z), fun _ _ z => (z : False).elim⟩
/-- a spot that was led to before -/
theorem La.old {H : Hp} {d : Addr} {val : Nat → Option Addr} {L : Nat → List Nat} {Sn : Nat → Nat → Prop} {vl2 : Nat → Option Addr} {M : Nat → List Nat} {ks : List Nat} (h : La H d val L Sn vl2 M ks) {u0 v0 : Nat} (o : val v0 ≠ none) :
    La H d val L (fun u v => Sn u v ∨ (u = u0 ∧ v = v0)) vl2 M ks := by
  refine ⟨h.dk, h.tp, fun v z => ?_, fun u v z n => ?_⟩
  · obtain ⟨n, ⟨u, su, e⟩, l⟩ := h.own v z
    refine ⟨n, ⟨u, .inl su, e⟩, fun u' z' => ?_⟩
    rcases z' with z' | ⟨_, rfl⟩
    · exact l u' z'
    · exact absurd n o
  · rcases z with z | ⟨_, rfl⟩
    · exact h.all u v z n
    · exact absurd n o
/-- no less a way -/
theorem La.keep {H : Hp} {d : Addr} {val : Nat → Option Addr} {L : Nat → List Nat} {Sn : Nat → Nat → Prop} {vl2 : Nat → Option Addr} {M : Nat → List Nat} {ks : List Nat} (h : La H d val L Sn vl2 M ks) {u0 v0 : Nat} (o : (vl2 v0).isSome = true)
    (c : lx (L u0 ++ [v0]) (M v0) = false) : La H d val L (fun u v => Sn u v ∨ (u = u0 ∧ v = v0)) vl2 M ks := by
  refine ⟨h.dk, h.tp, fun v z => ?_, fun u v z n => ?_⟩
  · obtain ⟨n, ⟨u, su, e⟩, l⟩ := h.own v z
    refine ⟨n, ⟨u, .inl su, e⟩, fun u' z' => ?_⟩
    rcases z' with z' | ⟨rfl, rfl⟩
    · exact l u' z'
    · exact c
  · rcases z with z | ⟨_, rfl⟩
    · exact h.all u v z n
    · exact o
/-- a new spot, or a less way -/
theorem La.put {H H' : Hp} {d t : Addr} {val : Nat → Option Addr} {L : Nat → List Nat} {Sn : Nat → Nat → Prop} {vl2 : Nat → Option Addr} {M : Nat → List Nat} {ks : List Nat} {kvs : List (Key × V)} (h : La H d val L Sn vl2 M ks) {u0 v0 r : Nat} (n0 : val v0 = none)
    (len : ∀ u v, Sn u v → (L u).length = r) (l0 : (L u0).length = r) (c : vl2 v0 = none ∨ lx (L u0 ++ [v0]) (M v0) = true) (dn : Dn kvs ks vl2) (ht : Tu H H') (et : H' t = some (.tup (Ns (L u0 ++ [v0])))) (ed : H' d = some (.dK (putK kvs (Sum.inl (v0 : Int)) (.ref t)))) :
    ∃ vl3 M3 ks3, La H' d val L (fun u v => Sn u v ∨ (u = u0 ∧ v = v0)) vl3 M3 ks3 ∧ (∀ w, w ∈ ks3 → w = v0 ∨ w ∈ ks) := by
  obtain ⟨ks', dn', mem, _⟩ := dn.put v0 t
  refine ⟨_, fun w => if w = v0 then L u0 ++ [v0] else M w, ks', ⟨⟨_, ed, dn'⟩, fun v q z => ?_, fun v z => ?_, fun u v z n => ?_⟩, fun w m => (mem w).mp m⟩
  · by_cases e : v = v0
    · subst e
      simp only [if_pos rfl] at z ⊢
      cases z; exact et
    · simp only [if_neg e] at z ⊢
      exact ht _ _ (h.tp v q z)
  · by_cases e : v = v0
    · subst e
      simp only [if_pos rfl] at z ⊢
      refine ⟨n0, ⟨u0, .inr ⟨rfl, by trivial⟩, rfl⟩, fun u' z' => ?_⟩
      rcases z' with z' | ⟨rfl, _⟩
      · rcases c with c | c
        · have := h.all u' v z' n0
          rw [c] at this; cases this
        · have o : (vl2 v).isSome = true := h.all u' v z' n0
          obtain ⟨_, ⟨u1, s1, e1⟩, l⟩ := h.own v o
          exact lx_le (by rw [e1]; simp [l0, len u1 v s1]) (by rw [e1]; simp [len u' v z', len u1 v s1]) (lx_asym c) (l u' z')
      · exact lx_irr _
    · simp only [if_neg e] at z ⊢
      obtain ⟨n, ⟨u, su, e1⟩, l⟩ := h.own v z
      refine ⟨n, ⟨u, .inl su, e1⟩, fun u' z' => ?_⟩
      rcases z' with z' | ⟨_, e'⟩
      · exact l u' z'
      · exact absurd e' e
  · by_cases e : v = v0
    · subst e; simp only [if_pos rfl]; rfl
    · simp only [if_neg e]
      rcases z with z | ⟨_, e'⟩
      · exact h.all u v z n
      · exact absurd e' e
/-- what the round has found are the spots one step further -/
theorem La.end_ {E : Nat → Nat → Prop} {H : Hp} {d d2 : Addr} {r : Nat} {val : Nat → Option Addr} {L : Nat → List Nat} {ks : List Nat} (hr : Ro E H d r val L ks) {Sn : Nat → Nat → Prop} {vl2 : Nat → Option Addr} {M : Nat → List Nat} {ks2 : List Nat}
    (h : La H d2 val L Sn vl2 M ks2) (sn : ∀ u v, Sn u v ↔ Ds E 0 r u ∧ E u v) :
    (∀ v, v ∈ ks2 ↔ Ds E 0 (r + 1) v) ∧ (∀ v, v ∈ ks2 → Lst E 0 (r + 1) (M v) v) := by
  obtain ⟨kvs, _, dn⟩ := h.dk
  have far : ∀ v, val v = none → ∀ s, s ≤ r → ¬ Ds E 0 s v := fun v n s hs k => by
    have := (hr.dom v).mpr ⟨s, hs, k⟩
    rw [n] at this; cases this
  have iff : ∀ v, v ∈ ks2 ↔ Ds E 0 (r + 1) v := fun v => by
    rw [dn.mem]
    constructor
    · intro z
      obtain ⟨n, ⟨u, su, _⟩, _⟩ := h.own v z
      obtain ⟨du, e⟩ := (sn u v).mp su
      rcases du.step e with k | ⟨s, hs, k⟩
      · exact k
      · exact absurd k (far v n s hs)
    · intro k
      obtain ⟨u, du, e⟩ := k.back
      refine h.all u v ((sn u v).mpr ⟨du, e⟩) ?_
      cases z : val v with
      | none => rfl
      | some t =>
        obtain ⟨s, hs, k'⟩ := (hr.dom v).mp (by rw [z]; rfl)
        have := k.uniq k'
        omega
  refine ⟨iff, fun v m => ?_⟩
  obtain ⟨n, ⟨u, su, e⟩, l⟩ := h.own v ((dn.mem v).mp m)
  obtain ⟨du, eu⟩ := (sn u v).mp su
  exact Lst.step ((iff v).mp m) (fun u du => hr.lst u r (Nat.le_refl _) du) ⟨u, du, eu, e⟩ (fun u' d' e' => l u' ((sn u' v).mpr ⟨d', e'⟩))
/-- the next round -/
theorem Ro.next {E : Nat → Nat → Prop} {H H' : Hp} {d d2 : Addr} {r : Nat} {val : Nat → Option Addr} {L : Nat → List Nat} {ks ks3 : List Nat} (hr : Ro E H d r val L ks) {Sn : Nat → Nat → Prop} {vl2 : Nat → Option Addr} {M : Nat → List Nat} {ks2 : List Nat}
    (h : La H d2 val L Sn vl2 M ks2) (sn : ∀ u v, Sn u v ↔ Ds E 0 r u ∧ E u v) (ht : Tu H H') {kvs : List (Key × V)} (ed : H' d = some (.dK kvs)) (dn : Dn kvs ks3 (fun v => if v ∈ ks2 then vl2 v else val v)) :
    Ro E H' d (r + 1) (fun v => if v ∈ ks2 then vl2 v else val v) (fun v => if v ∈ ks2 then M v else L v) ks3 := by
  obtain ⟨iff, ls⟩ := La.end_ hr h sn
  obtain ⟨kvs2, _, dn2⟩ := h.dk
  refine ⟨⟨_, ed, dn⟩, fun v t z => ?_, fun v => ?_, fun v s hs k => ?_⟩
  · by_cases m : v ∈ ks2
    · simp only [if_pos m] at z ⊢; exact ht _ _ (h.tp v t z)
    · simp only [if_neg m] at z ⊢; exact ht _ _ (hr.tp v t z)
  · by_cases m : v ∈ ks2
    · simp only [if_pos m]
      exact ⟨fun _ => ⟨r + 1, Nat.le_refl _, (iff v).mp m⟩, fun _ => (dn2.mem v).mp m⟩
    · simp only [if_neg m]
      rw [hr.dom]
      constructor
      · rintro ⟨s, hs, k⟩; exact ⟨s, by omega, k⟩
      · rintro ⟨s, hs, k⟩
        refine ⟨s, ?_, k⟩
        by_cases c : s = r + 1
        · subst c; exact absurd ((iff v).mpr k) m
        · omega
  · by_cases m : v ∈ ks2
    · simp only [if_pos m]
      rw [k.uniq ((iff v).mp m)]; exact ls v m
    · simp only [if_neg m]
      refine hr.lst v s ?_ k
      by_cases c : s = r + 1
      · subst c; exact absurd ((iff v).mpr k) m
      · omega
end WW

/-! ### rows of numbers, compared -/
namespace OQ
open PySem L2 PySem.Spec PyProof.Rows
def Tn (p : List Nat) : List PyData := p.map fun (j : Nat) => .int (j : Int)
theorem Tn_all {K : PySem.W.Frag} {H : Hp} : ∀ p : List Nat, DpAll K H (WW.Ns p) (Tn p)
  | [] => .nil
  | j :: p => .cons (.int _) (Tn_all p)
theorem Tn_lay : ∀ p : List Nat, PyData.canLayAll0 (Tn p) = true ∧ PyData.depthAll (Tn p) = 0
  | [] => ⟨by rw [Tn, List.map_nil, PyData.canLayAll0], by rw [Tn, List.map_nil, PyData.depthAll]⟩
  | j :: p => by
    obtain ⟨h1, h2⟩ := Tn_lay p
    have e : Tn (j :: p) = .int (j : Int) :: Tn p := rfl
    rw [e, PyData.canLayAll0, PyData.canLay0, PyData.depthAll, PyData.depth, h1, h2]
    exact ⟨rfl, rfl⟩
theorem Tn_shaped (p : List Nat) : SeqAt.shaped (.tuple (Tn p)) = true := by
  obtain ⟨h1, h2⟩ := Tn_lay p
  unfold SeqAt.shaped; rw [PyData.canLay0, PyData.depth, h1, h2]; rfl
theorem Tn_eqv : ∀ p : List Nat, PyData.eqvAll (Tn p) (Tn p) = true
  | [] => by rw [Tn, List.map_nil, PyData.eqvAll]
  | j :: p => by
    have e : Tn (j :: p) = .int (j : Int) :: Tn p := rfl
    rw [e, PyData.eqvAll, PyData.eqv, Tn_eqv p]
    simp
/-- nothing, or the same way -/
def SameW (H : Hp) (v u : V) : Prop := (v = .non ∧ u = .non) ∨ ∃ t s p, v = .ref t ∧ u = .ref s ∧ H t = some (.tup (WW.Ns p)) ∧ H s = some (.tup (WW.Ns p))
theorem SameW.eq {K : PySem.W.Frag} {H : Hp} {Q : VK} {v u : V} (h : SameW H v u) (k : Q (.bl true) H) : rEqD K v u H Q := by
  rcases h with ⟨rfl, rfl⟩ | ⟨t, s, p, rfl, rfl, et, es⟩
  · exact ⟨_, _, .non, .non, rfl, rfl, by rw [PyData.eqv]; exact k⟩
  · exact ⟨_, _, .tup (SqT.of et) (Tn_all p), .tup (SqT.of es) (Tn_all p), Tn_shaped p, Tn_shaped p, by rw [PyData.eqv, Tn_eqv]; exact k⟩
theorem SameW.ne {K : PySem.W.Frag} {H : Hp} {Q : VK} {v u : V} (h : SameW H v u) (k : Q (.bl false) H) : rNeD K v u H Q := by
  rcases h with ⟨rfl, rfl⟩ | ⟨t, s, p, rfl, rfl, et, es⟩
  · exact ⟨_, _, .non, .non, rfl, rfl, by rw [PyData.eqv]; exact k⟩
  · exact ⟨_, _, .tup (SqT.of et) (Tn_all p), .tup (SqT.of es) (Tn_all p), Tn_shaped p, Tn_shaped p, by rw [PyData.eqv, Tn_eqv]; exact k⟩
end OQ

/-! ### classes of spots -/
namespace WW
open PySem L2
theorem asc_uniq : ∀ {p q : List Nat}, p.Pairwise (· < ·) → q.Pairwise (· < ·) → (∀ v, v ∈ p ↔ v ∈ q) → p = q
  | [], [], _, _, _ => rfl
  | [], x :: q, _, _, h => absurd ((h x).mpr (List.mem_cons_self ..)) List.not_mem_nil
  | x :: p, [], _, _, h => absurd ((h x).mp (List.mem_cons_self ..)) List.not_mem_nil
  | x :: p, y :: q, hp, hq, h => by
    rw [List.pairwise_cons] at hp hq
    have e : x = y := by
      rcases List.mem_cons.mp ((h x).mp (List.mem_cons_self ..)) with a | a
      · exact a
      · rcases List.mem_cons.mp ((h y).mpr (List.mem_cons_self ..)) with b | b
        · exact b.symm
        · have := hq.1 x a; have := hp.1 y b; omega
    subst e
    rw [asc_uniq hp.2 hq.2 fun v => ?_]
    constructor
    · intro m
      rcases List.mem_cons.mp ((h v).mp (List.mem_cons_of_mem _ m)) with a | a
      · have := hp.1 v m; omega
      · exact a
    · intro m
      rcases List.mem_cons.mp ((h v).mpr (List.mem_cons_of_mem _ m)) with a | a
      · have := hq.1 v m; omega
      · exact a
open Classical in
noncomputable def cl (E : Nat → Nat → Prop) (n g : Nat) : List Nat := (List.range n).filter fun v => decide (Rc E g v)
theorem cl_mem {E : Nat → Nat → Prop} {n g v : Nat} : v ∈ cl E n g ↔ v < n ∧ Rc E g v := by
  unfold cl; rw [List.mem_filter, List.mem_range]; simp
theorem cl_up (E : Nat → Nat → Prop) (n g : Nat) : (cl E n g).Pairwise (· < ·) := List.Pairwise.filter _ List.pairwise_lt_range
theorem cl_of {E : Nat → Nat → Prop} {n g : Nat} {ms : List Nat} (up : ms.Pairwise (· < ·)) (m : ∀ v, v ∈ ms ↔ Rc E g v) (lt : ∀ v, Rc E g v → v < n) : ms = cl E n g :=
  asc_uniq up (cl_up E n g) fun v => by rw [cl_mem, m]; exact ⟨fun h => ⟨lt v h, h⟩, fun h => h.2⟩
theorem cl_len (E : Nat → Nat → Prop) (n g : Nat) : (cl E n g).length ≤ n := by
  unfold cl; exact Nat.le_trans (List.length_filter_le ..) (by rw [List.length_range]; exact Nat.le_refl _)
theorem cl_ne {E : Nat → Nat → Prop} {n g : Nat} (h : g < n) : cl E n g ≠ [] := fun z => by
  have := (cl_mem (E := E) (n := n) (g := g) (v := g)).mpr ⟨h, Rc.refl⟩
  rw [z] at this; cases this
/-- the rows of a list of tuples -/
def TupsAt (H : Hp) (ts : List Addr) (cs : List (List Nat)) : Prop := ts.length = cs.length ∧ ∀ (i : Nat) (t : Addr), ts[i]? = some t → ∃ c : List Nat, cs[i]? = some c ∧ H t = some (.tup (Ns c))
theorem TupsAt.nil {H : Hp} : TupsAt H [] [] := ⟨rfl, fun i t h => by simp at h⟩
theorem TupsAt.same {H H' : Hp} {ts : List Addr} {cs : List (List Nat)} (h : TupsAt H ts cs) (s : ∀ b o, H b = some o → H' b = some o) : TupsAt H' ts cs :=
  ⟨h.1, fun i t e => let ⟨c, a, b⟩ := h.2 i t e; ⟨c, a, s _ _ b⟩⟩
theorem TupsAt.tu {H H' : Hp} {ts : List Addr} {cs : List (List Nat)} (h : TupsAt H ts cs) (s : ∀ t p, H t = some (.tup p) → H' t = some (.tup p)) : TupsAt H' ts cs :=
  ⟨h.1, fun i t e => let ⟨c, a, b⟩ := h.2 i t e; ⟨c, a, s _ _ b⟩⟩
theorem TupsAt.snoc {H : Hp} {ts : List Addr} {cs : List (List Nat)} {t : Addr} {c : List Nat} (h : TupsAt H ts cs) (e : H t = some (.tup (Ns c))) : TupsAt H (ts ++ [t]) (cs ++ [c]) := by
  refine ⟨by rw [List.length_append, List.length_append, h.1]; rfl, fun i u z => ?_⟩
  rcases Nat.lt_or_ge i ts.length with k | k
  · rw [List.getElem?_append_left k] at z
    obtain ⟨c', a, b⟩ := h.2 i u z
    exact ⟨c', by rw [List.getElem?_append_left (by rw [← h.1]; exact k)]; exact a, b⟩
  · rw [List.getElem?_append_right k] at z
    have : i - ts.length = 0 := by
      rcases Nat.eq_zero_or_pos (i - ts.length) with y | y
      · exact y
      · rw [List.getElem?_eq_none (show [t].length ≤ i - ts.length from y)] at z; cases z
    rw [this] at z
    cases z
    exact ⟨c, by rw [List.getElem?_append_right (by rw [← h.1]; exact k), ← h.1, this]; rfl, e⟩
/-- those spots that are the first ones of their classes -/
noncomputable def cls (E : Nat → Nat → Prop) (n k : Nat) : List (List Nat) := ((List.range k).filter fun i => decide ((cl E n i)[0]? = some i)).map (cl E n)
theorem cls_succ (E : Nat → Nat → Prop) (n k : Nat) : cls E n (k + 1) = cls E n k ++ (if (cl E n k)[0]? = some k then [cl E n k] else []) := by
  unfold cls
  rw [List.range_succ, List.filter_append, List.map_append]
  congr 1
  by_cases c : (cl E n k)[0]? = some k
  · rw [if_pos c]; simp [c]
  · rw [if_neg c]; simp [c]
theorem cls_len (E : Nat → Nat → Prop) (n k : Nat) : (cls E n k).length ≤ k := by
  unfold cls
  rw [List.length_map]
  exact Nat.le_trans (List.length_filter_le ..) (by rw [List.length_range]; exact Nat.le_refl _)
end WW

/-! ### first spots of classes -/
namespace WW
open PySem L2
theorem cl_eq {E : Nat → Nat → Prop} (sy : ∀ u v, E u v → E v u) {n u v : Nat} (h : Rc E u v) : cl E n u = cl E n v :=
  asc_uniq (cl_up ..) (cl_up ..) fun x => by
    rw [cl_mem, cl_mem]
    exact ⟨fun ⟨a, b⟩ => ⟨a, (h.symm sy).trans b⟩, fun ⟨a, b⟩ => ⟨a, h.trans b⟩⟩
theorem asc_head {p : List Nat} {m v : Nat} (h : p.Pairwise (· < ·)) (e : p[0]? = some m) (hv : v ∈ p) : m ≤ v := by
  cases p with
  | nil => cases e
  | cons x p =>
    cases e
    rw [List.pairwise_cons] at h
    rcases List.mem_cons.mp hv with z | z
    · omega
    · have := h.1 v z; omega
/-- a spot is the first one of its class just if no class of an earlier first one holds it -/
theorem first_iff {E : Nat → Nat → Prop} (sy : ∀ u v, E u v → E v u) {n k : Nat} (hk : k < n) : (∃ c ∈ cls E n k, k ∈ c) ↔ (cl E n k)[0]? ≠ some k := by
  have self : k ∈ cl E n k := cl_mem.mpr ⟨hk, Rc.refl⟩
  constructor
  · rintro ⟨c, mc, kc⟩ z
    unfold cls at mc
    obtain ⟨i, mi, rfl⟩ := List.mem_map.mp mc
    rw [List.mem_filter, List.mem_range] at mi
    have r := (cl_mem.mp kc).2
    have := asc_head (cl_up E n k) z (cl_mem.mpr ⟨by omega, r.symm sy⟩ : i ∈ cl E n k)
    omega
  · intro z
    cases e : (cl E n k)[0]? with
    | none =>
      rw [List.getElem?_eq_none_iff] at e
      have : cl E n k = [] := List.eq_nil_of_length_eq_zero (by omega)
      rw [this] at self; cases self
    | some m =>
      have ne : m ≠ k := fun y => z (by rw [e, y])
      have le := asc_head (cl_up E n k) e self
      have mm : m ∈ cl E n k := List.mem_of_getElem? e
      have ce := cl_eq sy (n := n) (cl_mem.mp mm).2
      refine ⟨cl E n m, ?_, by rw [← ce]; exact self⟩
      unfold cls
      refine List.mem_map.mpr ⟨m, ?_, rfl⟩
      rw [List.mem_filter, List.mem_range]
      exact ⟨by omega, decide_eq_true (by rw [← ce]; exact e)⟩
theorem cls_zero {E : Nat → Nat → Prop} {n : Nat} (hn : 0 < n) : ∀ {k : Nat}, 0 < k → (cls E n k)[0]? = some (cl E n 0)
  | 1, _ => by
    have h0 : (cl E n 0)[0]? = some 0 := by
      have self : 0 ∈ cl E n 0 := cl_mem.mpr ⟨hn, Rc.refl⟩
      cases e : cl E n 0 with
      | nil => rw [e] at self; cases self
      | cons m ms =>
        have := asc_head (m := m) (cl_up E n 0) (by rw [e]; rfl) self
        show some m = some 0
        rw [show m = 0 from by omega]
    rw [cls_succ, if_pos h0]; rfl
  | k + 2, _ => by
    have := cls_zero (E := E) hn (k := k + 1) (by omega)
    rw [cls_succ]
    cases e : cls E n (k + 1) with
    | nil => rw [e] at this; cases this
    | cons c cs => rw [e] at this; exact this
end WW

/-! ### lists of tuples of numbers, compared -/
namespace OQ
open PySem L2 PySem.Spec PyProof.Rows
def Tc (cs : List (List Nat)) : List PyData := cs.map fun c => .tuple (Tn c)
theorem Tc_all {K : PySem.W.Frag} {H : Hp} : ∀ (ts : List Addr) (cs : List (List Nat)), WW.TupsAt H ts cs → DpAll K H (ts.map V.ref) (Tc cs)
  | [], [], _ => .nil
  | [], _ :: _, h => by have := h.1; simp at this
  | _ :: _, [], h => by have := h.1; simp at this
  | t :: ts, c :: cs, h => by
    obtain ⟨c', e1, e2⟩ := h.2 0 t rfl
    cases e1
    refine .cons (.tup (SqT.of e2) (Tn_all c)) (Tc_all ts cs ⟨by simpa using h.1, fun i u z => ?_⟩)
    obtain ⟨c', a, b⟩ := h.2 (i + 1) u (by simpa using z)
    exact ⟨c', by simpa using a, b⟩
theorem Tc_lay : ∀ cs : List (List Nat), PyData.canLayAll0 (Tc cs) = true ∧ PyData.depthAll (Tc cs) ≤ 1
  | [] => ⟨by rw [Tc, List.map_nil, PyData.canLayAll0], by rw [Tc, List.map_nil, PyData.depthAll]; exact Nat.zero_le _⟩
  | c :: cs => by
    obtain ⟨h1, h2⟩ := Tc_lay cs
    obtain ⟨g1, g2⟩ := Tn_lay c
    have e : Tc (c :: cs) = .tuple (Tn c) :: Tc cs := rfl
    rw [e, PyData.canLayAll0, PyData.canLay0, PyData.depthAll, PyData.depth, h1, g1, g2]
    exact ⟨rfl, by omega⟩
theorem Tc_shaped (cs : List (List Nat)) : SeqAt.shaped (.list (Tc cs)) = true := by
  obtain ⟨h1, h2⟩ := Tc_lay cs
  unfold SeqAt.shaped
  rw [PyData.canLay0, PyData.depth, h1, Bool.true_and, decide_eq_true_eq]
  omega
theorem Tc_eqv : ∀ cs : List (List Nat), PyData.eqvAll (Tc cs) (Tc cs) = true
  | [] => by rw [Tc, List.map_nil, PyData.eqvAll]
  | c :: cs => by
    have e : Tc (c :: cs) = .tuple (Tn c) :: Tc cs := rfl
    rw [e, PyData.eqvAll, PyData.eqv, Tn_eqv c, Tc_eqv cs]; rfl
theorem d_neTups {K : PySem.W.Frag} {H : Hp} {Q : VK} {a b : Addr} {ts us : List Addr} {cs : List (List Nat)} (ea : H a = some (.lst (ts.map V.ref))) (eb : H b = some (.lst (us.map V.ref))) (ha : WW.TupsAt H ts cs) (hb : WW.TupsAt H us cs)
    (k : Q (.bl false) H) : rNeD K (.ref a) (.ref b) H Q :=
  ⟨_, _, .lst (SqL.of ea) (Tc_all ts cs ha), .lst (SqL.of eb) (Tc_all us cs hb), Tc_shaped cs, Tc_shaped cs, by rw [PyData.eqv, Tc_eqv]; exact k⟩
end OQ

local macro_rules | `(tactic| walk_at "txN") => `(tactic| first | assumption | omega | (simp only [List.length_append, List.length_cons, List.length_nil, List.length_drop, List.length_take] at *; omega))
local macro_rules | `(tactic| walk_at "tx1") => `(tactic| first
  | (with_reducible refine RD.d_break ?_)
  | (with_reducible refine RD.d_eqW ?_)
  | (with_reducible refine RD.d_neW ?_)
  | ((with_reducible (refine' RD.d_lenW ?n ?k)); (case n => walk_at "txN"))
  | ((with_reducible (refine' RD.d_addS ?n ?k)); (case n => walk_at "txN")))
local macro_rules | `(tactic| walk_at "tx") => `(tactic| repeat (first | walk_at "tx1" | walk_at "rd1" | walk_at "rd2"))

namespace Toy
open PySem L2
def top (i : Nat) : Stmt := PySem.Challenge.pw_watchedways_k03_neighbours_and_classes.main.body.getD i (.Pass ⟨0, 0, 0, 0⟩)
abbrev s_WayError__init : Stmt := inClass (top 2) 0
theorem sc_WayError__init : FnScope ["self", "value"] ["self", "value"] (defScope s_WayError__init) := ⟨rfl, rfl, rfl, by decide +kernel, rfl, by decide +kernel, by decide +kernel⟩
abbrev s_is_integer : Stmt := top 8
theorem sc_is_integer : FnScope ["thing"] ["thing"] (defScope s_is_integer) := ⟨rfl, rfl, rfl, by decide +kernel, rfl, by decide +kernel, by decide +kernel⟩
abbrev s_is_row : Stmt := top 9
theorem sc_is_row : FnScope ["thing"] ["thing"] (defScope s_is_row) := ⟨rfl, rfl, rfl, by decide +kernel, rfl, by decide +kernel, by decide +kernel⟩
abbrev s_is_word : Stmt := top 13
theorem sc_is_word : FnScope ["thing"] ["thing"] (defScope s_is_word) := ⟨rfl, rfl, rfl, by decide +kernel, rfl, by decide +kernel, by decide +kernel⟩
abbrev s_is_watch : Stmt := top 14
theorem sc_is_watch : FnScope ["thing"] ["thing"] (defScope s_is_watch) := ⟨rfl, rfl, rfl, by decide +kernel, rfl, by decide +kernel, by decide +kernel⟩
abbrev s_has_letters : Stmt := top 15
theorem sc_has_letters : FnScope ["thing", "most", "letter"] ["thing", "most"] (defScope s_has_letters) := ⟨rfl, rfl, rfl, by decide +kernel, rfl, by decide +kernel, by decide +kernel⟩
abbrev s_check_word : Stmt := top 16
theorem sc_check_word : FnScope ["word"] ["word"] (defScope s_check_word) := ⟨rfl, rfl, rfl, by decide +kernel, rfl, by decide +kernel, by decide +kernel⟩
abbrev s_wrong_watch : Stmt := top 20
theorem sc_wrong_watch : FnScope ["watches", "at", "watch"] ["watches"] (defScope s_wrong_watch) := ⟨rfl, rfl, rfl, by decide +kernel, rfl, by decide +kernel, by decide +kernel⟩
abbrev s_Book__init : Stmt := inClass (top 19) 0
theorem sc_Book__init : FnScope ["self", "watches", "wrong"] ["self", "watches"] (defScope s_Book__init) := ⟨rfl, rfl, rfl, by decide +kernel, rfl, by decide +kernel, by decide +kernel⟩
abbrev s_check_book : Stmt := top 21
theorem sc_check_book : FnScope ["book"] ["book"] (defScope s_check_book) := ⟨rfl, rfl, rfl, by decide +kernel, rfl, by decide +kernel, by decide +kernel⟩
abbrev s_check_asked : Stmt := top 22
theorem sc_check_asked : FnScope ["book", "word"] ["book", "word"] (defScope s_check_asked) := ⟨rfl, rfl, rfl, by decide +kernel, rfl, by decide +kernel, by decide +kernel⟩
abbrev s_links_through : Stmt := top 25
theorem sc_links_through : FnScope ["pieces", "word", "links", "_", "piece", "low", "high", "spots"] ["pieces", "word"] (defScope s_links_through) := ⟨rfl, rfl, rfl, by decide +kernel, rfl, by decide +kernel, by decide +kernel⟩
abbrev s_links_of : Stmt := top 24
theorem sc_links_of : FnScope ["book", "word"] ["book", "word"] (defScope s_links_of) := ⟨rfl, rfl, rfl, by decide +kernel, rfl, by decide +kernel, by decide +kernel⟩
abbrev s_steps_to : Stmt := top 27
theorem sc_steps_to : FnScope ["links", "goal", "steps", "ring", "farther", "spot", "mate"] ["links", "goal"] (defScope s_steps_to) := ⟨rfl, rfl, rfl, by decide +kernel, rfl, by decide +kernel, by decide +kernel⟩
abbrev s_leads_through : Stmt := top 26
theorem sc_leads_through : FnScope ["pieces", "word"] ["pieces", "word"] (defScope s_leads_through) := ⟨rfl, rfl, rfl, by decide +kernel, rfl, by decide +kernel, by decide +kernel⟩
abbrev s_class_of : Stmt := top 28
theorem sc_class_of : FnScope ["links", "spot"] ["links", "spot"] (defScope s_class_of) := ⟨rfl, rfl, rfl, by decide +kernel, rfl, by decide +kernel, by decide +kernel⟩
abbrev s_is_spot : Stmt := top 33
theorem sc_is_spot : FnScope ["word", "thing"] ["word", "thing"] (defScope s_is_spot) := ⟨rfl, rfl, rfl, by decide +kernel, rfl, by decide +kernel, by decide +kernel⟩
abbrev s_neighbours : Stmt := top 30
theorem sc_neighbours : FnScope ["book", "word", "spot"] ["book", "word", "spot"] (defScope s_neighbours) := ⟨rfl, rfl, rfl, by decide +kernel, rfl, by decide +kernel, by decide +kernel⟩
abbrev s_classes : Stmt := top 31
theorem sc_classes : FnScope ["book", "word", "links", "found", "spot", "members"] ["book", "word"] (defScope s_classes) := ⟨rfl, rfl, rfl, by decide +kernel, rfl, by decide +kernel, by decide +kernel⟩
abbrev s_is_told : Stmt := top 32
theorem sc_is_told : FnScope ["book", "word"] ["book", "word"] (defScope s_is_told) := ⟨rfl, rfl, rfl, by decide +kernel, rfl, by decide +kernel, by decide +kernel⟩
abbrev s_law_tape : Stmt := top 35
theorem sc_law_tape : FnScope ["script"] ["script"] (defScope s_law_tape) := ⟨rfl, rfl, rfl, by decide +kernel, rfl, by decide +kernel, by decide +kernel⟩
abbrev s_law_pick : Stmt := top 36
theorem sc_law_pick : FnScope ["tape", "size", "digit", "cell", "mixed"] ["tape", "size"] (defScope s_law_pick) := ⟨rfl, rfl, rfl, by decide +kernel, rfl, by decide +kernel, by decide +kernel⟩
abbrev s_law_letters : Stmt := top 38
theorem sc_law_letters : FnScope ["tape", "many", "start", "step", "k"] ["tape", "many"] (defScope s_law_letters) := ⟨rfl, rfl, rfl, by decide +kernel, rfl, by decide +kernel, by decide +kernel⟩
abbrev s_law_word : Stmt := top 39
theorem sc_law_word : FnScope ["tape", "most", "size", "kind", "letters", "part", "k"] ["tape", "most"] (defScope s_law_word) := ⟨rfl, rfl, rfl, by decide +kernel, rfl, by decide +kernel, by decide +kernel⟩
abbrev s_law_watch : Stmt := top 40
theorem sc_law_watch : FnScope ["tape", "word", "most", "size", "at", "k"] ["tape", "word", "most"] (defScope s_law_watch) := ⟨rfl, rfl, rfl, by decide +kernel, rfl, by decide +kernel, by decide +kernel⟩
abbrev s_law_watches : Stmt := top 41
theorem sc_law_watches : FnScope ["tape", "word", "many", "most", "found", "low", "high", "piece", "k", "watch"] ["tape", "word", "many", "most"] (defScope s_law_watches) := ⟨rfl, rfl, rfl, by decide +kernel, rfl, by decide +kernel, by decide +kernel⟩
abbrev s_law_near : Stmt := top 42
theorem sc_law_near : FnScope ["watches", "word", "spot", "found", "other"] ["watches", "word", "spot"] (defScope s_law_near) := ⟨rfl, rfl, rfl, by decide +kernel, rfl, by decide +kernel, by decide +kernel⟩
abbrev s_law_mixed : Stmt := top 45
theorem sc_law_mixed : FnScope ["tape", "things", "left", "made", "k"] ["tape", "things"] (defScope s_law_mixed) := ⟨rfl, rfl, rfl, by decide +kernel, rfl, by decide +kernel, by decide +kernel⟩
abbrev s_law_flood : Stmt := top 46
theorem sc_law_flood : FnScope ["watches", "word", "start", "found", "k", "spot"] ["watches", "word", "start"] (defScope s_law_flood) := ⟨rfl, rfl, rfl, by decide +kernel, rfl, by decide +kernel, by decide +kernel⟩
abbrev s_law_classes : Stmt := top 47
theorem sc_law_classes : FnScope ["watches", "word", "found", "spot", "row"] ["watches", "word"] (defScope s_law_classes) := ⟨rfl, rfl, rfl, by decide +kernel, rfl, by decide +kernel, by decide +kernel⟩
abbrev s_law_flag : Stmt := top 37
theorem sc_law_flag : FnScope ["told", "due"] ["told", "due"] (defScope s_law_flag) := ⟨rfl, rfl, rfl, by decide +kernel, rfl, by decide +kernel, by decide +kernel⟩
abbrev s_law_second : Stmt := top 48
theorem sc_law_second : FnScope ["script", "tape", "word", "watches", "due", "book", "told", "other"] ["script"] (defScope s_law_second) := ⟨rfl, rfl, rfl, by decide +kernel, rfl, by decide +kernel, by decide +kernel⟩
abbrev s_law_told : Stmt := top 43
theorem sc_law_told : FnScope ["book", "word", "spot", "told", "e"] ["book", "word", "spot"] (defScope s_law_told) := ⟨rfl, rfl, rfl, by decide +kernel, rfl, by decide +kernel, by decide +kernel⟩
abbrev s_law_first : Stmt := top 44
theorem sc_law_first : FnScope ["script", "tape", "word", "watches", "book", "spot", "due", "told"] ["script"] (defScope s_law_first) := ⟨rfl, rfl, rfl, by decide +kernel, rfl, by decide +kernel, by decide +kernel⟩
abbrev s_law : Stmt := top 49
theorem sc_law : FnScope ["script"] ["script"] (defScope s_law) := ⟨rfl, rfl, rfl, by decide +kernel, rfl, by decide +kernel, by decide +kernel⟩
structure Top (K : PySem.W.Frag) (mg : Str → Option Value) where
  C_Book : Addr
  cl_Book : Cls K C_Book
  g_Book : mg "Book" = some (.ref C_Book)
  na_Book_watches : NoAttr K C_Book "watches"
  f_WayError__init : Addr
  fd_WayError__init : FuncData
  F_WayError__init : Fun K "__init__" "WayError.__init__" s_WayError__init f_WayError__init fd_WayError__init
  b_WayError__init : Binds K fd_WayError__init ["self", "value"] []
  f_is_integer : Addr
  fd_is_integer : FuncData
  F_is_integer : Fun K "is_integer" "is_integer" s_is_integer f_is_integer fd_is_integer
  b_is_integer : Binds K fd_is_integer ["thing"] []
  g_is_integer : mg "is_integer" = some (.ref f_is_integer)
  f_is_row : Addr
  fd_is_row : FuncData
  F_is_row : Fun K "is_row" "is_row" s_is_row f_is_row fd_is_row
  b_is_row : Binds K fd_is_row ["thing"] []
  g_is_row : mg "is_row" = some (.ref f_is_row)
  f_is_word : Addr
  fd_is_word : FuncData
  F_is_word : Fun K "is_word" "is_word" s_is_word f_is_word fd_is_word
  b_is_word : Binds K fd_is_word ["thing"] []
  g_is_word : mg "is_word" = some (.ref f_is_word)
  f_is_watch : Addr
  fd_is_watch : FuncData
  F_is_watch : Fun K "is_watch" "is_watch" s_is_watch f_is_watch fd_is_watch
  b_is_watch : Binds K fd_is_watch ["thing"] []
  g_is_watch : mg "is_watch" = some (.ref f_is_watch)
  f_has_letters : Addr
  fd_has_letters : FuncData
  F_has_letters : Fun K "has_letters" "has_letters" s_has_letters f_has_letters fd_has_letters
  b_has_letters : Binds K fd_has_letters ["thing", "most"] []
  g_has_letters : mg "has_letters" = some (.ref f_has_letters)
  f_check_word : Addr
  fd_check_word : FuncData
  F_check_word : Fun K "check_word" "check_word" s_check_word f_check_word fd_check_word
  b_check_word : Binds K fd_check_word ["word"] []
  g_check_word : mg "check_word" = some (.ref f_check_word)
  f_wrong_watch : Addr
  fd_wrong_watch : FuncData
  F_wrong_watch : Fun K "wrong_watch" "wrong_watch" s_wrong_watch f_wrong_watch fd_wrong_watch
  b_wrong_watch : Binds K fd_wrong_watch ["watches"] []
  g_wrong_watch : mg "wrong_watch" = some (.ref f_wrong_watch)
  f_Book__init : Addr
  fd_Book__init : FuncData
  F_Book__init : Fun K "__init__" "Book.__init__" s_Book__init f_Book__init fd_Book__init
  b_Book__init : Binds K fd_Book__init ["self", "watches"] []
  M_Book : Mk K C_Book f_Book__init
  f_check_book : Addr
  fd_check_book : FuncData
  F_check_book : Fun K "check_book" "check_book" s_check_book f_check_book fd_check_book
  b_check_book : Binds K fd_check_book ["book"] []
  g_check_book : mg "check_book" = some (.ref f_check_book)
  f_check_asked : Addr
  fd_check_asked : FuncData
  F_check_asked : Fun K "check_asked" "check_asked" s_check_asked f_check_asked fd_check_asked
  b_check_asked : Binds K fd_check_asked ["book", "word"] []
  g_check_asked : mg "check_asked" = some (.ref f_check_asked)
  f_links_through : Addr
  fd_links_through : FuncData
  F_links_through : Fun K "links_through" "links_through" s_links_through f_links_through fd_links_through
  b_links_through : Binds K fd_links_through ["pieces", "word"] []
  g_links_through : mg "links_through" = some (.ref f_links_through)
  f_links_of : Addr
  fd_links_of : FuncData
  F_links_of : Fun K "links_of" "links_of" s_links_of f_links_of fd_links_of
  b_links_of : Binds K fd_links_of ["book", "word"] []
  g_links_of : mg "links_of" = some (.ref f_links_of)
  f_steps_to : Addr
  fd_steps_to : FuncData
  F_steps_to : Fun K "steps_to" "steps_to" s_steps_to f_steps_to fd_steps_to
  b_steps_to : Binds K fd_steps_to ["links", "goal"] []
  g_steps_to : mg "steps_to" = some (.ref f_steps_to)
  f_leads_through : Addr
  fd_leads_through : FuncData
  F_leads_through : Fun K "leads_through" "leads_through" s_leads_through f_leads_through fd_leads_through
  b_leads_through : Binds K fd_leads_through ["pieces", "word"] []
  g_leads_through : mg "leads_through" = some (.ref f_leads_through)
  f_class_of : Addr
  fd_class_of : FuncData
  F_class_of : Fun K "class_of" "class_of" s_class_of f_class_of fd_class_of
  b_class_of : Binds K fd_class_of ["links", "spot"] []
  g_class_of : mg "class_of" = some (.ref f_class_of)
  f_is_spot : Addr
  fd_is_spot : FuncData
  F_is_spot : Fun K "is_spot" "is_spot" s_is_spot f_is_spot fd_is_spot
  b_is_spot : Binds K fd_is_spot ["word", "thing"] []
  g_is_spot : mg "is_spot" = some (.ref f_is_spot)
  f_neighbours : Addr
  fd_neighbours : FuncData
  F_neighbours : Fun K "neighbours" "neighbours" s_neighbours f_neighbours fd_neighbours
  b_neighbours : Binds K fd_neighbours ["book", "word", "spot"] []
  g_neighbours : mg "neighbours" = some (.ref f_neighbours)
  f_classes : Addr
  fd_classes : FuncData
  F_classes : Fun K "classes" "classes" s_classes f_classes fd_classes
  b_classes : Binds K fd_classes ["book", "word"] []
  g_classes : mg "classes" = some (.ref f_classes)
  f_is_told : Addr
  fd_is_told : FuncData
  F_is_told : Fun K "is_told" "is_told" s_is_told f_is_told fd_is_told
  b_is_told : Binds K fd_is_told ["book", "word"] []
  g_is_told : mg "is_told" = some (.ref f_is_told)
  f_law_tape : Addr
  fd_law_tape : FuncData
  F_law_tape : Fun K "_law_tape" "_law_tape" s_law_tape f_law_tape fd_law_tape
  b_law_tape : Binds K fd_law_tape ["script"] []
  g_law_tape : mg "_law_tape" = some (.ref f_law_tape)
  f_law_pick : Addr
  fd_law_pick : FuncData
  F_law_pick : Fun K "_law_pick" "_law_pick" s_law_pick f_law_pick fd_law_pick
  b_law_pick : Binds K fd_law_pick ["tape", "size"] []
  g_law_pick : mg "_law_pick" = some (.ref f_law_pick)
  f_law_letters : Addr
  fd_law_letters : FuncData
  F_law_letters : Fun K "_law_letters" "_law_letters" s_law_letters f_law_letters fd_law_letters
  b_law_letters : Binds K fd_law_letters ["tape", "many"] []
  g_law_letters : mg "_law_letters" = some (.ref f_law_letters)
  f_law_word : Addr
  fd_law_word : FuncData
  F_law_word : Fun K "_law_word" "_law_word" s_law_word f_law_word fd_law_word
  b_law_word : Binds K fd_law_word ["tape", "most"] []
  g_law_word : mg "_law_word" = some (.ref f_law_word)
  f_law_watch : Addr
  fd_law_watch : FuncData
  F_law_watch : Fun K "_law_watch" "_law_watch" s_law_watch f_law_watch fd_law_watch
  b_law_watch : Binds K fd_law_watch ["tape", "word", "most"] []
  g_law_watch : mg "_law_watch" = some (.ref f_law_watch)
  f_law_watches : Addr
  fd_law_watches : FuncData
  F_law_watches : Fun K "_law_watches" "_law_watches" s_law_watches f_law_watches fd_law_watches
  b_law_watches : Binds K fd_law_watches ["tape", "word", "many", "most"] []
  g_law_watches : mg "_law_watches" = some (.ref f_law_watches)
  f_law_near : Addr
  fd_law_near : FuncData
  F_law_near : Fun K "_law_near" "_law_near" s_law_near f_law_near fd_law_near
  b_law_near : Binds K fd_law_near ["watches", "word", "spot"] []
  g_law_near : mg "_law_near" = some (.ref f_law_near)
  f_law_mixed : Addr
  fd_law_mixed : FuncData
  F_law_mixed : Fun K "_law_mixed" "_law_mixed" s_law_mixed f_law_mixed fd_law_mixed
  b_law_mixed : Binds K fd_law_mixed ["tape", "things"] []
  g_law_mixed : mg "_law_mixed" = some (.ref f_law_mixed)
  f_law_flood : Addr
  fd_law_flood : FuncData
  F_law_flood : Fun K "_law_flood" "_law_flood" s_law_flood f_law_flood fd_law_flood
  b_law_flood : Binds K fd_law_flood ["watches", "word", "start"] []
  g_law_flood : mg "_law_flood" = some (.ref f_law_flood)
  f_law_classes : Addr
  fd_law_classes : FuncData
  F_law_classes : Fun K "_law_classes" "_law_classes" s_law_classes f_law_classes fd_law_classes
  b_law_classes : Binds K fd_law_classes ["watches", "word"] []
  g_law_classes : mg "_law_classes" = some (.ref f_law_classes)
  f_law_flag : Addr
  fd_law_flag : FuncData
  F_law_flag : Fun K "_law_flag" "_law_flag" s_law_flag f_law_flag fd_law_flag
  b_law_flag : Binds K fd_law_flag ["told", "due"] []
  g_law_flag : mg "_law_flag" = some (.ref f_law_flag)
  f_law_second : Addr
  fd_law_second : FuncData
  F_law_second : Fun K "_law_second" "_law_second" s_law_second f_law_second fd_law_second
  b_law_second : Binds K fd_law_second ["script"] []
  g_law_second : mg "_law_second" = some (.ref f_law_second)
  f_law_told : Addr
  fd_law_told : FuncData
  F_law_told : Fun K "_law_told" "_law_told" s_law_told f_law_told fd_law_told
  b_law_told : Binds K fd_law_told ["book", "word", "spot"] []
  g_law_told : mg "_law_told" = some (.ref f_law_told)
  f_law_first : Addr
  fd_law_first : FuncData
  F_law_first : Fun K "_law_first" "_law_first" s_law_first f_law_first fd_law_first
  b_law_first : Binds K fd_law_first ["script"] []
  g_law_first : mg "_law_first" = some (.ref f_law_first)
  f_law : Addr
  fd_law : FuncData
  F_law : Fun K "law" "law" s_law f_law fd_law
  b_law : Binds K fd_law ["script"] []
  g_law : mg "law" = some (.ref f_law)
  n_isinstance : mg "isinstance" = none
  n_list : mg "list" = none
  n_tuple : mg "tuple" = none
  n_str : mg "str" = none
  n_len : mg "len" = none
  n_all : mg "all" = none
  n_enumerate : mg "enumerate" = none
  n_range : mg "range" = none
  n_sorted : mg "sorted" = none
  n_int : mg "int" = none
  n_min : mg "min" = none
  n_max : mg "max" = none
  n_bool : mg "bool" = none
  k_MOST_LETTERS : PySem.Tok
  g_MOST_LETTERS : mg "MOST_LETTERS" = some (.int 40 k_MOST_LETTERS)
  k_MOST_WATCH_LETTERS : PySem.Tok
  g_MOST_WATCH_LETTERS : mg "MOST_WATCH_LETTERS" = some (.int 12 k_MOST_WATCH_LETTERS)
  k_MOST_WATCHES : PySem.Tok
  g_MOST_WATCHES : mg "MOST_WATCHES" = some (.int 12 k_MOST_WATCHES)
  hnO : PySem.W.specialIn K (.builtin "object.__class__") "__get__" = some (some (.builtin "getset_descriptor.__get__"))
  htO : PySem.W.takesIn K (.builtin "object.__class__") = some true
  ha_Book : PySem.W.findIn K (.ref C_Book) "__class__" = some (some (.builtin "object.__class__"))
  hm_Book : PySem.W.mroIn K C_Book (.type "object") = some true
  kBB : PySem.W.kitOne K (.ref C_Book) (.ref C_Book) = some true
  C_BS : Addr
  g_BadSpot : mg "BadSpot" = some (.ref C_BS)
  oex_BadSpot : OexC K C_BS
  i_BadSpot : PySem.W.findIn K (.ref C_BS) "__init__" = some (some (.ref f_WayError__init))
  tI : PySem.W.typeIn K (.ref f_WayError__init) = some (.type "function")
  v_BadSpot : PySem.W.findIn K (.ref C_BS) "value" = some none
  xf_BadSpot : XfC K C_BS
  exI_BadSpot : ExcC K C_BS
  exm : PySem.W.exmOne K (.ref C_BS) (.ref C_BS) = some true
/-! ### the head -/
def faH0 : List He.Fa := [.glo "WayError", .glo "BadSpot", .glo "Book", .glo "is_integer", .glo "is_row", .glo "is_word", .glo "is_watch", .glo "has_letters", .glo "check_word", .glo "wrong_watch", .glo "check_book", .glo "check_asked", .glo "links_through", .glo "links_of", .glo "steps_to", .glo "leads_through", .glo "class_of", .glo "is_spot", .glo "neighbours", .glo "classes", .glo "is_told", .glo "_law_tape", .glo "_law_pick", .glo "_law_letters", .glo "_law_word", .glo "_law_watch", .glo "_law_watches", .glo "_law_near", .glo "_law_mixed", .glo "_law_flood"]
def faH1 : List He.Fa := [.glo "_law_classes", .glo "_law_flag", .glo "_law_second", .glo "_law_told", .glo "_law_first", .glo "law", .free "isinstance", .free "list", .free "tuple", .free "str", .free "len", .free "all", .free "enumerate", .free "range", .free "sorted", .free "int", .free "min", .free "max", .free "bool", .int "MOST_LETTERS" 40, .int "MOST_WATCH_LETTERS" 12, .int "MOST_WATCHES" 12, .cls "Book", .noat "Book" "watches", .mkr "Book"]
def faH : List He.Fa := faH0 ++ faH1
def dH_WayError__init : He.DefD := ⟨("WayError", some "__init__"), "__init__", "WayError.__init__", defArgs s_WayError__init, defBody s_WayError__init, defScope s_WayError__init, [], []⟩
def dH_is_integer : He.DefD := ⟨("is_integer", none), "is_integer", "is_integer", defArgs s_is_integer, defBody s_is_integer, defScope s_is_integer, [], []⟩
def dH_is_row : He.DefD := ⟨("is_row", none), "is_row", "is_row", defArgs s_is_row, defBody s_is_row, defScope s_is_row, [], []⟩
def dH_is_word : He.DefD := ⟨("is_word", none), "is_word", "is_word", defArgs s_is_word, defBody s_is_word, defScope s_is_word, [], []⟩
def dH_is_watch : He.DefD := ⟨("is_watch", none), "is_watch", "is_watch", defArgs s_is_watch, defBody s_is_watch, defScope s_is_watch, [], []⟩
def dH_has_letters : He.DefD := ⟨("has_letters", none), "has_letters", "has_letters", defArgs s_has_letters, defBody s_has_letters, defScope s_has_letters, [], []⟩
def dH_check_word : He.DefD := ⟨("check_word", none), "check_word", "check_word", defArgs s_check_word, defBody s_check_word, defScope s_check_word, [], []⟩
def dH_wrong_watch : He.DefD := ⟨("wrong_watch", none), "wrong_watch", "wrong_watch", defArgs s_wrong_watch, defBody s_wrong_watch, defScope s_wrong_watch, [], []⟩
def dH_Book__init : He.DefD := ⟨("Book", some "__init__"), "__init__", "Book.__init__", defArgs s_Book__init, defBody s_Book__init, defScope s_Book__init, [], []⟩
def dH_check_book : He.DefD := ⟨("check_book", none), "check_book", "check_book", defArgs s_check_book, defBody s_check_book, defScope s_check_book, [], []⟩
def dH_check_asked : He.DefD := ⟨("check_asked", none), "check_asked", "check_asked", defArgs s_check_asked, defBody s_check_asked, defScope s_check_asked, [], []⟩
def dH_links_through : He.DefD := ⟨("links_through", none), "links_through", "links_through", defArgs s_links_through, defBody s_links_through, defScope s_links_through, [], []⟩
def dH_links_of : He.DefD := ⟨("links_of", none), "links_of", "links_of", defArgs s_links_of, defBody s_links_of, defScope s_links_of, [], []⟩
def dH_steps_to : He.DefD := ⟨("steps_to", none), "steps_to", "steps_to", defArgs s_steps_to, defBody s_steps_to, defScope s_steps_to, [], []⟩
def dH_leads_through : He.DefD := ⟨("leads_through", none), "leads_through", "leads_through", defArgs s_leads_through, defBody s_leads_through, defScope s_leads_through, [], []⟩
def dH_class_of : He.DefD := ⟨("class_of", none), "class_of", "class_of", defArgs s_class_of, defBody s_class_of, defScope s_class_of, [], []⟩
def dH_is_spot : He.DefD := ⟨("is_spot", none), "is_spot", "is_spot", defArgs s_is_spot, defBody s_is_spot, defScope s_is_spot, [], []⟩
def dH_neighbours : He.DefD := ⟨("neighbours", none), "neighbours", "neighbours", defArgs s_neighbours, defBody s_neighbours, defScope s_neighbours, [], []⟩
def dH_classes : He.DefD := ⟨("classes", none), "classes", "classes", defArgs s_classes, defBody s_classes, defScope s_classes, [], []⟩
def dH_is_told : He.DefD := ⟨("is_told", none), "is_told", "is_told", defArgs s_is_told, defBody s_is_told, defScope s_is_told, [], []⟩
def dH_law_tape : He.DefD := ⟨("_law_tape", none), "_law_tape", "_law_tape", defArgs s_law_tape, defBody s_law_tape, defScope s_law_tape, [], []⟩
def dH_law_pick : He.DefD := ⟨("_law_pick", none), "_law_pick", "_law_pick", defArgs s_law_pick, defBody s_law_pick, defScope s_law_pick, [], []⟩
def dH_law_letters : He.DefD := ⟨("_law_letters", none), "_law_letters", "_law_letters", defArgs s_law_letters, defBody s_law_letters, defScope s_law_letters, [], []⟩
def dH_law_word : He.DefD := ⟨("_law_word", none), "_law_word", "_law_word", defArgs s_law_word, defBody s_law_word, defScope s_law_word, [], []⟩
def dH_law_watch : He.DefD := ⟨("_law_watch", none), "_law_watch", "_law_watch", defArgs s_law_watch, defBody s_law_watch, defScope s_law_watch, [], []⟩
def dH_law_watches : He.DefD := ⟨("_law_watches", none), "_law_watches", "_law_watches", defArgs s_law_watches, defBody s_law_watches, defScope s_law_watches, [], []⟩
def dH_law_near : He.DefD := ⟨("_law_near", none), "_law_near", "_law_near", defArgs s_law_near, defBody s_law_near, defScope s_law_near, [], []⟩
def dH_law_mixed : He.DefD := ⟨("_law_mixed", none), "_law_mixed", "_law_mixed", defArgs s_law_mixed, defBody s_law_mixed, defScope s_law_mixed, [], []⟩
def dH_law_flood : He.DefD := ⟨("_law_flood", none), "_law_flood", "_law_flood", defArgs s_law_flood, defBody s_law_flood, defScope s_law_flood, [], []⟩
def dH_law_classes : He.DefD := ⟨("_law_classes", none), "_law_classes", "_law_classes", defArgs s_law_classes, defBody s_law_classes, defScope s_law_classes, [], []⟩
def dH_law_flag : He.DefD := ⟨("_law_flag", none), "_law_flag", "_law_flag", defArgs s_law_flag, defBody s_law_flag, defScope s_law_flag, [], []⟩
def dH_law_second : He.DefD := ⟨("_law_second", none), "_law_second", "_law_second", defArgs s_law_second, defBody s_law_second, defScope s_law_second, [], []⟩
def dH_law_told : He.DefD := ⟨("_law_told", none), "_law_told", "_law_told", defArgs s_law_told, defBody s_law_told, defScope s_law_told, [], []⟩
def dH_law_first : He.DefD := ⟨("_law_first", none), "_law_first", "_law_first", defArgs s_law_first, defBody s_law_first, defScope s_law_first, [], []⟩
def dH_law : He.DefD := ⟨("law", none), "law", "law", defArgs s_law, defBody s_law, defScope s_law, [], []⟩
def fnH0 : List He.DefD := [dH_WayError__init, dH_is_integer, dH_is_row, dH_is_word, dH_is_watch, dH_has_letters, dH_check_word, dH_wrong_watch, dH_Book__init, dH_check_book, dH_check_asked, dH_links_through, dH_links_of, dH_steps_to, dH_leads_through, dH_class_of, dH_is_spot, dH_neighbours, dH_classes, dH_is_told, dH_law_tape, dH_law_pick, dH_law_letters, dH_law_word, dH_law_watch]
def fnH1 : List He.DefD := [dH_law_watches, dH_law_near, dH_law_mixed, dH_law_flood, dH_law_classes, dH_law_flag, dH_law_second, dH_law_told, dH_law_first, dH_law]
def fnH : List He.DefD := fnH0 ++ fnH1
def x_hnO (K : PySem.W.Frag) : Bool := OQ.isB (PySem.W.specialIn K (.builtin "object.__class__") "__get__") (some (.builtin "getset_descriptor.__get__"))
def x_htO (K : PySem.W.Frag) : Bool := decide (PySem.W.takesIn K (.builtin "object.__class__") = some true)
def x_haBook (K : PySem.W.Frag) : Bool := OQ.isB (PySem.W.findIn K (.ref (He.ga K "Book")) "__class__") (some (.builtin "object.__class__"))
def x_hmBook (K : PySem.W.Frag) : Bool := decide (PySem.W.mroIn K (He.ga K "Book") (.type "object") = some true)
def x_eBS (K : PySem.W.Frag) : Bool := OQ.erB K (He.ga K "WayError") (He.fAd K ("WayError", some "__init__")) (He.ga K "BadSpot")
def x_tI (K : PySem.W.Frag) : Bool := decide (PySem.W.typeIn K (.ref (He.fAd K ("WayError", some "__init__"))) = some (.type "function"))
def exH (K : PySem.W.Frag) : Bool := x_hnO K && (x_htO K && (x_haBook K && (x_hmBook K && (x_eBS K && (x_tI K)))))
abbrev hk : PySem.W.Hook := OQ.hookB 5 faH fnH exH
def ob : PySem.W.SharedT → He.AlD × Bool := OQ.obB 5 faH fnH exH

/-! ### the run -/
def looseH0 : List Str := ["_wall", "WayError", "BadWord", "BadWatches", "BadBook", "BadSpot", "is_integer", "is_row", "MOST_LETTERS", "MOST_WATCH_LETTERS", "is_word", "is_watch", "has_letters", "check_word", "MOST_WATCHES", "Book", "wrong_watch", "check_book", "check_asked", "links_of", "links_through", "leads_through", "steps_to", "class_of", "neighbours", "classes", "is_told", "is_spot", "_law_tape", "_law_pick"]
def looseH1 : List Str := ["_law_flag", "_law_letters", "_law_word", "_law_watch", "_law_watches", "_law_near", "_law_told", "_law_first", "_law_mixed", "_law_flood", "_law_classes", "_law_second"]
def looseH : List Str := looseH0 ++ looseH1
abbrev Rw : PySem.W.OpenRow := PySem.W.OpenLaw.row PySem.Challenge.rw_watchedways_k03_neighbours_and_classes
set_option maxHeartbeats 0 in
theorem run (w : World) : HandSHeadRun.RunEq Rw (PySem.W.view Rw.prog [49]) hk ob 30000 looseH w := by
  intro os
  kernel_rfl

/-! ### kinds stay -/
theorem tyX_same {K : PySem.W.Frag} {H H' : Hp} {x : V} {t : Value} (h : TyX K H x t) (s : Same H H') : TyX K H' x t := by
  cases h with
  | base b =>
    refine .base ?_
    cases b with
    | non => exact .non
    | bl x => exact .bl x
    | int i => exact .int i
    | str x => exact .str x
    | flt x => exact .flt x
    | lst e => exact .lst (s _ _ e)
    | frz e => exact .frz (s _ _ e)
    | tup e => exact .tup (s _ _ e)
    | dK e => exact .dK (s _ _ e)
    | dT e => exact .dT (s _ _ e)
    | ins e cl a n k m => exact .ins (s _ _ e) cl a n k m
  | byt b => exact .byt b
  | set e => exact .set (s _ _ e)
  | kList e c => exact .kList e c
  | kTuple e c => exact .kTuple e c
  | kDict e c => exact .kDict e c
  | fTuple e => exact .fTuple (s _ _ e)
  | fDict e => exact .fDict (s _ _ e)

/-! ### the tape of a script (55 laws) -/
def TapeAt (H : Hp) (h c : Addr) : Prop := ∃ (cs : List Int) (p q m n : Int), H h = some (.lst [.ref c, .int p, .int q, .int m, .int n]) ∧ H c = some (.lst (cs.map V.int)) ∧ c ≠ h ∧ 0 ≤ p
/-- all but what stands at h is as it was -/
def But (h : Addr) (H H' : Hp) : Prop := ∀ b, b ≠ h → H' b = H b
def spPick : Sp := fun vs H Q _ => ∃ (h c : Addr) (size : Int), vs = [.ref h, .int size] ∧ TapeAt H h c ∧ 0 < size ∧ size.natAbs.log2 < 9000 ∧
  ∀ (r : Int) (H' : Hp), 0 ≤ r → r < size → TapeAt H' h c → But h H H' → Q (.int r) H'
def spTape (K : PySem.W.Frag) : Sp := fun vs H Q _ => ∃ (a : Addr) (ns : List Int), vs = [.ref a] ∧ SqL K H a (ns.map V.int) ∧
  ∀ (h c : Addr) (H' : Hp), TapeAt H' h c → Same H H' → H h = none → H c = none → Q (.ref h) H'
theorem upd_upd {H : Hp} {p : Addr} {o u : HO} : upd (upd H p o) p u = upd H p u := by
  funext b
  by_cases e : b = p
  · subst e; rw [upd_same, upd_same]
  · rw [upd_ne e, upd_ne e, upd_ne e]
theorem upd_id {H : Hp} {p : Addr} {o : HO} (e : H p = some o) : upd H p o = H := by
  funext b
  by_cases h : b = p
  · subst h; rw [upd_same, e]
  · rw [upd_ne h]
theorem same_upd {H : Hp} {p : Addr} {o : HO} (h : H p = none) : Same H (upd H p o) := fun b u e => by
  rw [upd_ne (ne_of_none e h)]; exact e
section
variable {P : Program} {w : World} {K : PySem.W.Frag} {mg : Str → Option Value} {base : Heap}
theorem ok_law_tape (T : Top K mg) : FnOk P w K mg base CX0 1 T.f_law_tape T.fd_law_tape ["script"] (spTape K) := by
  refine T.F_law_tape.ok sc_law_tape (fun vs H Q E h => ?_) (fun cdv A outer s H vs Q E hr h => ?_)
  · obtain ⟨a, ns, rfl, _⟩ := h; rfl
  · obtain ⟨a, ns, rfl, hS, k⟩ := h
    refine ⟨_, (pss_one (ps_ret (pe_lst (pa_cons (pe_callTy call_list_of (by rfl) T.n_list (by decide +kernel) (pa_cons (pv 0) pa_nil)) (pa_cons pe_int (pa_cons pe_int (pa_cons pe_int (pa_cons pe_int pa_nil)))))))), ?_⟩
    walk_at "rd"
    refine ⟨a, ns.map V.int, rfl, .inl hS, fun c hc => ?_⟩
    walk_at "rd"
    refine ⟨by show 5 ≤ sizeLine; decide, fun h hh => ?_⟩
    have nh : h ≠ c := fun z => by rw [z, upd_same] at hh; cases hh
    have hh' : H h = none := by rw [upd_ne nh] at hh; exact hh
    exact k h c _ ⟨ns, 0, 0, 1, 0, upd_same, by rw [upd_ne (Ne.symm nh)]; exact upd_same, Ne.symm nh, Int.le_refl _⟩ (fun b u e => same_upd hh _ _ (same_upd hc _ _ e)) hh' hc
theorem ok_law_pick (T : Top K mg) : FnOk P w K mg base CX0 1 T.f_law_pick T.fd_law_pick ["tape", "size"] spPick := by
  refine T.F_law_pick.ok sc_law_pick (fun vs H Q E h => ?_) (fun cdv A outer s H vs Q E hr h => ?_)
  · obtain ⟨h, c, size, rfl, _⟩ := h; rfl
  · obtain ⟨h, c, size, rfl, ⟨cs, p, q, m, n, e1, e2, ne, hp⟩, m0, ml, k⟩ := h
    refine ⟨_, (pss_cons (ps_if (pt_cmpR op_gt (pe_ix ix_list (pv 0) pe_int (fun _ _ => rfl)) pe_int (nomark _))
 (pss_cons (ps_set (i := 2) sc_law_pick.nd rfl (Or.inl rfl) (pe_op op_mod (pe_callTy RD.c_int (by rfl) T.n_int (by decide +kernel) (pa_cons (pe_ix ix_list (pv 0) pe_int (fun _ _ => rfl)) pa_nil)) (pv 1)))
 (pss_cons (ps_asg (pe_op op_fdivW (pe_ix ix_list (pv 0) pe_int (fun _ _ => rfl)) (pv 1)) (pg_sub (pv 0) pe_int set_list))
 (pss_one (ps_ret (pv 2)))))
 pss_nil)
 (pss_cons (ps_asg (pe_op op_add (pe_ix ix_list (pv 0) pe_int (fun _ _ => rfl)) pe_int) (pg_sub (pv 0) pe_int set_list))
 (pss_cons (ps_set (i := 3) sc_law_pick.nd rfl (Or.inl rfl) pe_int)
 (C8.pss_cut (ps_if (pt_cmpR op_lt (pe_ix ix_list (pv 0) pe_int (fun _ _ => rfl)) (pe_callB RD.c_len (by rfl) T.n_len (by decide +kernel) (pa_cons (pe_ix ix_list (pv 0) pe_int (fun _ _ => rfl)) pa_nil)) (nomark _))
 (pss_cons (ps_set (i := 3) sc_law_pick.nd rfl (Or.inl rfl) (pe_ix ix_list (pe_ix ix_list (pv 0) pe_int (fun _ _ => rfl)) (pe_ix ix_list (pv 0) pe_int (fun _ _ => rfl)) (fun _ _ => rfl)))
 (pss_one (ps_asg (pe_op op_add (pe_ix ix_list (pv 0) pe_int (fun _ _ => rfl)) pe_int) (pg_sub (pv 0) pe_int set_list))))
 pss_nil)
 (pss_cons (ps_if (pt_cmpR op_ge (pv 3) (pe_op op_pow pe_int pe_int) (nomark _))
 (pss_cons (ps_asg (pe_op op_fdivW (pv 3) (pv 1)) (pg_sub (pv 0) pe_int set_list))
 (pss_one (ps_ret (pe_op op_mod (pe_callTy RD.c_int (by rfl) T.n_int (by decide +kernel) (pa_cons (pv 3) pa_nil)) (pv 1)))))
 pss_nil)
 (pss_cons (ps_set (i := 4) sc_law_pick.nd rfl (Or.inl rfl) (pe_op op_mod (pe_callTy RD.c_int (by rfl) T.n_int (by decide +kernel) (pa_cons (pe_op op_add (pe_op op_add (pe_op op_mul (pe_ix ix_list (pv 0) pe_int (fun _ _ => rfl)) pe_int) (pe_op op_mod (pe_callTy RD.c_int (by rfl) T.n_int (by decide +kernel) (pa_cons (pv 3) pa_nil)) pe_int)) (pe_op op_mul (pe_ix ix_list (pv 0) pe_int (fun _ _ => rfl)) pe_int)) pa_nil)) pe_int))
 (pss_cons (ps_set (i := 4) sc_law_pick.nd rfl (Or.inl rfl) (pe_op op_mod (pe_callTy RD.c_int (by rfl) T.n_int (by decide +kernel) (pa_cons (pe_op op_mul (pv 4) (pe_op op_add (pe_op op_fdivW (pv 4) pe_int) pe_int)) pa_nil)) pe_int))
 (pss_cons (ps_asg (pv 4) (pg_sub (pv 0) pe_int set_list))
 (pss_one (ps_ret (pe_op op_mod (pe_callTy RD.c_int (by rfl) T.n_int (by decide +kernel) (pa_cons (pe_op op_fdivW (pv 4) pe_int) pa_nil)) (pv 1)))))))))))), ?_⟩
    have fin : ∀ p2 q2 m2 n2 : Int, 0 ≤ p2 → TapeAt (upd H h (.lst [.ref c, .int p2, .int q2, .int m2, .int n2])) h c ∧ But h H (upd H h (.lst [.ref c, .int p2, .int q2, .int m2, .int n2])) := fun p2 q2 m2 n2 h0 =>
      ⟨⟨cs, p2, q2, m2, n2, upd_same, (by rw [upd_ne ne]; exact e2), ne, h0⟩, fun b hb => upd_ne hb⟩
    walk_at "rd"
    refine RD.iteD (fun c1 => ?_) (fun c1 => ?_)
    · walk_at "rd"
      exact k _ _ (Int.emod_nonneg _ (by omega)) (Int.emod_lt_of_pos _ m0) (fin _ _ _ _ hp).1 (fin _ _ _ _ hp).2
    · walk_at "rd"
      refine RD.d_cut (fun σ' H' => ∃ (x y : Option V) (p' cell : Int), σ' = [some (.ref h), some (.int size), x, some (.int cell), y] ∧ H' = upd H h (.lst [.ref c, .int p', .int q, .int m, .int (n + 1)]) ∧ 0 ≤ p') ?_ ?_
      · walk_at "rd"
        refine RD.d_lenL (SqL.of (by rw [upd_ne ne]; exact e2)) ?_
        walk_at "rd"
        refine RD.iteD (fun c2 => ?_) (fun c2 => ?_)
        · have hl : p.toNat < cs.length := by rw [List.length_map] at c2; omega
          have hg : (cs.map V.int)[p.toNat]? = some (V.int cs[p.toNat]) := by simp [hl]
          have ha : atI (cs.map V.int) p = some (V.int cs[p.toNat]) := by
            have z := atI_nat hg
            rwa [Int.toNat_of_nonneg hp] at z
          walk_at "rd"
          refine RD.d_ixL (SqL.of (by rw [upd_ne ne]; exact e2)) ha ?_
          walk_at "rd"
          exact ⟨_, _, p + 1, cs[p.toNat], rfl, (by rw [upd_upd]; rfl), by omega⟩
        · walk_at "rd"
          exact ⟨_, _, p, 0, rfl, rfl, hp⟩
      · rintro σ' H' ⟨x, y, p', cell, rfl, rfl, hp'⟩
        walk_at "rd"
        refine RD.iteD (fun c2 => ?_) (fun c2 => ?_)
        · walk_at "rd"
          rw [upd_upd]
          exact k _ _ (Int.emod_nonneg _ (by omega)) (Int.emod_lt_of_pos _ m0) (fin _ _ _ _ hp').1 (fin _ _ _ _ hp').2
        · walk_at "rd"
          rw [upd_upd]
          exact k _ _ (Int.emod_nonneg _ (by omega)) (Int.emod_lt_of_pos _ m0) (fin _ _ _ _ hp').1 (fin _ _ _ _ hp').2
end

/-! ### all but one object stays -/
def Kx (x : Addr) (H H' : Hp) : Prop := ∀ b o, b ≠ x → H b = some o → H' b = some o
theorem Kx.trans {x : Addr} {H H1 H2 : Hp} (a : Kx x H H1) (b : Kx x H1 H2) : Kx x H H2 := fun c o n e => b c o n (a c o n e)
theorem Same.kx {x : Addr} {H H' : Hp} (s : Same H H') : Kx x H H' := fun b o _ e => s b o e
theorem kx_upd {x : Addr} {H : Hp} {o : HO} : Kx x H (upd H x o) := fun b u n e => by rw [upd_ne n]; exact e
theorem putF_none {f : Str} {v : V} : putF f v [] = [(f, v)] := rfl
theorem putF_ne {f g : Str} {u v : V} {r : List (Str × V)} (n : g ≠ f) : putF f v ((g, u) :: r) = (g, u) :: putF f v r := if_neg n
theorem lk_ne {f g : Str} {v : V} {r : List (Str × V)} (h : (f == g) = false) : List.lookup f ((g, v) :: r) = List.lookup f r := by simp [List.lookup, h]
theorem lk_eq {f : Str} {v : V} {r : List (Str × V)} : List.lookup f ((f, v) :: r) = some v := by simp [List.lookup]
theorem d_iTup {K : PySem.W.Frag} {tl : TE} {R : It → Hp → Prop} {σ : L2.St} {H : Hp} (h : tl σ H fun x H1 => ∃ a, x = .ref a ∧ (∃ xs, SqT K H1 a xs) ∧ R (Itt K a) H1) : iTup K tl σ H R := h
theorem kit_selfR {K : PySem.W.Frag} {t : Value} : PySem.W.kitOne K t t = some true := by
  unfold PySem.W.kitOne
  rw [if_pos (by simp)]

/-! ### rows -/
theorem kitA_list {K : PySem.W.Frag} : PySem.W.kitAny K (.type "list") [.type "list", .type "tuple"] = some true := by
  unfold PySem.W.kitAny
  rw [kit_ty (r := true) (by decide +kernel)]
theorem kitA_tuple {K : PySem.W.Frag} : PySem.W.kitAny K (.type "tuple") [.type "list", .type "tuple"] = some true := by
  unfold PySem.W.kitAny
  rw [kit_ty (r := false) (by decide +kernel)]
  unfold PySem.W.kitAny
  rw [kit_ty (r := true) (by decide +kernel)]
def spIsRow (K : PySem.W.Frag) : Sp := fun vs H Q _ => ∃ (x : V) (t : Value) (b : Bool), vs = [x] ∧ TyX K H x t ∧ PySem.W.kitAny K t [.type "list", .type "tuple"] = some b ∧ ∀ H', Same H H' → Q (.bl b) H'
section
variable {P : Program} {w : World} {K : PySem.W.Frag} {mg : Str → Option Value} {base : Heap}
theorem ok_is_row (T : Top K mg) : FnOk P w K mg base CX0 1 T.f_is_row T.fd_is_row ["thing"] (spIsRow K) := by
  refine T.F_is_row.ok sc_is_row (fun vs H Q E h => ?_) (fun cdv A outer s H vs Q E hr h => ?_)
  · obtain ⟨x, t, b, rfl, _⟩ := h; rfl
  · obtain ⟨x, t, b, rfl, ty, e, k⟩ := h
    refine ⟨_, (pss_one (ps_ret (pe_callB call_isiT (by rfl) T.n_isinstance (by decide +kernel) (pa_cons (pv 0) (pa_cons (pe_tup (pa_cons (pe_bltn (v := V.ty "list") (by rfl) T.n_list (by decide +kernel) rfl) (pa_cons (pe_bltn (v := V.ty "tuple") (by rfl) T.n_tuple (by decide +kernel) rfl) pa_nil))) pa_nil))))), ?_⟩
    walk_at "rd"
    refine ⟨by show 2 ≤ sizeLine; decide, fun tp htp => ?_⟩
    walk_at "rd"
    exact ⟨x, tp, _, t, _, b, rfl, upd_same, .cons (.ty _) (.cons (.ty _) .nil), tyX_same ty (same_upd htp), e, k _ (same_upd htp)⟩
end

/-! ### words and watches -/
/-- a word of at most m letters -/
structure IsW (m : Nat) (l : WW.Wd) : Prop where
  lo : 1 ≤ l.length
  hi : l.length ≤ m
  lw : WW.Lw l
theorem IsW.mono {m n : Nat} {l : WW.Wd} (h : IsW m l) (k : m ≤ n) : IsW n l := ⟨h.lo, Nat.le_trans h.hi k, h.lw⟩
def spHas : Sp := fun vs H Q _ => ∃ (l : WW.Wd) (m : Nat), vs = [.str (WW.S l), .int m] ∧ IsW m l ∧ m ≤ 1000 ∧ ∀ H', Same H H' → Q (.bl true) H'
def spIsW (m : Nat) : Sp := fun vs H Q _ => ∃ l : WW.Wd, vs = [.str (WW.S l)] ∧ IsW m l ∧ ∀ H', Same H H' → Q (.bl true) H'
def spChkW : Sp := fun vs H Q _ => ∃ l : WW.Wd, vs = [.str (WW.S l)] ∧ IsW 40 l ∧ ∀ H', Same H H' → Q .non H'
section
variable {P : Program} {w : World} {K : PySem.W.Frag} {mg : Str → Option Value} {base : Heap}
theorem ok_has_letters (T : Top K mg) : FnOk P w K mg base CX0 1 T.f_has_letters T.fd_has_letters ["thing", "most"] spHas := by
  refine T.F_has_letters.ok sc_has_letters (fun vs H Q E h => ?_) (fun cdv A outer s H vs Q E hr h => ?_)
  · obtain ⟨l, m, rfl, _⟩ := h; rfl
  · obtain ⟨l, m, rfl, ⟨lo, hi, lw⟩, hm, k⟩ := h
    have hz : l.length ≤ sizeLine := Nat.le_trans (Nat.le_trans hi hm) (by decide)
    refine ⟨_, (pss_cons (ps_if (PW.pt (pw_or (pt_not (pt_val (pe_callB call_isi (by rfl) T.n_isinstance (by decide +kernel) (pa_cons (pv 0) (pa_cons (pe_bltn (v := V.ty "str") (by rfl) T.n_str (by decide +kernel) rfl) pa_nil))))) (pw_or1 (pt_not (pt_chain op_le op_le pe_int (pe_callB RD.c_len (by rfl) T.n_len (by decide +kernel) (pa_cons (pv 0) pa_nil)) (pv 1))))))
 (pss_one (ps_ret pe_bl))
 pss_nil)
 (pss_one (ps_ret (pe_callB (cr_all rfl) (by rfl) T.n_all (by decide +kernel) (pa_cons (pe_lc (own := [("letter", 2)]) (g := (gName 2)) (tt := tYes) rfl sc_has_letters.nd (pi_str (pv 0)) (blkOk_by (own := [("letter", 2)]) (N := ["thing", "most", "letter"]) (sc := defScope s_has_letters) (by decide +kernel)) (fun _ _ _ _ _ => (pg_name (i := 2) sc_has_letters.nd rfl (Or.inl rfl))) (fun _ _ _ _ _ => pts_nil) (fun _ _ _ _ _ => (pe_cmpR RD.o_sign (pv 2) pe_str rfl))) pa_nil))))), ?_⟩
    walk_at "rd"
    refine RD.d_isi (.ty _) (.base (.str _)) (kit_ty (r := true) (by decide +kernel)) ?_
    walk_at "tx"
    rw [decide_eq_true (by omega : (1 : Int) ≤ l.length)]
    walk_at "tx"
    rw [decide_eq_true (by omega : (l.length : Int) ≤ m)]
    walk_at "tx"
    refine ⟨_, rfl, fun D hD => ?_⟩
    have sD := same_upd (o := HO.lst []) hD
    refine lc_it (walk_str (z := WW.S l)) (fun i H' => Same H H' ∧ H' D = some (.lst ((List.replicate i true).map V.bl))) ⟨sD, upd_same⟩ (fun _ _ _ _ => trivial) ?_ ?_
    · rintro i x H' H'' il ⟨s2, eD⟩ ⟨rfl, c, hc, rfl⟩
      have il' : i < l.length := by simpa [WW.S] using il
      have lc : WW.Lt c := by
        refine lw c ?_
        have : l[i]? = some c := by simpa [WW.S] using hc
        exact List.mem_of_getElem? this
      walk_at "tx"
      refine RD.d_alpha ?_
      rw [decide_eq_true lc]
      refine ⟨_, eD, by rw [List.length_map, List.length_replicate]; omega, fun b u e => ?_, ?_⟩
      · rw [upd_ne (ne_of_none e hD)]; exact s2 _ _ e
      · rw [upd_same, List.replicate_succ', List.map_append]; rfl
    · rintro H' ⟨s2, eD⟩
      walk_at "tx"
      refine ⟨D, _, rfl, SqL.of eD, ?_⟩
      rw [List.all_eq_true.mpr fun x hx => by rw [(List.mem_replicate.mp hx).2]; rfl]
      exact k _ s2
theorem ok_is_word (T : Top K mg) : FnOk P w K mg base CX0 2 T.f_is_word T.fd_is_word ["thing"] (spIsW 40) := by
  refine T.F_is_word.ok sc_is_word (fun vs H Q E h => ?_) (fun cdv A outer s H vs Q E hr h => ?_)
  · obtain ⟨l, rfl, _⟩ := h; rfl
  · obtain ⟨l, rfl, h, k⟩ := h
    refine ⟨_, (pss_one (ps_ret (pe_call (ok_has_letters T) (hr.mono (by decide)) (by rfl) T.g_has_letters T.F_has_letters.kp T.b_has_letters .nil pass0 (pa_cons (pv 0) (pa_cons (pe_glob (v := V.int 40) (by rfl) T.g_MOST_LETTERS ⟨_, rfl⟩) pa_nil))))), ?_⟩
    walk_at "tx"
    exact ⟨l, 40, rfl, h, by decide, k⟩
theorem ok_is_watch (T : Top K mg) : FnOk P w K mg base CX0 2 T.f_is_watch T.fd_is_watch ["thing"] (spIsW 12) := by
  refine T.F_is_watch.ok sc_is_watch (fun vs H Q E h => ?_) (fun cdv A outer s H vs Q E hr h => ?_)
  · obtain ⟨l, rfl, _⟩ := h; rfl
  · obtain ⟨l, rfl, h, k⟩ := h
    refine ⟨_, (pss_one (ps_ret (pe_call (ok_has_letters T) (hr.mono (by decide)) (by rfl) T.g_has_letters T.F_has_letters.kp T.b_has_letters .nil pass0 (pa_cons (pv 0) (pa_cons (pe_glob (v := V.int 12) (by rfl) T.g_MOST_WATCH_LETTERS ⟨_, rfl⟩) pa_nil))))), ?_⟩
    walk_at "tx"
    exact ⟨l, 12, rfl, h, by decide, k⟩
theorem ok_check_word (T : Top K mg) : FnOk P w K mg base CX0 4 T.f_check_word T.fd_check_word ["word"] spChkW := by
  refine T.F_check_word.ok sc_check_word (fun vs H Q E h => ?_) (fun cdv A outer s H vs Q E hr h => ?_)
  · obtain ⟨l, rfl, _⟩ := h; rfl
  · obtain ⟨l, rfl, h, k⟩ := h
    refine ⟨_, (pss_one (ps_if (pt_not (pt_val (pe_call (ok_is_word T) (hr.mono (by decide)) (by rfl) T.g_is_word T.F_is_word.kp T.b_is_word .nil pass0 (pa_cons (pv 0) pa_nil))))
 (pss_one ps_never)
 pss_nil)), ?_⟩
    walk_at "tx"
    refine ⟨l, rfl, h, fun H1 s1 => ?_⟩
    walk_at "tx"
    exact k _ s1
end

/-! ### books -/
/-- watches of a book -/
structure Okw (ws : List WW.Wd) : Prop where
  len : ws.length ≤ 12
  ok : ∀ w ∈ ws, IsW 12 w
  nd : ws.Nodup
theorem Okw.ne {ws : List WW.Wd} (h : Okw ws) : ∀ w ∈ ws, w ≠ [] := fun w m e => by have := (h.ok w m).lo; rw [e] at this; simp at this
def BookAt (K : PySem.W.Frag) (C : Addr) (H : Hp) (x : Addr) (ws : List WW.Wd) : Prop := ∃ dx t, H x = some (.ins C dx [("watches", .ref t)]) ∧ SqT K H t (WW.Ss ws)
theorem BookAt.same {K : PySem.W.Frag} {C : Addr} {H H' : Hp} {x : Addr} {ws : List WW.Wd} (h : BookAt K C H x ws) (s : Same H H') : BookAt K C H' x ws := by
  obtain ⟨dx, t, e, q⟩ := h
  exact ⟨dx, t, s _ _ e, OQ.sqT_same q s⟩
theorem OQ.SeqAt.row {K : PySem.W.Frag} {H : Hp} {a : Addr} {xs : List V} (h : OQ.SeqAt K H a xs) : ∃ t, TyX K H (.ref a) t ∧ PySem.W.kitAny K t [.type "list", .type "tuple"] = some true := by
  rcases h with ((h | ⟨o, h⟩) | ⟨o, _, _, h, c, _⟩) | ((h | ⟨o, h⟩) | ⟨o, _, _, h, c, _⟩)
  · exact ⟨_, .base (.lst h), kitA_list⟩
  · exact ⟨_, .base (.frz h), kitA_list⟩
  · exact ⟨_, .kList h c, kitA_list⟩
  · exact ⟨_, .base (.tup h), kitA_tuple⟩
  · exact ⟨_, .fTuple h, kitA_tuple⟩
  · exact ⟨_, .kTuple h c, kitA_tuple⟩
def spBookI (K : PySem.W.Frag) (C : Addr) : Sp := fun vs H Q _ => ∃ (x dx a : Addr) (ws : List WW.Wd), vs = [.ref x, .ref a] ∧ H x = some (.ins C dx []) ∧ OQ.SeqAt K H a (WW.Ss ws) ∧ Okw ws ∧ ∀ H', Kx x H H' → BookAt K C H' x ws → Q .non H'
def spWrong (K : PySem.W.Frag) : Sp := fun vs H Q _ => ∃ (a : Addr) (ws : List WW.Wd), vs = [.ref a] ∧ OQ.SeqAt K H a (WW.Ss ws) ∧ Okw ws ∧ ∀ H', Same H H' → Q .non H'
section
variable {P : Program} {w : World} {K : PySem.W.Frag} {mg : Str → Option Value} {base : Heap}
theorem ok_wrong_watch (T : Top K mg) : FnOk P w K mg base CX0 3 T.f_wrong_watch T.fd_wrong_watch ["watches"] (spWrong K) := by
  refine T.F_wrong_watch.ok sc_wrong_watch (fun vs H Q E h => ?_) (fun cdv A outer s H vs Q E hr h => ?_)
  · obtain ⟨a, ws, rfl, _⟩ := h; rfl
  · obtain ⟨a, ws, rfl, sa, ok, k⟩ := h
    have l12 := ok.len
    refine ⟨_, (pss_cons (ps_for PassesOwn.never rfl (OQ.pi_or (pi_enum (by rfl) T.n_enumerate (pa_cons (pv 0) pa_nil)) (OQ.pi_enumT (by rfl) T.n_enumerate (pa_cons (pv 0) pa_nil))) (pg_tup (by rfl) (pgs_cons (pg_name (i := 1) sc_wrong_watch.nd rfl (Or.inl rfl)) (pgs_cons (pg_name (i := 2) sc_wrong_watch.nd rfl (Or.inl rfl)) pgs_nil)))
 (pss_one (ps_if (PW.pt (pw_or (pt_not (pt_val (pe_call (ok_is_watch T) (hr.mono (by decide)) (by rfl) T.g_is_watch T.F_is_watch.kp T.b_is_watch .nil pass0 (pa_cons (pv 2) pa_nil)))) (pw_or1 (pt_cmpR op_in_seq (pv 2) (pe_slice (SlR.or sl_list sl_tup) (pv 0) po_none (po_some (pv 1))) rfl))))
 (pss_one (ps_ret (pv 1)))
 pss_nil)))
 (pss_one (ps_ret pe_non))), ?_⟩
    walk_at "tx"
    refine OQ.d_enumVar rfl sa (fun J G hw hG => ?_)
    refine RD.f_it hw (fun i σ' H' => Same H H' ∧ ∃ v1 v2 : Option V, σ' = [some (.ref a), v1, v2]) ⟨Same.refl _, none, none, rfl⟩ (fun i σ' H' _ q => hG _ q.1) ?_ ?_
    · rintro i y σ' H' H'' il ⟨s3, v1, v2, rfl⟩ ⟨p, u, v, rfl, hp, rfl, e1, e2⟩
      cases e1
      obtain ⟨wd, ew, rfl⟩ := WW.Ss_get e2
      have s4 := s3.trans (same_upd (o := HO.tup [V.int (i : Nat), V.str (WW.S wd)]) hp)
      have ep : upd H' p (.tup [V.int (i : Nat), V.str (WW.S wd)]) p = some (.tup [V.int (i : Nat), V.str (WW.S wd)]) := upd_same
      generalize upd H' p (.tup [V.int (i : Nat), V.str (WW.S wd)]) = H4 at *
      refine RD.d_two rfl (SqT.of ep) ?_
      have hw := ok.ok wd (List.mem_of_getElem? ew)
      have il' : i < ws.length := by rw [WW.Ss_len] at il; exact il
      walk_at "tx"
      refine ⟨wd, rfl, hw, fun H5 s5 => ?_⟩
      have s6 := s4.trans s5
      walk_at "tx"
      have eq : cutV (WW.Ss ws) none (some ((i : Nat) : Int)) = WW.Ss (ws.take i) := by
        unfold cutV
        rw [HT.sIx_nat, HT.sIx_none, WW.Ss_len, Nat.min_eq_left (Nat.le_of_lt il')]
        unfold WW.Ss
        rw [List.map_take]
        rfl
      have nin : decide (wd ∈ ws.take i) = false := decide_eq_false (by
        intro m
        obtain ⟨j, hj⟩ := List.getElem?_of_mem m
        have jl : j < i := by
          have := (List.getElem?_eq_some_iff.mp hj).1
          rw [List.length_take] at this; omega
        rw [List.getElem?_take_of_lt jl] at hj
        have := (List.getElem?_inj (by omega) ok.nd).mp (hj.trans ew.symm)
        omega)
      rcases sa.same s6 with sL | sT
      · refine .inl ⟨a, _, rfl, sL, fun q hq => ?_⟩
        have s7 := s6.trans (same_upd (o := HO.lst (cutV (WW.Ss ws) none (some ((i : Nat) : Int)))) hq)
        refine OQ.d_inSs (ws := ws.take i) (.inl (SqL.of (by rw [upd_same, eq]))) ?_
        rw [nin]
        walk_at "tx"
        exact ⟨s7, _, _, rfl⟩
      · refine .inr ⟨a, _, rfl, sT, ?_, fun q hq => ?_⟩
        · rintro ⟨_, z⟩
          rw [HT.sIx_nat, WW.Ss_len] at z
          omega
        have s7 := s6.trans (same_upd (o := HO.tup (cutV (WW.Ss ws) none (some ((i : Nat) : Int)))) hq)
        refine OQ.d_inSs (ws := ws.take i) (.inr (SqT.of (by rw [upd_same, eq]))) ?_
        rw [nin]
        walk_at "tx"
        exact ⟨s7, _, _, rfl⟩
    · rintro σ' H' ⟨s3, v1, v2, rfl⟩
      walk_at "tx"
      exact k _ s3
theorem ok_Book__init (T : Top K mg) : FnOk P w K mg base CX0 4 T.f_Book__init T.fd_Book__init ["self", "watches"] (spBookI K T.C_Book) := by
  refine T.F_Book__init.ok sc_Book__init (fun vs H Q E h => ?_) (fun cdv A outer s H vs Q E hr h => ?_)
  · obtain ⟨x, dx, a, ws, rfl, _⟩ := h; rfl
  · obtain ⟨x, dx, a, ws, rfl, ex, sa, ok, k⟩ := h
    obtain ⟨t, ty, kt⟩ := OQ.SeqAt.row sa
    refine ⟨_, (pss_cons (ps_if (PW.pt (pw_or (pt_not (pt_val (pe_call (ok_is_row T) (hr.mono (by decide)) (by rfl) T.g_is_row T.F_is_row.kp T.b_is_row .nil pass0 (pa_cons (pv 1) pa_nil)))) (pw_or1 (pt_cmpR op_gt (pe_callB RD.c_len (by rfl) T.n_len (by decide +kernel) (pa_cons (pv 1) pa_nil)) (pe_glob (v := V.int 12) (by rfl) T.g_MOST_WATCHES ⟨_, rfl⟩) (nomark _)))))
 (pss_one ps_never)
 pss_nil)
 (pss_cons (ps_set (i := 2) sc_Book__init.nd rfl (Or.inl rfl) (pe_call (ok_wrong_watch T) (hr.mono (by decide)) (by rfl) T.g_wrong_watch T.F_wrong_watch.kp T.b_wrong_watch .nil pass0 (pa_cons (pv 1) pa_nil)))
 (pss_cons (ps_if (pt_cmpR RD.o_notN (pv 2) pe_non (nomark _))
 (pss_one ps_never)
 pss_nil)
 (pss_one (ps_fld (pv 0) (pe_callTy (OQ.tupK K) (by rfl) T.n_tuple (by decide +kernel) (pa_cons (pv 1) pa_nil)) rfl))))), ?_⟩
    walk_at "tx"
    refine ⟨.ref a, t, true, rfl, ty, kt, fun H1 s1 => ?_⟩
    replace sa := sa.same s1
    walk_at "tx"
    refine sa.len ?_
    walk_at "tx"
    have l12 := ok.len
    rw [WW.Ss_len, decide_eq_false (by omega : ¬ (ws.length : Int) > 12)]
    walk_at "tx"
    refine ⟨a, ws, rfl, sa, ok, fun H2 s2 => ?_⟩
    replace sa := sa.same s2
    walk_at "tx"
    refine OQ.d_tupSeq sa (fun H3 t2 s3 sq => ?_)
    have ex2 := s3 _ _ (s2 _ _ (s1 _ _ ex))
    have s13 := (s1.trans s2).trans s3
    clear sa ty kt
    walk_at "tx"
    refine ⟨x, T.C_Book, dx, _, rfl, ex2, T.cl_Book, T.na_Book_watches, by show 0 < 1000; decide, ?_⟩
    refine k _ (Kx.trans (Same.kx s13) kx_upd) ⟨dx, t2, by rw [upd_same, putF_none], ?_⟩
    rcases sq with (h | ⟨o, h⟩) | h
    · exact .inl (.inl (by rw [upd_ne (fun z => by subst z; rw [ex2] at h; cases h)]; exact h))
    · exact .inl (.inr ⟨o, by rw [upd_ne (fun z => by subst z; rw [ex2] at h; cases h)]; exact h⟩)
    · exact .inr h
end

def spChkB (K : PySem.W.Frag) (C : Addr) : Sp := fun vs H Q _ => ∃ (x : Addr) (ws : List WW.Wd), vs = [.ref x] ∧ BookAt K C H x ws ∧ Q .non H
def spAsked (K : PySem.W.Frag) (C : Addr) : Sp := fun vs H Q _ => ∃ (x : Addr) (ws : List WW.Wd) (l : WW.Wd), vs = [.ref x, .str (WW.S l)] ∧ BookAt K C H x ws ∧ IsW 40 l ∧ ∀ H', Same H H' → Q .non H'
section
variable {P : Program} {w : World} {K : PySem.W.Frag} {mg : Str → Option Value} {base : Heap}
theorem ok_check_book (T : Top K mg) : FnOk P w K mg base CX0 1 T.f_check_book T.fd_check_book ["book"] (spChkB K T.C_Book) := by
  refine T.F_check_book.ok sc_check_book (fun vs H Q E h => ?_) (fun cdv A outer s H vs Q E hr h => ?_)
  · obtain ⟨x, ws, rfl, _⟩ := h; rfl
  · obtain ⟨x, ws, rfl, ⟨dx, t, ex, sq⟩, k⟩ := h
    refine ⟨_, (pss_one (ps_if (pt_not (pt_val (pe_callB call_isi (by rfl) T.n_isinstance (by decide +kernel) (pa_cons (pv 0) (pa_cons (pe_glob (v := V.ref T.C_Book) (by rfl) T.g_Book rfl) pa_nil)))))
 (pss_one ps_never)
 pss_nil)), ?_⟩
    walk_at "tx"
    refine RD.d_isi (.own _) (.base (.ins ex T.cl_Book T.ha_Book T.hnO T.htO T.hm_Book)) T.kBB ?_
    walk_at "tx"
    exact k
theorem ok_check_asked (T : Top K mg) : FnOk P w K mg base CX0 6 T.f_check_asked T.fd_check_asked ["book", "word"] (spAsked K T.C_Book) := by
  refine T.F_check_asked.ok sc_check_asked (fun vs H Q E h => ?_) (fun cdv A outer s H vs Q E hr h => ?_)
  · obtain ⟨x, ws, l, rfl, _⟩ := h; rfl
  · obtain ⟨x, ws, l, rfl, b, hl, k⟩ := h
    refine ⟨_, (pss_cons (ps_expr (pe_call (ok_check_book T) (hr.mono (by decide)) (by rfl) T.g_check_book T.F_check_book.kp T.b_check_book .nil pass0 (pa_cons (pv 0) pa_nil)))
 (pss_one (ps_expr (pe_call (ok_check_word T) (hr.mono (by decide)) (by rfl) T.g_check_word T.F_check_word.kp T.b_check_word .nil pass0 (pa_cons (pv 1) pa_nil))))), ?_⟩
    walk_at "tx"
    refine ⟨x, ws, rfl, b, ?_⟩
    walk_at "tx"
    refine ⟨l, rfl, hl, fun H1 s1 => ?_⟩
    exact k _ s1
end

/-! ### the links of a word's spots -/
open WW (Ns)
/-- the rows at L, n of them; all of them made behind H0 -/
def RowsX (H0 H : Hp) (L : Addr) (n : Nat) (rows : Nat → List Nat) : Prop := ∃ rs : List Addr, rs.length = n ∧ rs.Nodup ∧ L ∉ rs ∧ (∀ a ∈ rs, H0 a = none) ∧ H L = some (.lst (rs.map V.ref)) ∧ ∀ (i : Nat) (a : Addr), rs[i]? = some a → H a = some (.lst (Ns (rows i)))
def RowsAt (H : Hp) (L : Addr) (n : Nat) (rows : Nat → List Nat) : Prop := ∃ rs : List Addr, rs.length = n ∧ H L = some (.lst (rs.map V.ref)) ∧ ∀ (i : Nat) (a : Addr), rs[i]? = some a → H a = some (.lst (Ns (rows i)))
theorem RowsAt.same {H H' : Hp} {L : Addr} {n : Nat} {rows : Nat → List Nat} (h : RowsAt H L n rows) (s : Same H H') : RowsAt H' L n rows := by
  obtain ⟨rs, h1, h2, h3⟩ := h
  exact ⟨rs, h1, s _ _ h2, fun i a e => s _ _ (h3 i a e)⟩
theorem RowsX.row {K : PySem.W.Frag} {H0 H : Hp} {L : Addr} {n i : Nat} {rows : Nat → List Nat} {iv : Int} {Q : VK} (h : RowsX H0 H L n rows) (hi : i < n) (e : iv = i)
    (k : ∀ a, H a = some (.lst (Ns (rows i))) → (∀ y, RowsX H0 (upd H a (.lst (Ns (rows i ++ [y])))) L n (WW.push rows i y)) → (∀ o, Same H0 H → Same H0 (upd H a o)) → Q (.ref a) H) : rIxL K (.ref L) (.int iv) H Q := by
  subst e
  obtain ⟨rs, h1, h2, h3, h4, h5, h6⟩ := h
  have il : i < rs.length := by rw [h1]; exact hi
  have ea : rs[i]? = some rs[i] := List.getElem?_eq_getElem il
  have nL : L ≠ rs[i] := fun z => h3 (z ▸ List.getElem_mem il)
  refine RD.d_ixL (SqL.of h5) (atI_nat (by rw [List.getElem?_map, ea]; rfl)) (k _ (h6 i _ ea) (fun y => ?_) (fun o s b u eb => ?_))
  · refine ⟨rs, h1, h2, h3, h4, by rw [upd_ne nL]; exact h5, fun j a ej => ?_⟩
    unfold WW.push
    by_cases c : j = i
    · subst c
      rw [ea] at ej
      cases ej
      rw [upd_same, if_pos rfl]
    · have na : a ≠ rs[i] := fun z => by
        subst z
        exact c ((List.getElem?_inj (List.getElem?_eq_some_iff.mp ej).1 h2).mp (ej.trans ea.symm))
      rw [upd_ne na, if_neg c]
      exact h6 j a ej
  · have nb : b ≠ rs[i] := ne_of_none eb (h4 _ (List.getElem_mem il))
    rw [upd_ne nb]
    exact s _ _ eb
theorem RowsX.zero {H0 H : Hp} {L p : Addr} {i : Nat} {rs : List Addr} (l : rs.length = i) (nd : rs.Nodup) (nL : L ∉ rs) (f : ∀ a ∈ rs, H0 a = none) (e : H L = some (.lst (rs.map V.ref))) (z : ∀ a ∈ rs, H a = some (.lst [])) (hp : H p = none) (hp0 : H0 p = none) (np : p ≠ L) :
    (rs ++ [p]).length = i + 1 ∧ (rs ++ [p]).Nodup ∧ L ∉ rs ++ [p] ∧ (∀ a ∈ rs ++ [p], H0 a = none) ∧ (upd (upd H p (.lst [])) L (.lst (rs.map V.ref ++ [.ref p]))) L = some (.lst ((rs ++ [p]).map V.ref)) ∧ ∀ a ∈ rs ++ [p], (upd (upd H p (.lst [])) L (.lst (rs.map V.ref ++ [.ref p]))) a = some (.lst []) := by
  have pn : p ∉ rs := fun m => by rw [z p m] at hp; cases hp
  refine ⟨by rw [List.length_append, l]; rfl, ?_, ?_, ?_, ?_, ?_⟩
  · rw [List.nodup_append]
    refine ⟨nd, by simp, fun a ha b hb q => ?_⟩
    rw [List.mem_singleton] at hb
    subst hb; subst q
    exact pn ha
  · intro m
    rcases List.mem_append.mp m with m | m
    · exact nL m
    · exact np (List.mem_singleton.mp m).symm
  · intro a m
    rcases List.mem_append.mp m with m | m
    · exact f a m
    · rw [List.mem_singleton.mp m]; exact hp0
  · rw [upd_same, List.map_append]; rfl
  · intro a m
    rcases List.mem_append.mp m with m | m
    · have na : a ≠ L := fun q => nL (q ▸ m)
      have np' : a ≠ p := fun q => pn (q ▸ m)
      rw [upd_ne na, upd_ne np']; exact z a m
    · rw [List.mem_singleton.mp m, upd_ne np, upd_same]
/-- the links of W by the pieces ws, which may be alike -/
structure LksG (ws : List WW.Wd) (W : WW.Wd) (rows : Nat → List Nat) : Prop where
  mem : ∀ i j, j ∈ rows i ↔ WW.Link ws W i j
  up : ∀ i, (rows i).Pairwise (· ≤ ·)
  nd : ws.Nodup → ∀ i, (rows i).Nodup
/-- the links of W by the book of ws -/
structure Lks (ws : List WW.Wd) (W : WW.Wd) (rows : Nat → List Nat) : Prop where
  mem : ∀ i j, j ∈ rows i ↔ WW.Link ws W i j
  up : ∀ i, (rows i).Pairwise (· < ·)
theorem LksG.strict {ws : List WW.Wd} {W : WW.Wd} {rows : Nat → List Nat} (h : LksG ws W rows) (nd : ws.Nodup) : Lks ws W rows := ⟨h.mem, fun i => WW.strict_of (h.up i) (h.nd nd i)⟩
/-- pieces that may be looked for in W -/
structure Okp (ws : List WW.Wd) (W : WW.Wd) : Prop where
  ne : ∀ w ∈ ws, w ≠ []
  sz : ∀ w ∈ ws, w.length ≤ sizeLine
  many : ws.length ≤ 1000
  len : W.length ≤ 1000
theorem Okw.pieces {ws : List WW.Wd} {W : WW.Wd} (h : Okw ws) (k : IsW 40 W) : Okp ws W :=
  ⟨h.ne, fun w m => Nat.le_trans (h.ok w m).hi (by decide), Nat.le_trans h.len (by decide), Nat.le_trans k.hi (by decide)⟩
def spThrough (K : PySem.W.Frag) : Sp := fun vs H Q _ => ∃ (a : Addr) (ws : List WW.Wd) (l : WW.Wd), vs = [.ref a, .str (WW.S l)] ∧ OQ.SeqAt K H a (WW.Ss ws) ∧ Okp ws l ∧
  ∀ H' L rows, Same H H' → (H L = none ∧ ∀ rs : List Addr, H' L = some (.lst (rs.map V.ref)) → ∀ a ∈ rs, H a = none) → RowsAt H' L (l.length + 1) rows → LksG ws l rows → Q (.ref L) H'
section
variable {P : Program} {w : World} {K : PySem.W.Frag} {mg : Str → Option Value} {base : Heap}
theorem ok_links_through (T : Top K mg) : FnOk P w K mg base CX0 1 T.f_links_through T.fd_links_through ["pieces", "word"] (spThrough K) := by
  refine T.F_links_through.ok sc_links_through (fun vs H Q E h => ?_) (fun cdv A outer s H vs Q E hr h => ?_)
  · obtain ⟨a, ws, l, rfl, _⟩ := h; rfl
  · obtain ⟨a, ws, l, rfl, sa, ok, k⟩ := h
    have l40 := ok.len
    have hz : l.length ≤ sizeLine := Nat.le_trans l40 (by decide)
    refine ⟨_, (pss_cons (ps_setLc (i := 2) (own := [("_", 3)]) (g := (gName 3)) (tt := tYes) rfl sc_links_through.nd rfl rfl (sw_true rfl rfl rfl (by decide +kernel)) (pi_range1 (by rfl) T.n_range (pa_cons (pe_op op_add (pe_callB RD.c_len (by rfl) T.n_len (by decide +kernel) (pa_cons (pv 1) pa_nil)) pe_int) pa_nil)) (blkOk_by (own := [("_", 3)]) (N := ["pieces", "word", "links", "_", "piece", "low", "high", "spots"]) (sc := defScope s_links_through) (by decide +kernel)) (fun _ _ _ _ _ => (pg_name (i := 3) sc_links_through.nd rfl (Or.inl rfl))) (fun _ _ _ _ _ => pts_nil) (fun _ _ _ _ _ => (pe_lst pa_nil)))
 (pss_cons (ps_for PassesOwn.never rfl (OQ.pi_seq (pv 0)) (pg_name (i := 4) sc_links_through.nd rfl (Or.inl rfl))
 (pss_cons (ps_set (i := 5) sc_links_through.nd rfl (Or.inl rfl) (pe_bm PySem.F.plainAttrs_str PySem.F.slot_str_find PySem.F.type_str_find RD.m_find1 (pv 1) (pa_cons (pv 4) pa_nil)))
 (pss_one (ps_while PassesOwn.never (pt_cmpR op_ge (pv 5) pe_int (nomark _))
 (pss_cons (ps_set (i := 6) sc_links_through.nd rfl (Or.inl rfl) (pe_op op_add (pv 5) (pe_callB RD.c_len (by rfl) T.n_len (by decide +kernel) (pa_cons (pv 4) pa_nil))))
 (pss_cons (ps_expr (pe_bm PySem.F.plainAttrs_list PySem.F.slot_list_append PySem.F.type_list_append mt_append (pe_ix ix_list (pv 2) (pv 5) (fun _ _ => rfl)) (pa_cons (pv 6) pa_nil)))
 (pss_cons (ps_expr (pe_bm PySem.F.plainAttrs_list PySem.F.slot_list_append PySem.F.type_list_append mt_append (pe_ix ix_list (pv 2) (pv 6) (fun _ _ => rfl)) (pa_cons (pv 5) pa_nil)))
 (pss_one (ps_set (i := 5) sc_links_through.nd rfl (Or.inl rfl) (pe_bm PySem.F.plainAttrs_str PySem.F.slot_str_find PySem.F.type_str_find RD.m_find2 (pv 1) (pa_cons (pv 4) (pa_cons (pe_op op_add (pv 5) pe_int) pa_nil))))))))))))
 (pss_one (ps_ret (pe_lc (own := [("spots", 7)]) (g := (gName 7)) (tt := tYes) rfl sc_links_through.nd (pi_list (pv 2)) (blkOk_by (own := [("spots", 7)]) (N := ["pieces", "word", "links", "_", "piece", "low", "high", "spots"]) (sc := defScope s_links_through) (by decide +kernel)) (fun _ _ _ _ _ => (pg_name (i := 7) sc_links_through.nd rfl (Or.inl rfl))) (fun _ _ _ _ _ => pts_nil) (fun _ _ _ _ _ => (pe_callB (OQ.sortK K) (by rfl) T.n_sorted (by decide +kernel) (pa_cons (pv 7) pa_nil)))))))), ?_⟩
    walk_at "tx"
    refine ⟨_, rfl, by omega, by omega, fun D hD => ?_⟩
    rw [show ((l.length : Int) + 1).toNat = l.length + 1 from by omega]
    refine lc_range (lo := 0) (n := l.length + 1) (fun i H' => Same H H' ∧ ∃ rs : List Addr, rs.length = i ∧ rs.Nodup ∧ D ∉ rs ∧ (∀ a ∈ rs, H a = none) ∧ H' D = some (.lst (rs.map V.ref)) ∧ ∀ a ∈ rs, H' a = some (.lst []))
      ⟨same_upd hD, [], rfl, List.nodup_nil, (fun z => nomatch z), (fun _ z => nomatch z), upd_same, fun _ z => nomatch z⟩ ?_ ?_
    · rintro i H' il ⟨s1, rs, h1, h2, h3, h4, h5, h6⟩
      walk_at "tx"
      refine ⟨by show 0 ≤ sizeLine; decide, fun p hp => ?_⟩
      have np : p ≠ D := (ne_of_none h5 hp).symm
      refine ⟨rs.map V.ref, by rw [upd_ne np.symm]; exact h5, by rw [List.length_map, h1]; exact Nat.lt_of_lt_of_le il (Nat.le_trans (by omega : l.length + 1 ≤ 1001) (by decide)), ?_⟩
      have hp0 := s1.free hp
      exact ⟨fun b u e => by rw [upd_ne (ne_of_none e hD), upd_ne (ne_of_none e hp0)]; exact s1 _ _ e, rs ++ [p], RowsX.zero h1 h2 h3 h4 h5 h6 hp hp0 np⟩
    · rintro H1 ⟨s1, rs, h1, h2, h3, h4, h5, h6⟩
      have R0 : RowsX H H1 D (l.length + 1) (fun _ => []) := ⟨rs, h1, h2, h3, h4, h5, fun i a e => h6 a (List.mem_of_getElem? e)⟩
      clear h1 h2 h3 h4 h5 h6
      walk_at "tx"
      refine OQ.d_seqVar2 rfl sa s1 (fun J G hw hG => ?_)
      refine RD.f_it hw (fun kk σ' H' => Same H H' ∧ (∃ rows, RowsX H H' D (l.length + 1) rows ∧ WW.LkJ rows (WW.LkG ws l kk 0) ws.Nodup (kk * (l.length + 1))) ∧ ∃ v3 v4 v5 v6 v7 : Option V, σ' = [some (.ref a), some (.str (WW.S l)), some (.ref D), v3, v4, v5, v6, v7])
        ⟨s1, ⟨_, R0, WW.LkJ.zero.iff (fun _ _ => Iff.rfl) (Nat.zero_le _)⟩, none, none, none, none, none, rfl⟩ (fun kk σ' H' _ q => hG _ q.1) ?_ ?_
      · rintro kk y σ' H2' H2 hkk ⟨s2, ⟨rows, R, I⟩, v3, v4, v5, v6, v7, rfl⟩ ⟨rfl, hy⟩
        obtain ⟨wd, ew, rfl⟩ := WW.Ss_get hy
        have mw := List.mem_of_getElem? ew
        have wne := ok.ne wd mw
        have wz := ok.sz wd mw
        have w1 : 0 < wd.length := List.length_pos_iff.mpr wne
        have kl : kk < ws.length := (List.getElem?_eq_some_iff.mp ew).1
        have bnd : ∀ j, WW.Hit l j wd → j + wd.length ≤ l.length := fun j h => h.bound wne
        have K1 : (kk + 1) * (l.length + 1) = kk * (l.length + 1) + (l.length + 1) := Nat.succ_mul _ _
        have Kb : (kk + 1) * (l.length + 1) ≤ 1000 * 1001 := Nat.mul_le_mul (Nat.le_trans kl ok.many) (by omega)
        generalize hM : kk * (l.length + 1) = M at *
        walk_at "tx"
        refine ⟨RD.tyS, ?_⟩
        walk_at "tx"
        refine RD.d_find1 wne (fun v nx => ?_)
        walk_at "tx"
        have start : ∀ (lo : Nat) (rows : Nat → List Nat) (v : Int), WW.Nx l wd lo v → lo ≤ l.length + 1 → WW.LkJ rows (WW.LkG ws l kk lo) ws.Nodup (M + lo) →
            ∃ lo', lo ≤ lo' ∧ WW.LkJ rows (WW.LkG ws l kk lo') ws.Nodup (M + lo') ∧ ((v = lo' ∧ WW.Hit l lo' wd ∧ lo' ≤ l.length) ∨ (v = -1 ∧ lo' = l.length + 1)) := by
          rintro lo rows v (⟨i, rfl, h1, h2, h3⟩ | ⟨rfl, h1⟩) hlo I
          · exact ⟨i, h1, I.iff (fun a b => WW.LkG.skip ew h1 h3 a b) (by omega), .inl ⟨rfl, h2, by have := bnd i h2; omega⟩⟩
          · exact ⟨l.length + 1, hlo, I.iff (fun a b => WW.LkG.skip ew hlo (fun j j1 _ => h1 j j1) a b) (by omega), .inr ⟨rfl, rfl⟩⟩
        obtain ⟨lo, h0lo, I, hv⟩ := start 0 rows v nx (Nat.zero_le _) (I.iff (fun _ _ => Iff.rfl) (Nat.le_refl _))
        refine ⟨fun m σ' H' => ∃ (lo : Nat) (rows : Nat → List Nat) (v : Int), m = l.length + 1 - lo ∧ Same H H' ∧ RowsX H H' D (l.length + 1) rows ∧ WW.LkJ rows (WW.LkG ws l kk lo) ws.Nodup (M + lo) ∧ ((v = lo ∧ WW.Hit l lo wd ∧ lo ≤ l.length) ∨ (v = -1 ∧ lo = l.length + 1)) ∧
          ∃ v6 v7 : Option V, σ' = [some (.ref a), some (.str (WW.S l)), some (.ref D), v3, some (.str (WW.S wd)), some (.int v), v6, v7], ⟨_, lo, rows, v, rfl, s2, R, I, hv, v6, v7, rfl⟩, ?_⟩
        rintro m σ' H3 ⟨lo, rows, v, rfl, s3, R, I, hv, v6, v7, rfl⟩
        walk_at "tx"
        rcases hv with ⟨rfl, hit, hlo⟩ | ⟨rfl, rfl⟩
        · rw [decide_eq_true (by omega : (lo : Int) ≥ 0)]
          refine RD.d_iteT ?_
          have hb := bnd lo hit
          have n1 : ws.Nodup → ¬ WW.LkG ws l kk lo lo (lo + wd.length) := fun nd => (WW.LkG.new nd ok.ne ew hit).1
          have n2 : ws.Nodup → ¬ WW.LkG ws l kk lo (lo + wd.length) lo := fun nd => (WW.LkG.new nd ok.ne ew hit).2
          have I' := I.add (a := lo) (b := lo + wd.length) (by omega) n1 n2
          have len41 := I.len
          refine ⟨fun σ' H' => ∃ (lo' : Nat) (rows : Nat → List Nat) (v : Int), lo < lo' ∧ Same H H' ∧ RowsX H H' D (l.length + 1) rows ∧ WW.LkJ rows (WW.LkG ws l kk lo') ws.Nodup (M + lo') ∧ ((v = lo' ∧ WW.Hit l lo' wd ∧ lo' ≤ l.length) ∨ (v = -1 ∧ lo' = l.length + 1)) ∧
            ∃ v6 v7 : Option V, σ' = [some (.ref a), some (.str (WW.S l)), some (.ref D), v3, some (.str (WW.S wd)), some (.int v), v6, v7], ?_, ?_⟩
          · rintro σ' H' ⟨lo', rows, v, lt, rest⟩
            exact ⟨_, (by omega : l.length + 1 - lo' < l.length + 1 - lo), lo', rows, v, rfl, rest⟩
          · walk_at "tx"
            refine RD.d_bm ?_
            walk_at "tx"
            refine RowsX.row R (i := lo) (by omega) (by omega) (fun a1 ea Ra sa1 => ?_)
            refine ⟨RD.tyL ea, ?_⟩
            walk_at "tx"
            rw [show ((lo : Int) + wd.length) = ((lo + wd.length : Nat) : Int) from by omega]
            have s24 : 1001 * 1000 + 1001 < sizeLine := by decide
            refine RD.d_app ea (by rw [WW.Ns_len]; have := len41 lo; omega) ?_
            rw [WW.Ns_app]
            replace Ra := Ra (lo + wd.length)
            have ga := sa1 (.lst (Ns (rows lo ++ [lo + wd.length]))) s3
            generalize upd H3 a1 (.lst (Ns (rows lo ++ [lo + wd.length]))) = H4 at *
            walk_at "tx"
            refine RD.d_bm ?_
            walk_at "tx"
            refine RowsX.row Ra (i := lo + wd.length) (by omega) (by omega) (fun a2 ea2 Ra2 sa2 => ?_)
            refine ⟨RD.tyL ea2, ?_⟩
            walk_at "tx"
            have e2 : WW.push rows lo (lo + wd.length) (lo + wd.length) = rows (lo + wd.length) := if_neg (by omega)
            refine RD.d_app ea2 (by rw [WW.Ns_len, e2]; have := len41 (lo + wd.length); omega) ?_
            rw [WW.Ns_app]
            have ga2 := sa2 (.lst (Ns (WW.push rows lo (lo + wd.length) (lo + wd.length) ++ [lo]))) ga
            replace Ra2 := Ra2 lo
            generalize upd H4 a2 (.lst (Ns (WW.push rows lo (lo + wd.length) (lo + wd.length) ++ [lo]))) = H5 at *
            walk_at "tx"
            refine ⟨RD.tyS, ?_⟩
            walk_at "tx"
            refine RD.d_find2 wne (show ((lo : Int) + 1) = ((lo + 1 : Nat) : Int) from by omega) (fun v nx => ?_)
            obtain ⟨lo', h1, I2, hv⟩ := start (lo + 1) _ v nx (by omega) (I'.iff (fun i j => WW.LkG.hit ew hit i j) (Nat.le_refl _))
            walk_at "tx"
            exact ⟨lo', _, v, h1, ga2, Ra2, I2, hv, _, _, rfl⟩
        · refine RD.iteD (fun c => absurd c (by omega)) (fun _ => ?_)
          rw [K1]
          refine ⟨s3, ⟨rows, R, I.iff (fun i j => WW.LkG.next ew (fun j j1 z => by have := bnd j z; omega)) (Nat.le_refl _)⟩, _, _, _, _, _, rfl⟩
      · rintro σ' H2 ⟨s2, ⟨rows, R, I⟩, v3, v4, v5, v6, v7, rfl⟩
        rw [WW.Ss_len] at I
        walk_at "tx"
        replace I := I.iff (fun i j => (WW.LkG.all (i := i) (j := j)).symm) (Nat.le_refl _)
        obtain ⟨rs, h1, h2, h3, h4, h5, h6⟩ := R
        refine ⟨D, rfl, ⟨_, SqL.of h5⟩, fun D2 hD2 => ?_⟩
        have hD2' := s2.free hD2
        refine lc_list (K := K) (a := D) (xs := rs.map V.ref) (fun i H' => Same H2 H' ∧ ∃ (qs : List Addr) (out : Nat → List Nat), qs.length = i ∧ H' D2 = some (.lst (qs.map V.ref)) ∧ (D2 ∉ qs ∧ ∀ q ∈ qs, H2 q = none) ∧
            (∀ (j : Nat) (a : Addr), qs[j]? = some a → H' a = some (.lst (Ns (out j)))) ∧ ∀ j, j < i → (out j).Perm (rows j) ∧ (out j).Pairwise (· ≤ ·))
          ⟨same_upd hD2, [], fun _ => [], rfl, upd_same, ⟨(fun z => nomatch z), (fun _ z => nomatch z)⟩, (fun _ _ z => nomatch z), fun _ z => nomatch z⟩ ?_ ?_ ?_
        · rintro i H' _ ⟨s3, _⟩
          exact SqL.of (s3 _ _ h5)
        · rintro i y H' hi ⟨s3, qs, out, g1, g2, g3, g4, g5⟩
          rw [List.getElem?_map] at hi
          cases ea : rs[i]? with
          | none => rw [ea] at hi; cases hi
          | some a =>
            rw [ea] at hi
            cases hi
            have il : i < l.length + 1 := by have := (List.getElem?_eq_some_iff.mp ea).1; omega
            have ra := s3 _ _ (h6 i a ea)
            walk_at "tx"
            refine ⟨a, (rows i).map fun (j : Nat) => (j : Int), rfl, SqL.of (by rw [ra]; unfold Ns; rw [List.map_map]; rfl), fun ns p pm so hp => ?_⟩
            obtain ⟨q, rfl, mq, uq⟩ := WW.sorted_natsG pm so
            have np : p ≠ D2 := (ne_of_none g2 hp).symm
            refine ⟨qs.map V.ref, by rw [upd_ne np.symm]; exact g2, by rw [List.length_map, g1]; exact Nat.lt_of_lt_of_le il (Nat.le_trans (by omega : l.length + 1 ≤ 1001) (by decide)), fun b u e => ?_, qs ++ [p], (fun j => if j = i then q else out j), by rw [List.length_append, g1]; rfl, ?_, ?_, ?_, ?_⟩
            · have := s3 _ _ e
              rw [upd_ne (ne_of_none e hD2), upd_ne (ne_of_none this hp)]; exact this
            · rw [upd_same, List.map_append]; rfl
            · refine ⟨fun m => ?_, fun b m => ?_⟩
              · rcases List.mem_append.mp m with m | m
                · exact g3.1 m
                · exact np (List.mem_singleton.mp m).symm
              · rcases List.mem_append.mp m with m | m
                · exact g3.2 b m
                · rw [List.mem_singleton.mp m]; exact s3.free hp
            · intro j b e
              by_cases c : j = i
              · subst c
                rw [List.getElem?_append_right (by omega), g1, Nat.sub_self] at e
                cases e
                rw [upd_ne np, upd_same]
                simp only [if_pos]
                unfold Ns
                rw [List.map_map]; rfl
              · have jl : j < qs.length := by
                  have := (List.getElem?_eq_some_iff.mp e).1
                  rw [List.length_append, List.length_singleton] at this; omega
                rw [List.getElem?_append_left jl] at e
                have nb : b ≠ D2 := fun z => g3.1 (z ▸ List.mem_of_getElem? e)
                rw [upd_ne nb, upd_ne (ne_of_none (g4 j b e) hp)]
                simp only [if_neg c]
                exact g4 j b e
            · intro j jl
              by_cases c : j = i
              · subst c
                simp only [if_pos]
                exact ⟨mq, uq⟩
              · simp only [if_neg c]
                exact g5 j (by omega)
        · rintro H' ⟨s3, qs, out, g1, g2, g3, g4, g5⟩
          rw [List.length_map, h1] at g1 g5
          refine k H' D2 (fun j => if j < l.length + 1 then out j else []) (s2.trans s3) ⟨hD2', fun rs' e a m => ?_⟩ ⟨qs, g1, g2, fun i a e => ?_⟩ ⟨fun i j => ?_, fun i => ?_, fun nd i => ?_⟩
          · rw [g2] at e
            have e' : qs.map V.ref = rs'.map V.ref := (HO.lst.inj (Option.some.inj e))
            have m' : V.ref a ∈ rs'.map V.ref := List.mem_map.mpr ⟨a, m, rfl⟩
            rw [← e'] at m'
            obtain ⟨q, mq, eq⟩ := List.mem_map.mp m'
            cases eq
            exact s2.free (g3.2 _ mq)
          · have c : i < l.length + 1 := by have := (List.getElem?_eq_some_iff.mp e).1; omega
            simp only [if_pos c]
            exact g4 i a e
          · by_cases c : i < l.length + 1
            · simp only [if_pos c]
              rw [(g5 i c).1.mem_iff, I.mem]
            · simp only [if_neg c]
              exact ⟨fun z => (nomatch z), fun z => by have := (WW.Link.le ok.ne z).1; omega⟩
          · by_cases c : i < l.length + 1
            · simp only [if_pos c]; exact (g5 i c).2
            · simp only [if_neg c]; exact .nil
          · by_cases c : i < l.length + 1
            · simp only [if_pos c]; exact (g5 i c).1.nodup_iff.mpr (I.nd nd i)
            · simp only [if_neg c]; exact .nil
end

open WW (Ns)
def spLinks (K : PySem.W.Frag) (C : Addr) : Sp := fun vs H Q _ => ∃ (x : Addr) (ws : List WW.Wd) (l : WW.Wd), vs = [.ref x, .str (WW.S l)] ∧ BookAt K C H x ws ∧ Okw ws ∧ IsW 40 l ∧
  ∀ H' L rows, Same H H' → (H L = none ∧ ∀ rs : List Addr, H' L = some (.lst (rs.map V.ref)) → ∀ a ∈ rs, H a = none) → RowsAt H' L (l.length + 1) rows → Lks ws l rows → Q (.ref L) H'
section
variable {P : Program} {w : World} {K : PySem.W.Frag} {mg : Str → Option Value} {base : Heap}
theorem ok_links_of (T : Top K mg) : FnOk P w K mg base CX0 2 T.f_links_of T.fd_links_of ["book", "word"] (spLinks K T.C_Book) := by
  refine T.F_links_of.ok sc_links_of (fun vs H Q E h => ?_) (fun cdv A outer s H vs Q E hr h => ?_)
  · obtain ⟨x, ws, l, rfl, _⟩ := h; rfl
  · obtain ⟨x, ws, l, rfl, ⟨dx, t, ex, sq⟩, ok, hl, k⟩ := h
    refine ⟨_, (pss_one (ps_ret (pe_call (ok_links_through T) (hr.mono (by decide)) (by rfl) T.g_links_through T.F_links_through.kp T.b_links_through .nil pass0 (pa_cons (pe_fld (pv 0) (by rfl)) (pa_cons (pv 1) pa_nil))))), ?_⟩
    walk_at "tx"
    refine ⟨x, T.C_Book, dx, _, _, rfl, ex, T.cl_Book, T.na_Book_watches, lk_eq, ?_⟩
    walk_at "tx"
    refine ⟨t, ws, l, rfl, .inr sq, ok.pieces hl, fun H' L rows s1 f R g => k H' L rows s1 f R (g.strict ok.nd)⟩
end

/-! ### the steps to a spot -/
open WW (Ns)
theorem d_disp {trs : List (TE × TE)} {σ : L2.St} {H : Hp} {Q : VK} (h : ∀ p, H p = none → tPairs trs σ (upd H p (.dK [])) fun ps H2 => H2 p = some (.dK []) ∧ ∃ kvs : List (Key × V), ps = kvs.map (fun kv => (kV kv.1, kv.2)) ∧ kvs.length ≤ 15 ∧ Q (.ref p) (upd H2 p (.dK (mergeK [] kvs)))) : tDisp trs σ H Q := h
def spSteps (K : PySem.W.Frag) : Sp := fun vs H Q _ => ∃ (L : Addr) (n g : Nat) (rows : Nat → List Nat), vs = [.ref L, .int g] ∧ RowsAt H L n rows ∧ (∀ i j, j ∈ rows i → j < n) ∧ g < n ∧ n ≤ 41 ∧
  ∀ H' d ps, Same H H' → H d = none → H' d = some (.dK (WW.Dk ps)) → (∀ v r, WW.look ps v = some r ↔ WW.Ds (fun i j => j ∈ rows i) g r v) → (ps.map (·.1)).Nodup → Q (.ref d) H'
theorem RowsAt.ix {K : PySem.W.Frag} {H0 H : Hp} {L : Addr} {n i : Nat} {rows : Nat → List Nat} {iv : Int} {Q : VK} (h : RowsAt H0 L n rows) (s : Same H0 H) (hi : i < n) (e : iv = i) (k : ∀ a, H0 a = some (.lst (Ns (rows i))) → Q (.ref a) H) : rIxL K (.ref L) (.int iv) H Q := by
  subst e
  obtain ⟨rs, h1, h2, h3⟩ := h
  have il : i < rs.length := by rw [h1]; exact hi
  have ea : rs[i]? = some rs[i] := List.getElem?_eq_getElem il
  exact RD.d_ixL (SqL.of (s _ _ h2)) (atI_nat (by rw [List.getElem?_map, ea]; rfl)) (k _ (h3 i _ ea))
section
variable {P : Program} {w : World} {K : PySem.W.Frag} {mg : Str → Option Value} {base : Heap}
theorem ok_steps_to (T : Top K mg) : FnOk P w K mg base CX0 1 T.f_steps_to T.fd_steps_to ["links", "goal"] (spSteps K) := by
  refine T.F_steps_to.ok sc_steps_to (fun vs H Q E h => ?_) (fun cdv A outer s H vs Q E hr h => ?_)
  · obtain ⟨L, n, g, rows, rfl, _⟩ := h; rfl
  · obtain ⟨L, n, g, rows, rfl, R, lt, hg, n41, k⟩ := h
    refine ⟨_, (pss_cons (ps_set (i := 2) sc_steps_to.nd rfl (Or.inl rfl) (pe_disp (pps_cons (pv 1) pe_int pps_nil) (by rfl) (by rfl) (by simp) (by decide)))
 (pss_cons (ps_set (i := 3) sc_steps_to.nd rfl (Or.inl rfl) (pe_lst (pa_cons (pv 1) pa_nil)))
 (pss_cons (ps_while PassesOwn.never (pt_truth (pv 3) (fun _ => rfl))
 (pss_cons (ps_set (i := 4) sc_steps_to.nd rfl (Or.inl rfl) (pe_lst pa_nil))
 (pss_cons (ps_for PassesOwn.never rfl (pi_list (pv 3)) (pg_name (i := 5) sc_steps_to.nd rfl (Or.inl rfl))
 (pss_one (ps_for PassesOwn.never rfl (pi_list (pe_ix ix_list (pv 0) (pv 5) (fun _ _ => rfl))) (pg_name (i := 6) sc_steps_to.nd rfl (Or.inl rfl))
 (pss_one (ps_if (pt_cmp (pc_dnotin (hu_of hr) (pv 6) (pv 2)))
 (pss_cons (ps_dput (hu_of hr) (pv 2) (pv 6) (pe_op op_add (pe_dget (hu_of hr) (pv 2) (pv 5) (fun _ _ => rfl)) pe_int) rfl)
 (pss_one (ps_expr (pe_bm PySem.F.plainAttrs_list PySem.F.slot_list_append PySem.F.type_list_append mt_append (pv 4) (pa_cons (pv 6) pa_nil)))))
 pss_nil)))))
 (pss_one (ps_set (i := 3) sc_steps_to.nd rfl (Or.inl rfl) (pv 4))))))
 (pss_one (ps_ret (pv 2)))))), ?_⟩
    walk_at "tx"
    refine d_disp (fun d hd => ?_)
    refine ⟨_, rfl, upd_same, [(Sum.inl (g : Int), .int 0)], rfl, (by show 1 ≤ 15; decide), ?_⟩
    rw [upd_upd, show mergeK [] [(Sum.inl (g : Int), V.int 0)] = WW.Dk [(g, 0)] from rfl]
    have s1 := same_upd (o := HO.dK (WW.Dk [(g, 0)])) hd
    have e1 : upd H d (.dK (WW.Dk [(g, 0)])) d = some (.dK (WW.Dk [(g, 0)])) := upd_same
    generalize upd H d (.dK (WW.Dk [(g, 0)])) = H1 at *
    walk_at "tx"
    refine ⟨by show 1 ≤ sizeLine; decide, fun fa hfa => ?_⟩
    have s2 := s1.trans (same_upd (o := HO.lst [V.int (g : Nat)]) hfa)
    have e2 : upd H1 fa (.lst [V.int (g : Nat)]) d = some (.dK (WW.Dk [(g, 0)])) := by rw [upd_ne (ne_of_none e1 hfa)]; exact e1
    have e3 : upd H1 fa (.lst [V.int (g : Nat)]) fa = some (.lst (Ns [g])) := upd_same
    generalize upd H1 fa (.lst [V.int (g : Nat)]) = H2 at *
    walk_at "tx"
    let E : Nat → Nat → Prop := fun i j => j ∈ rows i
    refine ⟨fun m σ' H' => ∃ r ps ring fa, m = (n - ps.length) + (if ring = [] then 0 else 1) ∧ Same H H' ∧ H' d = some (.dK (WW.Dk ps)) ∧ H' fa = some (.lst (Ns ring)) ∧ WW.Bo E g n r ps ring ∧ ∃ v4 v5 v6 : Option V, σ' = [some (.ref L), some (.int g), some (.ref d), some (.ref fa), v4, v5, v6],
      ⟨_, 0, [(g, 0)], [g], fa, rfl, s2, e2, e3, WW.Bo.zero hg, none, none, none, rfl⟩, ?_⟩
    clear e3 e2 s2 hfa e1 s1 H2 H1 fa
    rintro m σ' H' ⟨r, ps, ring, fa, rfl, s1, e1, e2, B, v4, v5, v6, rfl⟩
    walk_at "tx"
    refine ⟨_, .inl ⟨_, SqL.of e2, rfl⟩, ?_⟩
    have er : (Ns ring).isEmpty = ring.isEmpty := by cases ring <;> rfl
    rw [er]
    cases ring with
    | nil =>
      refine RD.d_iteF ?_
      walk_at "tx"
      exact k H' d ps s1 hd e1 B.end_ B.nd
    | cons r0 rr =>
      refine RD.d_iteT ?_
      have rne : ¬ (r0 :: rr = []) := by simp
      generalize hring : r0 :: rr = ring at *
      clear hring er
      refine ⟨fun σ' H' => ∃ ps' far fb, (n - ps'.length) + (if far = [] then 0 else 1) < (n - ps.length) + (if ring = [] then 0 else 1) ∧ Same H H' ∧ H' d = some (.dK (WW.Dk ps')) ∧ H' fb = some (.lst (Ns far)) ∧ WW.Bo E g n (r + 1) ps' far ∧ ∃ v4 v5 v6 : Option V, σ' = [some (.ref L), some (.int g), some (.ref d), some (.ref fb), v4, v5, v6], ?_, ?_⟩
      · rintro σ' H' ⟨ps', far, fb, lt', h1, h2, h3, h4, v4, v5, v6, rfl⟩
        exact ⟨_, lt', r + 1, ps', far, fb, rfl, h1, h2, h3, h4, v4, v5, v6, rfl⟩
      · walk_at "tx"
        refine ⟨by show 0 ≤ sizeLine; decide, fun fb hfb => ?_⟩
        have hfb0 := s1.free hfb
        have nbd : d ≠ fb := ne_of_none e1 hfb
        have nba : fa ≠ fb := ne_of_none e2 hfb
        have nad : fa ≠ d := fun z => by subst z; rw [e1] at e2; cases e2
        have s2 : Same H (upd H' fb (.lst [])) := s1.trans (same_upd hfb)
        have f1 : upd H' fb (.lst []) d = some (.dK (WW.Dk ps)) := by rw [upd_ne nbd]; exact e1
        have f2 : upd H' fb (.lst []) fa = some (.lst (Ns ring)) := by rw [upd_ne nba]; exact e2
        have f3 : upd H' fb (.lst []) fb = some (.lst (Ns [])) := upd_same
        generalize upd H' fb (.lst []) = H2 at *
        walk_at "tx"
        refine RD.f_list (K := K) (a := fa) (xs := Ns ring) (fun a σ' H' => Same H H' ∧ H' fa = some (.lst (Ns ring)) ∧ (∃ ps' far, H' d = some (.dK (WW.Dk ps')) ∧ H' fb = some (.lst (Ns far)) ∧ ps'.length = ps.length + far.length ∧ WW.Bf E g n r ps' far (fun v => ∃ i, i < a ∧ ∃ u, ring[i]? = some u ∧ E u v)) ∧
            ∃ v5 v6 : Option V, σ' = [some (.ref L), some (.int g), some (.ref d), some (.ref fa), some (.ref fb), v5, v6])
          ⟨s2, f2, ⟨ps, [], f1, f3, rfl, B.begin.iff fun v => by simp⟩, v5, v6, rfl⟩ ?_ ?_ ?_
        · rintro a σ' H' _ ⟨_, q, _⟩
          exact SqL.of q
        · rintro a y σ' H3 hy ⟨s3, g2, ⟨ps', far, g1, g3, gl, C⟩, v5, v6, rfl⟩
          obtain ⟨u, hu, rfl⟩ := WW.Ns_get hy
          have du : WW.Ds E g r u := (B.ring u).mp (List.mem_of_getElem? hu)
          have un : u < n := by
            have := C.here du
            obtain ⟨p, mp, rfl⟩ : ∃ p ∈ ps', p.1 = u := by
              have : ¬ u ∉ ps'.map (·.1) := fun z => by rw [WW.look_none.mpr z] at this; cases this
              obtain ⟨p, mp, e⟩ := List.mem_map.mp (Classical.not_not.mp this)
              exact ⟨p, mp, e⟩
            exact C.lt p mp
          walk_at "tx"
          refine RowsAt.ix R s3 un rfl (fun ra hra0 => ?_)
          have hra := s3 _ _ hra0
          refine ⟨ra, rfl, ⟨_, SqL.of hra⟩, ?_⟩
          have nrd : ra ≠ d := ne_of_none hra0 hd
          have nrb : ra ≠ fb := ne_of_none hra0 hfb0
          refine RD.f_list (K := K) (a := ra) (xs := Ns (rows u)) (fun b σ' H' => Same H H' ∧ H' fa = some (.lst (Ns ring)) ∧ H' ra = some (.lst (Ns (rows u))) ∧ (∃ ps' far, H' d = some (.dK (WW.Dk ps')) ∧ H' fb = some (.lst (Ns far)) ∧ ps'.length = ps.length + far.length ∧
                WW.Bf E g n r ps' far (fun v => (∃ i, i < a ∧ ∃ u, ring[i]? = some u ∧ E u v) ∨ ∃ j, j < b ∧ (rows u)[j]? = some v)) ∧
              ∃ v6 : Option V, σ' = [some (.ref L), some (.int g), some (.ref d), some (.ref fa), some (.ref fb), some (.int u), v6])
            ⟨s3, g2, hra, ⟨ps', far, g1, g3, gl, C.iff fun v => by simp⟩, v6, rfl⟩ ?_ ?_ ?_
          · rintro b σ' H' _ ⟨_, _, q, _⟩
            exact SqL.of q
          · rintro b y σ' H4 hy ⟨s4, i2, ira, ⟨ps2, far2, i1, i3, il, D⟩, v6, rfl⟩
            obtain ⟨v, hv, rfl⟩ := WW.Ns_get hy
            have ev : E u v := List.mem_of_getElem? hv
            have seen : ∀ w, ((∃ i, i < a ∧ ∃ u, ring[i]? = some u ∧ E u w) ∨ ∃ j, j < b + 1 ∧ (rows u)[j]? = some w) ↔ ((∃ i, i < a ∧ ∃ u, ring[i]? = some u ∧ E u w) ∨ ∃ j, j < b ∧ (rows u)[j]? = some w) ∨ w = v := fun w => by
              constructor
              · rintro (z | ⟨j, jl, ej⟩)
                · exact .inl (.inl z)
                · by_cases c : j = b
                  · subst c; rw [hv] at ej; cases ej; exact .inr rfl
                  · exact .inl (.inr ⟨j, by omega, ej⟩)
              · rintro ((z | ⟨j, jl, ej⟩) | rfl)
                · exact .inl z
                · exact .inr ⟨j, by omega, ej⟩
                · exact .inr ⟨b, by omega, hv⟩
            walk_at "tx"
            refine ⟨d, _, rfl, DGet.k (k := Sum.inl (v : Int)) i1, _, rfl, ?_⟩
            rw [WW.valV_Dk]
            cases ev2 : WW.look ps2 v with
            | some dd =>
              refine RD.d_iteF ?_
              walk_at "tx"
              exact ⟨s4, i2, ira, ⟨ps2, far2, i1, i3, il, (D.old (by rw [ev2]; simp)).iff seen⟩, _, rfl⟩
            | none =>
              refine RD.d_iteT ?_
              have len2 := D.len
              have sz : ps2.length < sizeLine := Nat.lt_of_le_of_lt (Nat.le_trans len2 n41) (by decide)
              have nbd' : fb ≠ d := nbd.symm
              walk_at "tx"
              refine RD.d_dput ?_
              walk_at "tx"
              refine ⟨d, _, rfl, .inl ⟨WW.Dk ps2, Sum.inl (u : Int), .inl i1, rfl, by rw [WW.valV_Dk, D.here du]; rfl⟩, ?_⟩
              walk_at "tx"
              refine ⟨d, _, rfl, DPut.k (k := Sum.inl (v : Int)) i1 (by unfold WW.Dk; rw [List.length_map]; exact sz), ?_⟩
              rw [show V.int ((r : Int) + 1) = V.int ((r + 1 : Nat) : Int) from rfl, WW.Dk_put ev2]
              have s5 : Same H (upd H4 d (.dK (WW.Dk (ps2 ++ [(v, r + 1)])))) := fun b o e => by rw [upd_ne (ne_of_none e hd)]; exact s4 _ _ e
              have j1 : upd H4 d (.dK (WW.Dk (ps2 ++ [(v, r + 1)]))) d = some (.dK (WW.Dk (ps2 ++ [(v, r + 1)]))) := upd_same
              have j2 : upd H4 d (.dK (WW.Dk (ps2 ++ [(v, r + 1)]))) fa = some (.lst (Ns ring)) := by rw [upd_ne nad]; exact i2
              have j3 : upd H4 d (.dK (WW.Dk (ps2 ++ [(v, r + 1)]))) fb = some (.lst (Ns far2)) := by rw [upd_ne nbd']; exact i3
              have j4 : upd H4 d (.dK (WW.Dk (ps2 ++ [(v, r + 1)]))) ra = some (.lst (Ns (rows u))) := by rw [upd_ne nrd]; exact ira
              generalize upd H4 d (.dK (WW.Dk (ps2 ++ [(v, r + 1)]))) = H5 at *
              walk_at "tx"
              refine ⟨RD.tyL j3, ?_⟩
              walk_at "tx"
              refine RD.d_app j3 (by rw [WW.Ns_len]; omega) ?_
              rw [WW.Ns_app]
              refine ⟨fun b o e => by rw [upd_ne (ne_of_none e hfb0)]; exact s5 _ _ e, by rw [upd_ne nba]; exact j2, by rw [upd_ne nrb]; exact j4, ⟨_, _, by rw [upd_ne nbd]; exact j1, upd_same, ?_, (D.new du ev (lt _ _ ev) ev2).iff seen⟩, _, rfl⟩
              rw [List.length_append, List.length_append, il]; simp; omega
          · rintro σ' H4 ⟨s4, i2, ira, ⟨ps2, far2, i1, i3, il, D⟩, v6, rfl⟩
            refine ⟨s4, i2, ⟨ps2, far2, i1, i3, il, D.iff fun w => ?_⟩, _, _, rfl⟩
            rw [WW.Ns_len]
            constructor
            · rintro ⟨i, il', z, ez, q⟩
              by_cases c : i = a
              · subst c
                rw [hu] at ez; cases ez
                obtain ⟨j, hj⟩ := List.getElem?_of_mem q
                exact .inr ⟨j, (List.getElem?_eq_some_iff.mp hj).1, hj⟩
              · exact .inl ⟨i, by omega, z, ez, q⟩
            · rintro (⟨i, il', z, ez, q⟩ | ⟨j, jl, ej⟩)
              · exact ⟨i, by omega, z, ez, q⟩
              · exact ⟨a, by omega, u, hu, List.mem_of_getElem? ej⟩
        · rintro σ' H3 ⟨s3, g2, ⟨ps', far, g1, g3, gl, C⟩, v5, v6, rfl⟩
          rw [WW.Ns_len] at C
          have lenp := C.len
          walk_at "tx"
          refine ⟨ps', far, fb, ?_, s3, g1, g3, C.done B.ring (fun u v mu e => ?_), _, _, _, rfl⟩
          · rw [if_neg rne]
            by_cases c : far = []
            · subst c
              rw [if_pos rfl]
              simp at gl
              omega
            · rw [if_neg c]
              have : 0 < far.length := List.length_pos_iff.mpr c
              omega
          · obtain ⟨i, hi⟩ := List.getElem?_of_mem mu
            exact ⟨i, (List.getElem?_eq_some_iff.mp hi).1, u, hi, e⟩
end

/-! ### words drawn letter by letter -/
theorem alpha_lit : (Str.ofString "abcdefghijklmnopqrstuvwxyz") = WW.S (List.range' 97 26) := WW.alpha_S
theorem nil_lit : (Str.ofString "") = WW.S [] := by decide +kernel
theorem But.trans {h : Addr} {H H1 H2 : Hp} (a : But h H H1) (b : But h H1 H2) : But h H H2 := fun c n => (b c n).trans (a c n)
theorem But.kp {h : Addr} {H H' : Hp} (b : But h H H') : Kx h H H' := fun c o n e => by rw [b c n]; exact e
theorem TapeAt.same {H H' : Hp} {h c : Addr} (x : TapeAt H h c) (s : Same H H') : TapeAt H' h c := by
  obtain ⟨cs, p, q, m, n, e1, e2, ne, hp⟩ := x
  exact ⟨cs, p, q, m, n, s _ _ e1, s _ _ e2, ne, hp⟩
theorem TapeAt.free {H : Hp} {h c p : Addr} (x : TapeAt H h c) (hp : H p = none) : p ≠ h ∧ p ≠ c := by
  obtain ⟨cs, p1, q, m, n', e1, e2, ne, hp1⟩ := x
  exact ⟨(ne_of_none e1 hp).symm, (ne_of_none e2 hp).symm⟩
theorem TapeAt.upd {H : Hp} {h c p : Addr} {o : HO} (x : TapeAt H h c) (n : p ≠ h) (m : p ≠ c) : TapeAt (upd H p o) h c := by
  obtain ⟨cs, p1, q, m1, n', e1, e2, ne, hp⟩ := x
  exact ⟨cs, p1, q, m1, n', by rw [upd_ne n.symm]; exact e1, by rw [upd_ne m.symm]; exact e2, ne, hp⟩
theorem Kx.fresh {h p : Addr} {H H' : Hp} {o : HO} (k : Kx h H H') (hp : H p = none) : Kx h H (L2.upd H' p o) := fun b u n e => by
  rw [upd_ne (ne_of_none e hp)]; exact k b u n e
/-- what is new behind H is new to H -/
theorem Kx.free {h p : Addr} {H H' : Hp} (k : Kx h H H') (n : p ≠ h) (hp : H' p = none) : H p = none := by
  cases e : H p with
  | none => rfl
  | some o => rw [k p o n e] at hp; cases hp
theorem log2_lt {i : Int} (k : i.natAbs < 1000000) : i.natAbs.log2 < 9000 := by
  by_cases z : i.natAbs = 0
  · rw [z]; decide
  · exact Nat.lt_trans ((Nat.log2_lt z).mpr (Nat.lt_trans k (by decide : 1000000 < 2 ^ 64))) (by decide)
def spLets : Sp := fun vs H Q _ => ∃ (h c : Addr) (n : Nat), vs = [.ref h, .int n] ∧ TapeAt H h c ∧ n ≤ 100 ∧
  ∀ (p : Addr) (ls : List WW.Wd) (H' : Hp), TapeAt H' h c → Kx h H H' → H p = none → p ≠ h → H' p = some (.lst (WW.Ss ls)) → WW.Ones ls → ls.length = n → Q (.ref p) H'
def spWrd : Sp := fun vs H Q _ => ∃ (h c : Addr) (most : Nat), vs = [.ref h, .int most] ∧ TapeAt H h c ∧ 1 ≤ most ∧ most ≤ 100 ∧
  ∀ (l : WW.Wd) (H' : Hp), TapeAt H' h c → Kx h H H' → IsW most l → Q (.str (WW.S l)) H'
def spWtc : Sp := fun vs H Q _ => ∃ (h c : Addr) (w : WW.Wd) (m most : Nat), vs = [.ref h, .str (WW.S w), .int most] ∧ TapeAt H h c ∧ 1 ≤ most ∧ most ≤ 100 ∧ IsW m w ∧ m ≤ 100 ∧
  ∀ (l : WW.Wd) (H' : Hp), TapeAt H' h c → Kx h H H' → IsW most l → Q (.str (WW.S l)) H'
section
variable {P : Program} {w : World} {K : PySem.W.Frag} {mg : Str → Option Value} {base : Heap}
theorem ok_law_letters (T : Top K mg) : FnOk P w K mg base CX0 3 T.f_law_letters T.fd_law_letters ["tape", "many"] spLets := by
  refine T.F_law_letters.ok sc_law_letters (fun vs H Q E h => ?_) (fun cdv A outer s H vs Q E hr h => ?_)
  · obtain ⟨h, c, n, rfl, _⟩ := h; rfl
  · obtain ⟨h, c, n, rfl, hT, n9, k⟩ := h
    refine ⟨_, (pss_cons (ps_set (i := 2) sc_law_letters.nd rfl (Or.inr rfl) (pe_call (ok_law_pick T) (hr.mono (by decide)) (by rfl) T.g_law_pick T.F_law_pick.kp T.b_law_pick .nil pass0 (pa_cons (pv 0) (pa_cons pe_int pa_nil))))
 (pss_cons (ps_set (i := 3) sc_law_letters.nd rfl (Or.inr rfl) (pe_ix ix_list (pe_lst (pa_cons pe_int (pa_cons pe_int (pa_cons pe_int (pa_cons pe_int (pa_cons pe_int (pa_cons pe_int pa_nil))))))) (pe_call (ok_law_pick T) (hr.mono (by decide)) (by rfl) T.g_law_pick T.F_law_pick.kp T.b_law_pick .nil pass0 (pa_cons (pv 0) (pa_cons pe_int pa_nil))) (fun _ _ => rfl)))
 (pss_one (ps_ret (pe_lc (own := [("k", 4)]) (g := (gName 4)) (tt := tYes) rfl sc_law_letters.nd (pi_range1 (by rfl) T.n_range (pa_cons (pv 1) pa_nil)) (blkOk_by (own := [("k", 4)]) (N := ["tape", "many", "start", "step", "k"]) (sc := defScope s_law_letters) (by decide +kernel)) (fun _ _ _ _ _ => (pg_name (i := 4) sc_law_letters.nd rfl (Or.inl rfl))) (fun _ _ _ _ _ => pts_nil) (fun _ _ _ _ _ => (pe_ix ix_str pe_str (pe_op op_mod (pe_callTy RD.c_int (by rfl) T.n_int (by decide +kernel) (pa_cons (pe_op op_add (pv 2) (pe_op op_mul (pv 3) (pv 4))) pa_nil)) pe_int) (fun _ _ => rfl)))))))), ?_⟩
    rw [alpha_lit]
    walk_at "tx"
    refine ⟨h, c, 26, rfl, hT, by decide, log2_lt (by decide), fun r0 H1 a0 b0 hT1 k1 => ?_⟩
    walk_at "tx"
    refine ⟨by show 6 ≤ sizeLine; decide, fun q hq => ?_⟩
    have hT2 := hT1.same (same_upd (o := HO.lst [V.int 1, V.int 3, V.int 5, V.int 7, V.int 9, V.int 11]) hq)
    have nq : q ≠ h := (hT1.free hq).1
    have k2 : Kx h H (upd H1 q (.lst [V.int 1, V.int 3, V.int 5, V.int 7, V.int 9, V.int 11])) := k1.kp.trans (Same.kx (same_upd hq))
    have eq : upd H1 q (.lst [V.int 1, V.int 3, V.int 5, V.int 7, V.int 9, V.int 11]) q = some (.lst ([1, 3, 5, 7, 9, 11].map V.int)) := upd_same
    generalize upd H1 q (.lst [V.int 1, V.int 3, V.int 5, V.int 7, V.int 9, V.int 11]) = H2 at *
    walk_at "tx"
    refine ⟨h, c, 6, rfl, hT2, by decide, log2_lt (by decide), fun r1 H3 a1 b1 hT3 k3 => ?_⟩
    obtain ⟨st, est, s0, s1⟩ : ∃ st : Int, atI (([1, 3, 5, 7, 9, 11] : List Int).map V.int) r1 = some (.int st) ∧ 0 ≤ st ∧ st ≤ 17 := by
      obtain ⟨n, rfl⟩ := Int.eq_ofNat_of_zero_le a1
      have : n < 6 := by omega
      match n, this with
      | 0, _ => exact ⟨1, rfl, by decide, by decide⟩
      | 1, _ => exact ⟨3, rfl, by decide, by decide⟩
      | 2, _ => exact ⟨5, rfl, by decide, by decide⟩
      | 3, _ => exact ⟨7, rfl, by decide, by decide⟩
      | 4, _ => exact ⟨9, rfl, by decide, by decide⟩
      | 5, _ => exact ⟨11, rfl, by decide, by decide⟩
    refine RD.d_ixL (SqL.of (by rw [k3 q nq]; exact eq)) est ?_
    have k23 : Kx h H H3 := k2.trans k3.kp
    walk_at "tx"
    refine ⟨_, rfl, by omega, by omega, fun D hD => ?_⟩
    have nD := (hT3.free hD).1
    have hD0 := k23.free nD hD
    rw [show ((n : Int)).toNat = n from by omega]
    refine lc_range (lo := 0) (n := n) (fun i H' => Same H3 H' ∧ ∃ ls : List WW.Wd, ls.length = i ∧ WW.Ones ls ∧ H' D = some (.lst (WW.Ss ls))) ⟨same_upd hD, [], rfl, (fun _ z => nomatch z), upd_same⟩ ?_ ?_
    · rintro i H' il ⟨s2, ls, ll, lo, eD⟩
      walk_at "tx"
      have e0 : 0 ≤ (r0 + st * (0 + (i : Int))) % 26 := Int.emod_nonneg _ (by decide)
      have e1 : (r0 + st * (0 + (i : Int))) % 26 < 26 := Int.emod_lt_of_pos _ (by decide)
      generalize (r0 + st * (0 + (i : Int))) % 26 = y at *
      refine RD.d_ixS (a := y.toNat) (by omega) (by rw [List.length_range']; decide) (WW.alpha_at (by omega)) ?_
      refine ⟨_, eD, by rw [WW.Ss_len, ll]; exact Nat.lt_of_lt_of_le il (Nat.le_trans n9 (by decide)), fun b o e => ?_, ls ++ [[97 + y.toNat]], by rw [List.length_append, ll]; rfl, lo.snoc ⟨by omega, by omega⟩, by rw [upd_same, WW.Ss_app]⟩
      rw [upd_ne (ne_of_none e hD)]; exact s2 _ _ e
    · rintro H' ⟨s2, ls, ll, lo, eD⟩
      walk_at "tx"
      exact k D ls H' (hT3.same s2) (k23.trans (Same.kx s2)) hD0 nD eD lo ll
/-- a comprehension of drawn letters -/
structure Dr (H0 H : Hp) (h c D : Addr) (i : Nat) (ls : List WW.Wd) : Prop where
  t : TapeAt H h c
  k : Kx h H0 H
  e : H D = some (.lst (WW.Ss ls))
  o : WW.Ones ls
  n : ls.length = i
theorem joined {K : PySem.W.Frag} {H : Hp} {D : Addr} {ls : List WW.Wd} {Q : VK} (e : H D = some (.lst (WW.Ss ls))) (o : WW.Ones ls) (n : ls.length ≤ 1000) (k : Q (.str (WW.S ls.flatten)) H) :
    ∃ a p, ∃ ys : List Str, V.str (WW.S []) = .str a ∧ [V.ref D] = [.ref p] ∧ (SqL K H p (ys.map V.str) ∨ SqT K H p (ys.map V.str)) ∧ (ys.map (·.length)).sum + ys.length * a.length ≤ 16777216 ∧ Q (.str (Txt.join a ys)) H :=
  ⟨_, D, ls.map WW.S, rfl, rfl, .inl (SqL.of (by rw [e]; unfold WW.Ss; rw [List.map_map]; rfl)), by rw [o.sum, WW.S_len]; simp; omega, by rw [WW.S_join]; exact k⟩
theorem ok_law_word (T : Top K mg) : FnOk P w K mg base CX0 5 T.f_law_word T.fd_law_word ["tape", "most"] spWrd := by
  refine T.F_law_word.ok sc_law_word (fun vs H Q E h => ?_) (fun cdv A outer s H vs Q E hr h => ?_)
  · obtain ⟨h, c, most, rfl, _⟩ := h; rfl
  · obtain ⟨h, c, most, rfl, hT, m1, m9, k⟩ := h
    refine ⟨_, (pss_cons (ps_set (i := 2) sc_law_word.nd rfl (Or.inl rfl) (pe_op op_add pe_int (pe_call (ok_law_pick T) (hr.mono (by decide)) (by rfl) T.g_law_pick T.F_law_pick.kp T.b_law_pick .nil pass0 (pa_cons (pv 0) (pa_cons (pv 1) pa_nil)))))
 (pss_cons (ps_set (i := 3) sc_law_word.nd rfl (Or.inl rfl) (pe_call (ok_law_pick T) (hr.mono (by decide)) (by rfl) T.g_law_pick T.F_law_pick.kp T.b_law_pick .nil pass0 (pa_cons (pv 0) (pa_cons pe_int pa_nil))))
 (pss_cons (ps_set (i := 4) sc_law_word.nd rfl (Or.inr rfl) (pe_call (ok_law_letters T) (hr.mono (by decide)) (by rfl) T.g_law_letters T.F_law_letters.kp T.b_law_letters .nil pass0 (pa_cons (pv 0) (pa_cons (pe_op op_add pe_int (pe_callB (call_min2 rfl) (by rfl) T.n_min (by decide +kernel) (pa_cons (pv 3) (pa_cons pe_int pa_nil)))) pa_nil))))
 (pss_cons (ps_if (pt_cmpR op_eq (pv 3) pe_int (nomark _))
 (pss_cons (ps_set (i := 5) sc_law_word.nd rfl (Or.inr rfl) (pe_lc (own := [("k", 6)]) (g := (gName 6)) (tt := tYes) rfl sc_law_word.nd (pi_range1 (by rfl) T.n_range (pa_cons (pe_op op_add pe_int (pe_call (ok_law_pick T) (hr.mono (by decide)) (by rfl) T.g_law_pick T.F_law_pick.kp T.b_law_pick .nil pass0 (pa_cons (pv 0) (pa_cons pe_int pa_nil)))) pa_nil)) (blkOk_by (own := [("k", 6)]) (N := ["tape", "most", "size", "kind", "letters", "part", "k"]) (sc := defScope s_law_word) (by decide +kernel)) (fun _ _ _ _ _ => (pg_name (i := 6) sc_law_word.nd rfl (Or.inl rfl))) (fun _ _ _ _ _ => pts_nil) (fun _ _ _ _ _ => (pe_ix (OQ.ixL K) (pv 4) (pe_call (ok_law_pick T) (hr.mono (by decide)) (by rfl) T.g_law_pick T.F_law_pick.kp T.b_law_pick .nil pass0 (pa_cons (pv 0) (pa_cons pe_int pa_nil))) (fun _ _ => rfl)))))
 (pss_one (ps_ret (pe_join pe_str (pe_lc (own := [("k", 6)]) (g := (gName 6)) (tt := tYes) rfl sc_law_word.nd (pi_range1 (by rfl) T.n_range (pa_cons (pv 2) pa_nil)) (blkOk_by (own := [("k", 6)]) (N := ["tape", "most", "size", "kind", "letters", "part", "k"]) (sc := defScope s_law_word) (by decide +kernel)) (fun _ _ _ _ _ => (pg_name (i := 6) sc_law_word.nd rfl (Or.inl rfl))) (fun _ _ _ _ _ => pts_nil) (fun _ _ _ _ _ => (pe_ix (OQ.ixL K) (pv 5) (pe_op op_mod (pe_callTy RD.c_int (by rfl) T.n_int (by decide +kernel) (pa_cons (pv 6) pa_nil)) (pe_callB (OQ.lenK K) (by rfl) T.n_len (by decide +kernel) (pa_cons (pv 5) pa_nil))) (fun _ _ => rfl))))))))
 pss_nil)
 (pss_one (ps_ret (pe_join pe_str (pe_lc (own := [("k", 6)]) (g := (gName 6)) (tt := tYes) rfl sc_law_word.nd (pi_range1 (by rfl) T.n_range (pa_cons (pv 2) pa_nil)) (blkOk_by (own := [("k", 6)]) (N := ["tape", "most", "size", "kind", "letters", "part", "k"]) (sc := defScope s_law_word) (by decide +kernel)) (fun _ _ _ _ _ => (pg_name (i := 6) sc_law_word.nd rfl (Or.inl rfl))) (fun _ _ _ _ _ => pts_nil) (fun _ _ _ _ _ => (pe_ix (OQ.ixL K) (pv 4) (pe_call (ok_law_pick T) (hr.mono (by decide)) (by rfl) T.g_law_pick T.F_law_pick.kp T.b_law_pick .nil pass0 (pa_cons (pv 0) (pa_cons (pe_callB (OQ.lenK K) (by rfl) T.n_len (by decide +kernel) (pa_cons (pv 4) pa_nil)) pa_nil))) (fun _ _ => rfl))))))))))), ?_⟩
    rw [nil_lit]
    walk_at "tx"
    refine ⟨h, c, most, rfl, hT, by omega, log2_lt (by omega), fun r0 H1 a0 b0 hT1 k1 => ?_⟩
    walk_at "tx"
    refine ⟨h, c, 4, rfl, hT1, by decide, log2_lt (by decide), fun kind H2 a1 b1 hT2 k2 => ?_⟩
    walk_at "tx"
    refine ⟨_, _, rfl, ?_⟩
    walk_at "tx"
    have emin : (1 : Int) + (if (2 : Int) < kind then 2 else kind) = ((1 + (min kind.toNat 2) : Nat) : Int) := by split <;> omega
    rw [emin]
    refine ⟨h, c, _, rfl, hT2, by omega, fun p ls H3 hT3 k3 hp np ep lo ll => ?_⟩
    have k03 : Kx h H H3 := (k1.kp.trans k2.kp).trans k3
    have lsn : 1 ≤ ls.length := by omega
    walk_at "tx"
    refine RD.iteD (fun c1 => ?_) (fun c1 => ?_)
    · walk_at "tx"
      refine ⟨h, c, 3, rfl, hT3, by decide, log2_lt (by decide), fun r4 H4 a4 b4 hT4 k4 => ?_⟩
      walk_at "tx"
      refine ⟨_, rfl, by omega, by omega, fun D hD => ?_⟩
      have hD0 := hT4.free hD
      have k04 : Kx h H H4 := k03.trans k4.kp
      have sD := same_upd (o := HO.lst []) hD
      have eP4 : H4 p = some (.lst (WW.Ss ls)) := by rw [k4 p np]; exact ep
      have nDp : p ≠ D := ne_of_none eP4 hD
      have l2 : ls.length = 2 := by omega
      refine lc_range (lo := 0) (n := ((2 : Int) + r4).toNat) (fun i H' => H' p = some (.lst (WW.Ss ls)) ∧ ∃ qs, Dr H H' h c D i qs) ⟨by rw [upd_ne nDp]; exact eP4, [], ⟨hT4.same sD, k04.trans (Same.kx sD), upd_same, (fun _ z => nomatch z), rfl⟩⟩ ?_ ?_
      · rintro i H' il ⟨eP, qs, d⟩
        walk_at "tx"
        refine ⟨h, c, 2, rfl, d.t, by decide, log2_lt (by decide), fun r5 H5 a5 b5 hT5 k5 => ?_⟩
        have r5l : r5.toNat < ls.length := by omega
        obtain ⟨ch, ech, hch⟩ := lo _ (List.getElem_mem r5l)
        refine RD.d_ixL (SqL.of (by rw [k5 p np]; exact eP)) (v := .str (WW.S [ch])) (by
          have := atI_nat (xs := WW.Ss ls) (j := r5.toNat) (v := .str (WW.S [ch])) (by unfold WW.Ss; rw [List.getElem?_map, List.getElem?_eq_getElem r5l, ech]; rfl)
          rwa [Int.toNat_of_nonneg a5] at this) ?_
        have eD5 : H5 D = some (.lst (WW.Ss qs)) := by rw [k5 D hD0.1]; exact d.e
        refine ⟨_, eD5, by rw [WW.Ss_len, d.n]; exact Nat.lt_of_lt_of_le (by omega : i < 6) (by decide), by rw [upd_ne nDp, k5 p np]; exact eP, qs ++ [[ch]], ⟨hT5.upd hD0.1 hD0.2, (d.k.trans k5.kp).fresh (k04.free hD0.1 hD), by rw [upd_same, WW.Ss_app], d.o.snoc hch, by rw [List.length_append, d.n]; rfl⟩⟩
      · rintro H5 ⟨eP, qs, d⟩
        have qn := d.n
        walk_at "tx"
        refine RD.d_m1 ?_
        walk_at "tx"
        refine ⟨⟨_, rfl⟩, ?_⟩
        walk_at "tx"
        refine ⟨_, rfl, by omega, by omega, fun D2 hD2 => ?_⟩
        have sD2 := same_upd (o := HO.lst []) hD2
        refine lc_range (lo := 0) (n := ((1 : Int) + r0).toNat) (fun i H' => Same H5 H' ∧ ∃ us : List WW.Wd, us.length = i ∧ WW.Ones us ∧ H' D2 = some (.lst (WW.Ss us))) ⟨sD2, [], rfl, (fun _ z => nomatch z), upd_same⟩ ?_ ?_
        · rintro i H' il ⟨s2, us, ul, uo, eU⟩
          have eQ := s2 _ _ d.e
          walk_at "tx"
          have q2 : 2 ≤ qs.length := by omega
          rw [WW.Ss_len]
          refine RD.d_rI (show (0 : Int) < (qs.length : Int) by omega) ?_
          have y0 : 0 ≤ ((0 : Int) + i) % (qs.length : Int) := Int.emod_nonneg _ (by omega)
          have y1 : ((0 : Int) + i) % (qs.length : Int) < qs.length := Int.emod_lt_of_pos _ (by omega)
          generalize ((0 : Int) + i) % (qs.length : Int) = y at *
          have yl : y.toNat < qs.length := by omega
          obtain ⟨ch, ech, hch⟩ := d.o _ (List.getElem_mem yl)
          refine RD.d_ixL (SqL.of eQ) (v := .str (WW.S [ch])) (by
            have := atI_nat (xs := WW.Ss qs) (j := y.toNat) (v := .str (WW.S [ch])) (by unfold WW.Ss; rw [List.getElem?_map, List.getElem?_eq_getElem yl, ech]; rfl)
            rwa [Int.toNat_of_nonneg y0] at this) ?_
          refine ⟨_, eU, by rw [WW.Ss_len, ul]; exact Nat.lt_of_lt_of_le (by omega : i < 101) (by decide), fun b o e => ?_, us ++ [[ch]], by rw [List.length_append, ul]; rfl, uo.snoc hch, by rw [upd_same, WW.Ss_app]⟩
          rw [upd_ne (ne_of_none e hD2)]; exact s2 _ _ e
        · rintro H6 ⟨s2, us, ul, uo, eU⟩
          walk_at "tx"
          refine joined eU uo (by omega) ?_
          obtain ⟨f1, f2⟩ := uo.flat
          exact k _ _ (d.t.same s2) (d.k.trans (Same.kx s2)) ⟨by omega, by omega, f2⟩
    · walk_at "tx"
      refine RD.d_m1 ?_
      walk_at "tx"
      refine ⟨⟨_, rfl⟩, ?_⟩
      walk_at "tx"
      refine ⟨_, rfl, by omega, by omega, fun D hD => ?_⟩
      have hD0 := hT3.free hD
      have sD := same_upd (o := HO.lst []) hD
      have nDp : p ≠ D := ne_of_none ep hD
      refine lc_range (lo := 0) (n := ((1 : Int) + r0).toNat) (fun i H' => H' p = some (.lst (WW.Ss ls)) ∧ ∃ qs, Dr H H' h c D i qs) ⟨by rw [upd_ne nDp]; exact ep, [], ⟨hT3.same sD, k03.trans (Same.kx sD), upd_same, (fun _ z => nomatch z), rfl⟩⟩ ?_ ?_
      · rintro i H' il ⟨eP, qs, d⟩
        walk_at "tx"
        rw [WW.Ss_len]
        refine ⟨h, c, ls.length, rfl, d.t, by omega, log2_lt (by omega), fun r5 H5 a5 b5 hT5 k5 => ?_⟩
        have r5l : r5.toNat < ls.length := by omega
        obtain ⟨ch, ech, hch⟩ := lo _ (List.getElem_mem r5l)
        refine RD.d_ixL (SqL.of (by rw [k5 p np]; exact eP)) (v := .str (WW.S [ch])) (by
          have := atI_nat (xs := WW.Ss ls) (j := r5.toNat) (v := .str (WW.S [ch])) (by unfold WW.Ss; rw [List.getElem?_map, List.getElem?_eq_getElem r5l, ech]; rfl)
          rwa [Int.toNat_of_nonneg a5] at this) ?_
        have eD5 : H5 D = some (.lst (WW.Ss qs)) := by rw [k5 D hD0.1]; exact d.e
        refine ⟨_, eD5, by rw [WW.Ss_len, d.n]; exact Nat.lt_of_lt_of_le (by omega : i < 101) (by decide), by rw [upd_ne nDp, k5 p np]; exact eP, qs ++ [[ch]], ⟨hT5.upd hD0.1 hD0.2, (d.k.trans k5.kp).fresh (k03.free hD0.1 hD), by rw [upd_same, WW.Ss_app], d.o.snoc hch, by rw [List.length_append, d.n]; rfl⟩⟩
      · rintro H5 ⟨eP, qs, d⟩
        have qn := d.n
        walk_at "tx"
        refine joined d.e d.o (by omega) ?_
        obtain ⟨f1, f2⟩ := d.o.flat
        exact k _ _ d.t d.k ⟨by omega, by omega, f2⟩
theorem ok_law_watch (T : Top K mg) : FnOk P w K mg base CX0 3 T.f_law_watch T.fd_law_watch ["tape", "word", "most"] spWtc := by
  refine T.F_law_watch.ok sc_law_watch (fun vs H Q E h => ?_) (fun cdv A outer s H vs Q E hr h => ?_)
  · obtain ⟨h, c, wd, m, most, rfl, _⟩ := h; rfl
  · obtain ⟨h, c, wd, m, most, rfl, hT, m1, m9, ⟨w1, wm, wl⟩, m10, k⟩ := h
    have wz : wd.length ≤ sizeLine := Nat.le_trans (Nat.le_trans wm m10) (by decide)
    refine ⟨_, (pss_cons (ps_set (i := 3) sc_law_watch.nd rfl (Or.inl rfl) (pe_op op_add pe_int (pe_call (ok_law_pick T) (hr.mono (by decide)) (by rfl) T.g_law_pick T.F_law_pick.kp T.b_law_pick .nil pass0 (pa_cons (pv 0) (pa_cons (pe_callB (call_min2 rfl) (by rfl) T.n_min (by decide +kernel) (pa_cons (pv 2) (pa_cons (pe_callB RD.c_len (by rfl) T.n_len (by decide +kernel) (pa_cons (pv 1) pa_nil)) pa_nil))) pa_nil)))))
 (pss_cons (ps_set (i := 4) sc_law_watch.nd rfl (Or.inl rfl) (pe_call (ok_law_pick T) (hr.mono (by decide)) (by rfl) T.g_law_pick T.F_law_pick.kp T.b_law_pick .nil pass0 (pa_cons (pv 0) (pa_cons (pe_op op_add (pe_op op_sub (pe_callB RD.c_len (by rfl) T.n_len (by decide +kernel) (pa_cons (pv 1) pa_nil)) (pv 3)) pe_int) pa_nil))))
 (pss_cons (ps_if (pt_cmpR op_gt (pe_call (ok_law_pick T) (hr.mono (by decide)) (by rfl) T.g_law_pick T.F_law_pick.kp T.b_law_pick .nil pass0 (pa_cons (pv 0) (pa_cons pe_int pa_nil))) pe_int (nomark _))
 (pss_one (ps_ret (pe_slice sl_str (pv 1) (po_some (pv 4)) (po_some (pe_op op_add (pv 4) (pv 3))))))
 pss_nil)
 (pss_one (ps_ret (pe_join pe_str (pe_lc (own := [("k", 5)]) (g := (gName 5)) (tt := tYes) rfl sc_law_watch.nd (pi_range1 (by rfl) T.n_range (pa_cons (pv 3) pa_nil)) (blkOk_by (own := [("k", 5)]) (N := ["tape", "word", "most", "size", "at", "k"]) (sc := defScope s_law_watch) (by decide +kernel)) (fun _ _ _ _ _ => (pg_name (i := 5) sc_law_watch.nd rfl (Or.inl rfl))) (fun _ _ _ _ _ => pts_nil) (fun _ _ _ _ _ => (pe_ix ix_str (pv 1) (pe_call (ok_law_pick T) (hr.mono (by decide)) (by rfl) T.g_law_pick T.F_law_pick.kp T.b_law_pick .nil pass0 (pa_cons (pv 0) (pa_cons (pe_callB (OQ.lenK K) (by rfl) T.n_len (by decide +kernel) (pa_cons (pv 1) pa_nil)) pa_nil))) (fun _ _ => rfl)))))))))), ?_⟩
    rw [nil_lit]
    walk_at "tx"
    refine ⟨_, _, rfl, ?_⟩
    walk_at "tx"
    have emin : (if (wd.length : Int) < (most : Int) then (wd.length : Int) else (most : Int)) = ((min most wd.length : Nat) : Int) := by split <;> omega
    rw [emin]
    refine ⟨h, c, _, rfl, hT, by omega, log2_lt (by omega), fun r0 H1 a0 b0 hT1 k1 => ?_⟩
    walk_at "tx"
    refine ⟨h, c, (wd.length : Int) - (1 + r0) + 1, rfl, hT1, by omega, log2_lt (by omega), fun r1 H2 a1 b1 hT2 k2 => ?_⟩
    walk_at "tx"
    refine ⟨h, c, 8, rfl, hT2, by decide, log2_lt (by decide), fun r2 H3 a2 b2 hT3 k3 => ?_⟩
    have k03 : Kx h H H3 := (k1.kp.trans k2.kp).trans k3.kp
    walk_at "tx"
    refine RD.iteD (fun c1 => ?_) (fun c1 => ?_)
    · walk_at "tx"
      refine RD.d_cutS (a := r1.toNat) (b := (r1 + (1 + r0)).toNat) (by omega) (by omega) wz ?_
      refine k _ _ hT3 k03 ⟨?_, ?_, wl.piece _ _⟩
      · rw [WW.piece_length]; omega
      · rw [WW.piece_length]; omega
    · walk_at "tx"
      refine RD.d_m1 ?_
      walk_at "tx"
      refine ⟨⟨_, rfl⟩, ?_⟩
      walk_at "tx"
      refine ⟨_, rfl, by omega, by omega, fun D hD => ?_⟩
      have hD0 := hT3.free hD
      have sD := same_upd (o := HO.lst []) hD
      refine lc_range (lo := 0) (n := ((1 : Int) + r0).toNat) (fun i H' => ∃ qs, Dr H H' h c D i qs) ⟨[], ⟨hT3.same sD, k03.trans (Same.kx sD), upd_same, (fun _ z => nomatch z), rfl⟩⟩ ?_ ?_
      · rintro i H' il ⟨qs, d⟩
        walk_at "tx"
        refine ⟨h, c, wd.length, rfl, d.t, by omega, log2_lt (by omega), fun r5 H5 a5 b5 hT5 k5 => ?_⟩
        have r5l : r5.toNat < wd.length := by omega
        refine RD.d_ixS (a := r5.toNat) (c := wd[r5.toNat]) (by omega) wz (List.getElem?_eq_getElem r5l) ?_
        have eD5 : H5 D = some (.lst (WW.Ss qs)) := by rw [k5 D hD0.1]; exact d.e
        refine ⟨_, eD5, by rw [WW.Ss_len, d.n]; exact Nat.lt_of_lt_of_le (by omega : i < 101) (by decide), qs ++ [[wd[r5.toNat]]], ⟨hT5.upd hD0.1 hD0.2, (d.k.trans k5.kp).fresh (k03.free hD0.1 hD), by rw [upd_same, WW.Ss_app], d.o.snoc (wl _ (List.getElem_mem r5l)), by rw [List.length_append, d.n]; rfl⟩⟩
      · rintro H5 ⟨qs, d⟩
        have qn := d.n
        walk_at "tx"
        refine joined d.e d.o (by omega) ?_
        obtain ⟨f1, f2⟩ := d.o.flat
        exact k _ _ d.t d.k ⟨by omega, by omega, f2⟩
end

/-! ### unlike watches -/
/-- unlike watches, at most n -/
structure OkS (n : Nat) (ws : List WW.Wd) : Prop where
  len : ws.length ≤ n
  ok : ∀ w ∈ ws, IsW 12 w
  nd : ws.Nodup
theorem OkS.nil {n : Nat} : OkS n [] := ⟨Nat.zero_le _, (fun _ z => nomatch z), List.nodup_nil⟩
theorem OkS.mono {m n : Nat} {ws : List WW.Wd} (h : OkS m ws) (k : m ≤ n) : OkS n ws := ⟨Nat.le_trans h.len k, h.ok, h.nd⟩
theorem OkS.snoc {n : Nat} {ws : List WW.Wd} {w : WW.Wd} (h : OkS n ws) (hw : IsW 12 w) (m : w ∉ ws) : OkS (n + 1) (ws ++ [w]) :=
  ⟨by rw [List.length_append]; exact Nat.succ_le_succ h.len, fun v hv => (List.mem_append.mp hv).elim (h.ok v) (fun z => by rw [List.mem_singleton.mp z]; exact hw), WW.nodup_snoc h.nd m⟩
theorem map_erase {α β : Type} (f : α → β) (l : List α) (k : Nat) : (l.map f).eraseIdx k = (l.eraseIdx k).map f := by
  induction l generalizing k with
  | nil => rfl
  | cons a l ih =>
    cases k with
    | zero => rfl
    | succ k => simp [ih]
theorem OkS.sub {n : Nat} {ws vs : List WW.Wd} (h : OkS n ws) (s : vs.Sublist ws) : OkS n vs := ⟨Nat.le_trans s.length_le h.len, fun w m => h.ok w (s.subset m), h.nd.sublist s⟩
theorem OkS.put {n : Nat} {ws : List WW.Wd} {w : WW.Wd} (h : OkS n ws) (hw : IsW 12 w) (m : w ∉ ws) (i : Nat) : OkS (n + 1) (ws.take i ++ [w] ++ ws.drop i) := by
  have pm : (ws.take i ++ [w] ++ ws.drop i).Perm (ws ++ [w]) := by
    have e : ws ++ [w] = ws.take i ++ ws.drop i ++ [w] := by rw [List.take_append_drop]
    rw [e, List.append_assoc, List.append_assoc]
    exact List.Perm.append_left _ List.perm_append_comm
  have k := h.snoc hw m
  exact ⟨by rw [pm.length_eq]; exact k.len, fun v hv => k.ok v (pm.mem_iff.mp hv), pm.nodup_iff.mpr k.nd⟩
theorem same_put {H H' : Hp} {d : Addr} {o : HO} (s : Same H H') (n : H d = none) : Same H (upd H' d o) := fun b u e => by
  rw [upd_ne (ne_of_none e n)]; exact s _ _ e

/-! ### watches drawn from a word -/
def spWs : Sp := fun vs H Q _ => ∃ (h c : Addr) (w : WW.Wd) (many most : Nat), vs = [.ref h, .str (WW.S w), .int many, .int most] ∧ TapeAt H h c ∧ IsW 40 w ∧ many ≤ 12 ∧ 1 ≤ most ∧ most ≤ 12 ∧
  ∀ (p : Addr) (ws : List WW.Wd) (H' : Hp), TapeAt H' h c → Kx h H H' → H p = none → H' p = some (.lst (WW.Ss ws)) → OkS many ws → Q (.ref p) H'
/-- what is near to a spot -/
def near (ws : List WW.Wd) (w : WW.Wd) (s : Nat) : List Nat := (List.range (w.length + 1)).filter fun o => decide (o ≠ s ∧ WW.piece w (min s o) (max s o) ∈ ws)
theorem near_mem {ws : List WW.Wd} {w : WW.Wd} {s o : Nat} (n : ∀ v ∈ ws, v ≠ []) (hs : s ≤ w.length) : o ∈ near ws w s ↔ WW.Link ws w s o := by
  unfold near
  rw [List.mem_filter, List.mem_range, decide_eq_true_eq]
  constructor
  · rintro ⟨ol, ne, m⟩
    refine ⟨_, m, ?_⟩
    have e : (WW.piece w (min s o) (max s o)).length = max s o - min s o := by rw [WW.piece_length]; omega
    rcases Nat.lt_or_ge s o with c | c
    · refine .inl ⟨?_, by rw [e]; omega⟩
      unfold WW.Hit
      rw [e, show min s o = s from by omega, show max s o = o from by omega, show s + (o - s) = o from by omega]
    · refine .inr ⟨?_, by rw [e]; omega⟩
      unfold WW.Hit
      rw [e, show min s o = o from by omega, show max s o = s from by omega, show o + (s - o) = s from by omega]
  · rintro k
    have b := k.le n
    obtain ⟨v, m, ⟨h, rfl⟩ | ⟨h, rfl⟩⟩ := k
    · refine ⟨by omega, by omega, ?_⟩
      rw [show min s (s + v.length) = s from by omega, show max s (s + v.length) = s + v.length from by omega]
      unfold WW.Hit at h
      rw [h]; exact m
    · refine ⟨by omega, by omega, ?_⟩
      rw [show min (o + v.length) o = o from by omega, show max (o + v.length) o = o + v.length from by omega]
      unfold WW.Hit at h
      rw [h]; exact m
theorem near_up (ws : List WW.Wd) (w : WW.Wd) (s : Nat) : (near ws w s).Pairwise (· < ·) := List.Pairwise.filter _ List.pairwise_lt_range
def spNear (K : PySem.W.Frag) : Sp := fun vs H Q _ => ∃ (a : Addr) (ws : List WW.Wd) (w : WW.Wd) (s : Nat), vs = [.ref a, .str (WW.S w), .int s] ∧ SqL K H a (WW.Ss ws) ∧ w.length ≤ 100 ∧ s ≤ w.length ∧
  ∀ p H', Same H H' → H p = none → H' p = some (.lst (WW.Ns (near ws w s))) → Q (.ref p) H'
section
variable {P : Program} {w : World} {K : PySem.W.Frag} {mg : Str → Option Value} {base : Heap}
theorem ok_law_near (T : Top K mg) : FnOk P w K mg base CX0 1 T.f_law_near T.fd_law_near ["watches", "word", "spot"] (spNear K) := by
  refine T.F_law_near.ok sc_law_near (fun vs H Q E h => ?_) (fun cdv A outer s H vs Q E hr h => ?_)
  · obtain ⟨a, ws, l, s, rfl, _⟩ := h; rfl
  · obtain ⟨a, ws, l, s, rfl, sa, l9, sl, k⟩ := h
    have lz : l.length ≤ sizeLine := Nat.le_trans l9 (by decide)
    refine ⟨_, (pss_cons (ps_set (i := 3) sc_law_near.nd rfl (Or.inl rfl) (pe_lst pa_nil))
 (pss_cons (ps_for PassesOwn.never rfl (pi_range1 (by rfl) T.n_range (pa_cons (pe_op op_add (pe_callB RD.c_len (by rfl) T.n_len (by decide +kernel) (pa_cons (pv 1) pa_nil)) pe_int) pa_nil)) (pg_name (i := 4) sc_law_near.nd rfl (Or.inl rfl))
 (pss_one (ps_if (PW.pt (pw_and (pt_cmpR op_ne (pv 4) (pv 2) (nomark _)) (pw_and1 (pt_cmpR op_in_seq (pe_slice sl_str (pv 1) (po_some (pe_callB (call_min2 rfl) (by rfl) T.n_min (by decide +kernel) (pa_cons (pv 2) (pa_cons (pv 4) pa_nil)))) (po_some (pe_callB (call_max2 rfl) (by rfl) T.n_max (by decide +kernel) (pa_cons (pv 2) (pa_cons (pv 4) pa_nil))))) (pv 0) rfl))))
 (pss_one (ps_expr (pe_bm PySem.F.plainAttrs_list PySem.F.slot_list_append PySem.F.type_list_append mt_append (pv 3) (pa_cons (pv 4) pa_nil))))
 pss_nil)))
 (pss_one (ps_ret (pv 3))))), ?_⟩
    walk_at "tx"
    refine ⟨by show 0 ≤ sizeLine; decide, fun p hp => ?_⟩
    have s0 := same_upd (o := HO.lst []) hp
    have e0 : upd H p (.lst []) p = some (.lst (WW.Ns [])) := upd_same
    generalize upd H p (.lst []) = H0 at *
    walk_at "tx"
    refine ⟨_, rfl, by omega, by omega, ?_⟩
    rw [show ((l.length : Int) + 1).toNat = l.length + 1 from by omega]
    let f : Nat → Bool := fun o => decide (o ≠ s ∧ WW.piece l (min s o) (max s o) ∈ ws)
    refine RD.f_range (lo := 0) (n := l.length + 1) (fun i σ' H' => Same H H' ∧ H' p = some (.lst (WW.Ns ((List.range i).filter f))) ∧ ∃ v : Option V, σ' = [some (.ref a), some (.str (WW.S l)), some (.int s), some (.ref p), v])
      ⟨s0, e0, none, rfl⟩ ?_ ?_
    · rintro i σ' H1 il ⟨s1, e1, v, rfl⟩
      have rs : (List.range (i + 1)).filter f = (List.range i).filter f ++ (if f i = true then [i] else []) := by
        rw [List.range_succ, List.filter_append]
        congr 1
        by_cases c : f i = true
        · rw [if_pos c]; simp [c]
        · rw [if_neg c]; simp [c]
      have fl : ((List.range i).filter f).length ≤ 101 := Nat.le_trans (List.length_filter_le ..) (by rw [List.length_range]; omega)
      walk_at "tx"
      have ei : ((0 : Int) + i) = (i : Int) := by omega
      rw [ei]
      refine RD.iteN (fun c1 => ?_) (fun c1 => ?_)
      · walk_at "tx"
        refine ⟨_, _, rfl, ?_⟩
        walk_at "tx"
        refine ⟨_, _, rfl, ?_⟩
        walk_at "tx"
        have emin : (if (i : Int) < (s : Int) then (i : Int) else (s : Int)) = ((min s i : Nat) : Int) := by split <;> omega
        have emax : (if (i : Int) > (s : Int) then (i : Int) else (s : Int)) = ((max s i : Nat) : Int) := by split <;> omega
        refine RD.d_cutS (a := min s i) (b := max s i) emin emax lz ?_
        walk_at "tx"
        refine OQ.d_inSs (.inl (s1.seq sa)) ?_
        walk_at "tx"
        refine RD.iteD (fun c2 => ?_) (fun c2 => ?_)
        · walk_at "tx"
          refine ⟨RD.tyL e1, ?_⟩
          walk_at "tx"
          refine RD.d_app e1 (by rw [WW.Ns_len]; exact Nat.lt_of_le_of_lt fl (by decide)) ?_
          rw [WW.Ns_app]
          have fi : f i = true := decide_eq_true ⟨fun z => c1 (by rw [z]), c2⟩
          rw [if_pos fi] at rs
          exact ⟨fun b o e => by rw [upd_ne (ne_of_none e hp)]; exact s1 _ _ e, by rw [upd_same, rs], _, rfl⟩
        · walk_at "tx"
          have fi : ¬ f i = true := fun z => c2 (of_decide_eq_true z).2
          rw [if_neg fi, List.append_nil] at rs
          exact ⟨s1, by rw [rs]; exact e1, _, rfl⟩
      · walk_at "tx"
        have fi : ¬ f i = true := fun z => (of_decide_eq_true z).1 (by omega)
        rw [if_neg fi, List.append_nil] at rs
        exact ⟨s1, by rw [rs]; exact e1, _, rfl⟩
    · rintro σ' H1 ⟨s1, e1, v, rfl⟩
      walk_at "tx"
      exact k p H1 s1 hp e1
theorem ok_law_watches (T : Top K mg) : FnOk P w K mg base CX0 5 T.f_law_watches T.fd_law_watches ["tape", "word", "many", "most"] spWs := by
  refine T.F_law_watches.ok sc_law_watches (fun vs H Q E h => ?_) (fun cdv A outer s H vs Q E hr h => ?_)
  · obtain ⟨h, c, l, many, most, rfl, _⟩ := h; rfl
  · obtain ⟨h, c, l, many, most, rfl, hT, hl, m12, mo1, mo12, k⟩ := h
    have l1 := hl.lo
    have l40 := hl.hi
    have lz : l.length ≤ sizeLine := Nat.le_trans hl.hi (by decide)
    refine ⟨_, (pss_cons (ps_set (i := 4) sc_law_watches.nd rfl (Or.inl rfl) (pe_lst pa_nil))
 (C8.pss_cut (ps_if (PW.pt (pw_and (pt_cmpR op_gt (pv 2) pe_int (nomark _)) (pw_and (pt_cmpR op_gt (pe_callB RD.c_len (by rfl) T.n_len (by decide +kernel) (pa_cons (pv 1) pa_nil)) pe_int (nomark _)) (pw_and1 (pt_cmpR op_eq (pe_call (ok_law_pick T) (hr.mono (by decide)) (by rfl) T.g_law_pick T.F_law_pick.kp T.b_law_pick .nil pass0 (pa_cons (pv 0) (pa_cons pe_int pa_nil))) pe_int (nomark _))))))
 (pss_cons (ps_set (i := 5) sc_law_watches.nd rfl (Or.inl rfl) (pe_op op_add pe_int (pe_call (ok_law_pick T) (hr.mono (by decide)) (by rfl) T.g_law_pick T.F_law_pick.kp T.b_law_pick .nil pass0 (pa_cons (pv 0) (pa_cons (pe_op op_sub (pe_callB RD.c_len (by rfl) T.n_len (by decide +kernel) (pa_cons (pv 1) pa_nil)) pe_int) pa_nil)))))
 (pss_cons (ps_set (i := 6) sc_law_watches.nd rfl (Or.inl rfl) (pe_op op_add (pe_op op_add (pv 5) pe_int) (pe_call (ok_law_pick T) (hr.mono (by decide)) (by rfl) T.g_law_pick T.F_law_pick.kp T.b_law_pick .nil pass0 (pa_cons (pv 0) (pa_cons (pe_op op_sub (pe_op op_sub (pe_callB RD.c_len (by rfl) T.n_len (by decide +kernel) (pa_cons (pv 1) pa_nil)) (pv 5)) pe_int) pa_nil)))))
 (pss_cons (ps_for PassesOwn.never rfl (pi_list (pe_lst (pa_cons (pe_slice sl_str (pv 1) po_none (po_some (pv 6))) (pa_cons (pe_slice sl_str (pv 1) (po_some (pv 5)) (po_some (pv 6))) (pa_cons (pe_slice sl_str (pv 1) (po_some (pv 5)) po_none) pa_nil))))) (pg_name (i := 7) sc_law_watches.nd rfl (Or.inl rfl))
 (pss_one (ps_if (PW.pt (pw_and (pt_cmpR op_le (pe_callB RD.c_len (by rfl) T.n_len (by decide +kernel) (pa_cons (pv 7) pa_nil)) (pv 3) (nomark _)) (pw_and1 (pt_cmpR op_notIn_seq (pv 7) (pv 4) rfl))))
 (pss_one (ps_expr (pe_bm PySem.F.plainAttrs_list PySem.F.slot_list_append PySem.F.type_list_append mt_append (pv 4) (pa_cons (pv 7) pa_nil))))
 pss_nil)))
 (pss_one (ps_if (PW.pt (pw_and (pt_cmpR op_eq (pe_callB RD.c_len (by rfl) T.n_len (by decide +kernel) (pa_cons (pv 4) pa_nil)) pe_int (nomark _)) (pw_and1 (pt_cmpR op_gt (pe_call (ok_law_pick T) (hr.mono (by decide)) (by rfl) T.g_law_pick T.F_law_pick.kp T.b_law_pick .nil pass0 (pa_cons (pv 0) (pa_cons pe_int pa_nil))) pe_int (nomark _)))))
 (pss_one (ps_ret (pv 4)))
 pss_nil)))))
 pss_nil)
 (pss_cons (ps_for PassesOwn.never rfl (pi_range1 (by rfl) T.n_range (pa_cons (pe_op op_sub (pv 2) (pe_callB RD.c_len (by rfl) T.n_len (by decide +kernel) (pa_cons (pv 4) pa_nil))) pa_nil)) (pg_name (i := 8) sc_law_watches.nd rfl (Or.inl rfl))
 (pss_cons (ps_set (i := 9) sc_law_watches.nd rfl (Or.inl rfl) (pe_call (ok_law_watch T) (hr.mono (by decide)) (by rfl) T.g_law_watch T.F_law_watch.kp T.b_law_watch .nil pass0 (pa_cons (pv 0) (pa_cons (pv 1) (pa_cons (pv 3) pa_nil)))))
 (pss_one (ps_if (pt_cmpR op_notIn_seq (pv 9) (pv 4) rfl)
 (pss_one (ps_expr (pe_bm PySem.F.plainAttrs_list PySem.F.slot_list_append PySem.F.type_list_append mt_append (pv 4) (pa_cons (pv 9) pa_nil))))
 pss_nil))))
 (pss_one (ps_ret (pv 4)))))), ?_⟩
    walk_at "tx"
    refine ⟨by show 0 ≤ sizeLine; decide, fun p hp => ?_⟩
    obtain ⟨np, npc⟩ := hT.free hp
    have hT1 := hT.same (same_upd (o := HO.lst []) hp)
    have k1 : Kx h H (upd H p (.lst [])) := Same.kx (same_upd hp)
    have e1 : upd H p (.lst []) p = some (.lst (WW.Ss [])) := upd_same
    generalize upd H p (.lst []) = H1 at *
    walk_at "tx"
    refine RD.d_cut (fun σ' H' => TapeAt H' h c ∧ Kx h H H' ∧ ∃ (ws : List WW.Wd) (v5 v6 v7 : Option V), H' p = some (.lst (WW.Ss ws)) ∧ OkS many ws ∧ σ' = [some (.ref h), some (.str (WW.S l)), some (.int many), some (.int most), some (.ref p), v5, v6, v7, none, none]) ?_ ?_
    · walk_at "tx"
      refine RD.iteD (fun c1 => ?_) (fun c1 => ?_)
      · walk_at "tx"
        refine RD.iteD (fun c2 => ?_) (fun c2 => ?_)
        · walk_at "tx"
          refine ⟨h, c, 2, rfl, hT1, by decide, log2_lt (by decide), fun r2 H2 a2 b2 hT2 k2 => ?_⟩
          have k12 := k1.trans k2.kp
          have e2 : H2 p = some (.lst (WW.Ss [])) := by rw [k2 p np]; exact e1
          walk_at "tx"
          refine RD.iteD (fun c3 => ?_) (fun c3 => ?_)
          · walk_at "tx"
            refine ⟨h, c, (l.length : Int) - 2, rfl, hT2, by omega, log2_lt (by omega), fun r3 H3 a3 b3 hT3 k3 => ?_⟩
            walk_at "tx"
            refine ⟨h, c, (l.length : Int) - (1 + r3) - 1, rfl, hT3, by omega, log2_lt (by omega), fun r4 H4 a4 b4 hT4 k4 => ?_⟩
            have e4 : H4 p = some (.lst (WW.Ss [])) := by rw [k4 p np, k3 p np]; exact e2
            have k14 : Kx h H H4 := (k12.trans k3.kp).trans k4.kp
            walk_at "tx"
            refine RD.d_cutSHi (b := (1 + r3 + 1 + r4).toNat) (by omega) lz ?_
            walk_at "tx"
            refine RD.d_cutS (a := (1 + r3).toNat) (b := (1 + r3 + 1 + r4).toNat) (by omega) (by omega) lz ?_
            walk_at "tx"
            refine RD.d_cutSLo (a := (1 + r3).toNat) (by omega) lz ?_
            walk_at "tx"
            refine ⟨by show 3 ≤ sizeLine; decide, fun u hu => ?_⟩
            have lo := (1 + r3).toNat
            have pcs : ∀ x ∈ [l.take (1 + r3 + 1 + r4).toNat, WW.piece l (1 + r3).toNat (1 + r3 + 1 + r4).toNat, l.drop (1 + r3).toNat], 1 ≤ x.length ∧ x.length ≤ 40 ∧ WW.Lw x := by
              intro x mx
              rcases List.mem_cons.mp mx with rfl | mx
              · exact ⟨by rw [List.length_take]; omega, by rw [List.length_take]; omega, hl.lw.take _⟩
              rcases List.mem_cons.mp mx with rfl | mx
              · exact ⟨by rw [WW.piece_length]; omega, by rw [WW.piece_length]; omega, hl.lw.piece _ _⟩
              · rw [List.mem_singleton.mp mx]
                exact ⟨by rw [List.length_drop]; omega, by rw [List.length_drop]; omega, hl.lw.drop _⟩
            have nu : u ≠ p := (ne_of_none e4 hu).symm
            have hT5 := hT4.same (same_upd (o := HO.lst [V.str (WW.S (l.take (1 + r3 + 1 + r4).toNat)), V.str (WW.S (WW.piece l (1 + r3).toNat (1 + r3 + 1 + r4).toNat)), V.str (WW.S (l.drop (1 + r3).toNat))]) hu)
            have k15 : Kx h H (upd H4 u (.lst [V.str (WW.S (l.take (1 + r3 + 1 + r4).toNat)), V.str (WW.S (WW.piece l (1 + r3).toNat (1 + r3 + 1 + r4).toNat)), V.str (WW.S (l.drop (1 + r3).toNat))])) := k14.trans (Same.kx (same_upd hu))
            have e5 : upd H4 u (.lst [V.str (WW.S (l.take (1 + r3 + 1 + r4).toNat)), V.str (WW.S (WW.piece l (1 + r3).toNat (1 + r3 + 1 + r4).toNat)), V.str (WW.S (l.drop (1 + r3).toNat))]) p = some (.lst (WW.Ss [])) := by rw [upd_ne nu.symm]; exact e4
            have eu : upd H4 u (.lst [V.str (WW.S (l.take (1 + r3 + 1 + r4).toNat)), V.str (WW.S (WW.piece l (1 + r3).toNat (1 + r3 + 1 + r4).toNat)), V.str (WW.S (l.drop (1 + r3).toNat))]) u = some (.lst (WW.Ss [l.take (1 + r3 + 1 + r4).toNat, WW.piece l (1 + r3).toNat (1 + r3 + 1 + r4).toNat, l.drop (1 + r3).toNat])) := upd_same
            generalize upd H4 u (.lst [V.str (WW.S (l.take (1 + r3 + 1 + r4).toNat)), V.str (WW.S (WW.piece l (1 + r3).toNat (1 + r3 + 1 + r4).toNat)), V.str (WW.S (l.drop (1 + r3).toNat))]) = H5 at *
            generalize hm : [l.take (1 + r3 + 1 + r4).toNat, WW.piece l (1 + r3).toNat (1 + r3 + 1 + r4).toNat, l.drop (1 + r3).toNat] = md at *
            have ml : md.length = 3 := by rw [← hm]; rfl
            clear hm lo
            walk_at "tx"
            refine RD.f_list (K := K) (a := u) (xs := WW.Ss md) (fun i σ' H' => TapeAt H' h c ∧ Kx h H H' ∧ H' u = some (.lst (WW.Ss md)) ∧ ∃ (qs : List WW.Wd) (v7 : Option V), H' p = some (.lst (WW.Ss qs)) ∧ OkS i qs ∧ σ' = [some (.ref h), some (.str (WW.S l)), some (.int many), some (.int most), some (.ref p), some (.int (1 + r3)), some (.int (1 + r3 + 1 + r4)), v7, none, none])
              ⟨hT5, k15, eu, [], none, e5, .nil, rfl⟩ ?_ ?_ ?_
            · rintro i σ' H' _ ⟨_, _, q, _⟩
              exact SqL.of q
            · rintro i y σ' H6 hy ⟨hT6, k6, eu6, qs, v7, e6, ok6, rfl⟩
              obtain ⟨wd, ew, rfl⟩ := WW.Ss_get hy
              have il := (List.getElem?_eq_some_iff.mp ew).1
              obtain ⟨w1, w40, wl⟩ := pcs wd (List.mem_of_getElem? ew)
              have wz : wd.length ≤ sizeLine := Nat.le_trans w40 (by decide)
              walk_at "tx"
              refine RD.iteD (fun c4 => ?_) (fun c4 => ?_)
              · walk_at "tx"
                refine OQ.d_notInSs (.inl (SqL.of e6)) ?_
                walk_at "tx"
                refine RD.iteN (fun c5 => ?_) (fun c5 => ?_)
                · walk_at "tx"
                  refine ⟨RD.tyL e6, ?_⟩
                  walk_at "tx"
                  refine RD.d_app e6 (by rw [WW.Ss_len]; exact Nat.lt_of_le_of_lt ok6.len (Nat.lt_of_lt_of_le (by omega : i < 4) (by decide))) ?_
                  rw [WW.Ss_app]
                  exact ⟨hT6.upd np npc, k6.fresh hp, by rw [upd_ne nu]; exact eu6, _, _, upd_same, ok6.snoc ⟨w1, by omega, wl⟩ c5, rfl⟩
                · walk_at "tx"
                  exact ⟨hT6, k6, eu6, qs, _, e6, ok6.mono (Nat.le_succ _), rfl⟩
              · walk_at "tx"
                exact ⟨hT6, k6, eu6, qs, _, e6, ok6.mono (Nat.le_succ _), rfl⟩
            · rintro σ' H6 ⟨hT6, k6, eu6, qs, v7, e6, ok6, rfl⟩
              rw [WW.Ss_len, ml] at ok6
              walk_at "tx"
              rw [WW.Ss_len]
              have okm : OkS many qs := ok6.mono (by omega)
              refine RD.iteD (fun c4 => ?_) (fun c4 => ?_)
              · walk_at "tx"
                refine ⟨h, c, 3, rfl, hT6, by decide, log2_lt (by decide), fun r7 H7 a7 b7 hT7 k7 => ?_⟩
                have e7 : H7 p = some (.lst (WW.Ss qs)) := by rw [k7 p np]; exact e6
                have k17 := k6.trans k7.kp
                walk_at "tx"
                refine RD.iteD (fun c5 => ?_) (fun c5 => ?_)
                · walk_at "tx"
                  exact k p qs H7 hT7 k17 hp e7 okm
                · walk_at "tx"
                  exact ⟨hT7, k17, qs, _, _, _, e7, okm, rfl⟩
              · walk_at "tx"
                exact ⟨hT6, k6, qs, _, _, _, e6, okm, rfl⟩
          · walk_at "tx"
            exact ⟨hT2, k12, [], _, _, _, e2, .nil, rfl⟩
        · walk_at "tx"
          exact ⟨hT1, k1, [], _, _, _, e1, .nil, rfl⟩
      · walk_at "tx"
        exact ⟨hT1, k1, [], _, _, _, e1, .nil, rfl⟩
    · rintro σ' H2 ⟨hT2, k2, ws, v5, v6, v7, e2, ok, rfl⟩
      have wl := ok.len
      walk_at "tx"
      refine ⟨_, rfl, by rw [WW.Ss_len]; omega, by rw [WW.Ss_len]; omega, ?_⟩
      rw [WW.Ss_len]
      refine RD.f_range (lo := 0) (n := ((many : Int) - ws.length).toNat) (fun i σ' H' => TapeAt H' h c ∧ Kx h H H' ∧ ∃ (qs : List WW.Wd) (v8 v9 : Option V), H' p = some (.lst (WW.Ss qs)) ∧ OkS (ws.length + i) qs ∧ σ' = [some (.ref h), some (.str (WW.S l)), some (.int many), some (.int most), some (.ref p), v5, v6, v7, v8, v9])
        ⟨hT2, k2, ws, none, none, e2, ⟨Nat.le_refl _, ok.ok, ok.nd⟩, rfl⟩ ?_ ?_
      · rintro i σ' H3 il ⟨hT3, k3, qs, v8, v9, e3, okq, rfl⟩
        walk_at "tx"
        refine ⟨h, c, l, 40, most, rfl, hT3, mo1, by omega, hl, by decide, fun wd H4 hT4 k4 hw => ?_⟩
        have e4 := k4 _ _ np e3
        walk_at "tx"
        refine OQ.d_notInSs (.inl (SqL.of e4)) ?_
        walk_at "tx"
        refine RD.iteN (fun c2 => ?_) (fun c2 => ?_)
        · walk_at "tx"
          refine ⟨RD.tyL e4, ?_⟩
          walk_at "tx"
          refine RD.d_app e4 (by rw [WW.Ss_len]; exact Nat.lt_of_le_of_lt okq.len (Nat.lt_of_lt_of_le (by omega : ws.length + i < 13) (by decide))) ?_
          rw [WW.Ss_app]
          exact ⟨hT4.upd np npc, (k3.trans k4).fresh hp, _, _, _, upd_same, okq.snoc (hw.mono mo12) c2, rfl⟩
        · walk_at "tx"
          exact ⟨hT4, k3.trans k4, qs, _, _, e4, okq.mono (by omega), rfl⟩
      · rintro σ' H3 ⟨hT3, k3, qs, v8, v9, e3, okq, rfl⟩
        walk_at "tx"
        have := ok.len
        exact k p qs H3 hT3 k3 hp e3 (okq.mono (by omega))
end

/-! ### watches in another order -/
def spMixed (K : PySem.W.Frag) : Sp := fun vs H Q _ => ∃ (h c a : Addr) (ws : List WW.Wd), vs = [.ref h, .ref a] ∧ TapeAt H h c ∧ a ≠ h ∧ H a = some (.lst (WW.Ss ws)) ∧ ws.length ≤ 100 ∧
  ∀ (p : Addr) (qs : List WW.Wd) (H' : Hp), TapeAt H' h c → Kx h H H' → H p = none → H' p = some (.lst (WW.Ss qs)) → qs.Perm ws → Q (.ref p) H'
theorem erase_perm {α : Type} : ∀ (l : List α) (k : Nat) (x : α), l[k]? = some x → (x :: l.eraseIdx k).Perm l
  | [], _, _, h => by simp at h
  | a :: l, 0, x, h => by cases h; exact List.Perm.refl _
  | a :: l, k + 1, x, h => (List.Perm.swap a x _).trans ((erase_perm l k x h).cons a)
section
variable {P : Program} {w : World} {K : PySem.W.Frag} {mg : Str → Option Value} {base : Heap}
theorem ok_law_mixed (T : Top K mg) : FnOk P w K mg base CX0 3 T.f_law_mixed T.fd_law_mixed ["tape", "things"] (spMixed K) := by
  refine T.F_law_mixed.ok sc_law_mixed (fun vs H Q E h => ?_) (fun cdv A outer s H vs Q E hr h => ?_)
  · obtain ⟨h, c, a, ws, rfl, _⟩ := h; rfl
  · obtain ⟨h, c, a, ws, rfl, hT, na, ea, wl, k⟩ := h
    refine ⟨_, (pss_cons (ps_set (i := 2) sc_law_mixed.nd rfl (Or.inl rfl) (pe_callTy call_list_of (by rfl) T.n_list (by decide +kernel) (pa_cons (pv 1) pa_nil)))
 (pss_cons (ps_set (i := 3) sc_law_mixed.nd rfl (Or.inl rfl) (pe_lst pa_nil))
 (pss_cons (ps_for PassesOwn.never rfl (pi_range1 (by rfl) T.n_range (pa_cons (pe_callB RD.c_len (by rfl) T.n_len (by decide +kernel) (pa_cons (pv 1) pa_nil)) pa_nil)) (pg_name (i := 4) sc_law_mixed.nd rfl (Or.inl rfl))
 (pss_one (ps_expr (pe_bm PySem.F.plainAttrs_list PySem.F.slot_list_append PySem.F.type_list_append mt_append (pv 3) (pa_cons (pe_bm PySem.F.plainAttrs_list PySem.F.slot_list_pop PySem.F.type_list_pop mt_popAt (pv 2) (pa_cons (pe_call (ok_law_pick T) (hr.mono (by decide)) (by rfl) T.g_law_pick T.F_law_pick.kp T.b_law_pick .nil pass0 (pa_cons (pv 0) (pa_cons (pe_callB RD.c_len (by rfl) T.n_len (by decide +kernel) (pa_cons (pv 2) pa_nil)) pa_nil))) pa_nil)) pa_nil)))))
 (pss_one (ps_ret (pv 3)))))), ?_⟩
    walk_at "tx"
    refine ⟨a, _, rfl, .inl (SqL.of ea), fun q hq => ?_⟩
    obtain ⟨qh, qc⟩ := hT.free hq
    have hT1 := hT.same (same_upd (o := HO.lst (WW.Ss ws)) hq)
    have k1 : Kx h H (upd H q (.lst (WW.Ss ws))) := Same.kx (same_upd hq)
    have eq1 : upd H q (.lst (WW.Ss ws)) q = some (.lst (WW.Ss ws)) := upd_same
    generalize upd H q (.lst (WW.Ss ws)) = H1 at *
    walk_at "tx"
    refine ⟨by show 0 ≤ sizeLine; decide, fun p hp => ?_⟩
    have hp0 := k1.free (hT1.free hp).1 hp
    obtain ⟨ph, pc⟩ := hT1.free hp
    have nqp : q ≠ p := ne_of_none eq1 hp
    have hT2 := hT1.same (same_upd (o := HO.lst []) hp)
    have k2 : Kx h H (upd H1 p (.lst [])) := k1.trans (Same.kx (same_upd hp))
    have eq2 : upd H1 p (.lst []) q = some (.lst (WW.Ss ws)) := by rw [upd_ne nqp]; exact eq1
    have ep2 : upd H1 p (.lst []) p = some (.lst (WW.Ss [])) := upd_same
    generalize upd H1 p (.lst []) = H2 at *
    walk_at "tx"
    refine RD.d_lenL (SqL.of (k2 a _ na ea)) ?_
    walk_at "tx"
    refine ⟨_, rfl, by rw [WW.Ss_len]; omega, by rw [WW.Ss_len]; omega, ?_⟩
    rw [WW.Ss_len, show ((ws.length : Int)).toNat = ws.length from by omega]
    refine RD.f_range (lo := 0) (n := ws.length) (fun i σ' H' => TapeAt H' h c ∧ Kx h H H' ∧ ∃ (ls ms : List WW.Wd) (v : Option V), H' q = some (.lst (WW.Ss ls)) ∧ H' p = some (.lst (WW.Ss ms)) ∧ (ms ++ ls).Perm ws ∧ ms.length = i ∧ σ' = [some (.ref h), some (.ref a), some (.ref q), some (.ref p), v])
      ⟨hT2, k2, ws, [], none, eq2, ep2, List.Perm.refl _, rfl, rfl⟩ ?_ ?_
    · rintro i σ' H3 il ⟨hT3, k3, ls, ms, v, eq3, ep3, pm, ml, rfl⟩
      have tot := pm.length_eq
      rw [List.length_append] at tot
      walk_at "tx"
      refine ⟨RD.tyL ep3, ?_⟩
      walk_at "tx"
      refine ⟨RD.tyL eq3, ?_⟩
      walk_at "tx"
      rw [WW.Ss_len]
      refine ⟨h, c, ls.length, rfl, hT3, by omega, log2_lt (by omega), fun r0 H4 a4 b4 hT4 k4 => ?_⟩
      have eq4 : H4 q = some (.lst (WW.Ss ls)) := by rw [k4 q qh]; exact eq3
      have ep4 : H4 p = some (.lst (WW.Ss ms)) := by rw [k4 p ph]; exact ep3
      have rl : r0.toNat < ls.length := by omega
      walk_at "tx"
      refine ⟨q, _, r0, r0.toNat, .str (WW.S ls[r0.toNat]), rfl, rfl, eq4, by omega, by omega, by rw [WW.Ss_len]; exact seqIndex_of a4 b4, by unfold WW.Ss; rw [List.getElem?_map, List.getElem?_eq_getElem rl]; rfl, ?_⟩
      have es : (WW.Ss ls).eraseIdx r0.toNat = WW.Ss (ls.eraseIdx r0.toNat) := by unfold WW.Ss; exact map_erase _ _ _
      rw [es]
      have ep5 : upd H4 q (.lst (WW.Ss (ls.eraseIdx r0.toNat))) p = some (.lst (WW.Ss ms)) := by rw [upd_ne nqp.symm]; exact ep4
      walk_at "tx"
      refine RD.d_app ep5 (by rw [WW.Ss_len]; exact Nat.lt_of_le_of_lt (by omega : ms.length ≤ 100) (by decide)) ?_
      rw [WW.Ss_app]
      have hq0 : H q = none := hq
      refine ⟨(hT4.upd qh qc).upd ph pc, ((k3.trans k4.kp).fresh hq0).fresh hp0, ls.eraseIdx r0.toNat, _, _, by rw [upd_ne nqp, upd_same], upd_same, ?_, by rw [List.length_append, ml]; rfl, rfl⟩
      rw [List.append_assoc]
      exact (List.Perm.append_left _ (erase_perm ls r0.toNat _ (List.getElem?_eq_getElem rl))).trans pm
    · rintro σ' H3 ⟨hT3, k3, ls, ms, v, eq3, ep3, pm, ml, rfl⟩
      walk_at "tx"
      have tot := pm.length_eq
      rw [List.length_append] at tot
      have : ls = [] := List.length_eq_zero_iff.mp (by omega)
      subst this
      rw [List.append_nil] at pm
      exact k p ms H3 hT3 k3 hp0 ep3 pm
end

/-! ### the class of a spot -/
open WW (Ns)
def spCls (K : PySem.W.Frag) : Sp := fun vs H Q _ => ∃ (L : Addr) (n g : Nat) (rows : Nat → List Nat), vs = [.ref L, .int g] ∧ RowsAt H L n rows ∧ (∀ i j, j ∈ rows i → j < n) ∧ g < n ∧ n ≤ 41 ∧
  ∀ H' t, Same H H' → H t = none → H' t = some (.tup (Ns (WW.cl (fun i j => j ∈ rows i) n g))) → Q (.ref t) H'
section
variable {P : Program} {w : World} {K : PySem.W.Frag} {mg : Str → Option Value} {base : Heap}
theorem ok_class_of (T : Top K mg) : FnOk P w K mg base CX0 2 T.f_class_of T.fd_class_of ["links", "spot"] (spCls K) := by
  refine T.F_class_of.ok sc_class_of (fun vs H Q E h => ?_) (fun cdv A outer s H vs Q E hr h => ?_)
  · obtain ⟨L, n, g, rows, rfl, _⟩ := h; rfl
  · obtain ⟨L, n, g, rows, rfl, R, lt, hg, n41, k⟩ := h
    refine ⟨_, (pss_one (ps_ret (pe_callTy (OQ.tupK K) (by rfl) T.n_tuple (by decide +kernel) (pa_cons (pe_callB (call_sortedDI rfl) (by rfl) T.n_sorted (by decide +kernel) (pa_cons (pe_call (ok_steps_to T) (hr.mono (by decide)) (by rfl) T.g_steps_to T.F_steps_to.kp T.b_steps_to .nil pass0 (pa_cons (pv 0) (pa_cons (pv 1) pa_nil))) pa_nil)) pa_nil)))), ?_⟩
    walk_at "tx"
    refine ⟨L, n, g, rows, rfl, R, lt, hg, n41, fun H1 d ps s1 hd ed hp nd => ?_⟩
    walk_at "tx"
    have lim : ∀ v, v ∈ ps.map (·.1) → v < n := fun v m => by
      cases e : WW.look ps v with
      | none => exact absurd m (WW.look_none.mp e)
      | some r =>
        have dv := (hp v r).mp e
        cases r with
        | zero => have : v = g := dv.1; omega
        | succ r =>
          obtain ⟨u, _, z⟩ := dv.back
          exact lt u v z
    have len : (ps.map (·.1)).length ≤ 41 := Nat.le_trans (WW.nodup_len n _ nd lim) n41
    refine ⟨d, WW.Dk ps, (ps.map (·.1)).map fun (j : Nat) => (j : Int), rfl, .inl ed, by unfold WW.Dk; rw [List.map_map, List.map_map, List.map_map]; rfl, by rw [List.length_map]; omega, fun ys q pm so hq => ?_⟩
    obtain ⟨ms, rfl, mem, up⟩ := WW.sorted_nats pm so nd
    have eL : upd H1 q (.lst ((ms.map fun (j : Nat) => (j : Int)).map V.int)) q = some (.lst (Ns ms)) := by rw [upd_same, List.map_map]; rfl
    have s2 := same_upd (o := HO.lst ((ms.map fun (j : Nat) => (j : Int)).map V.int)) hq
    generalize upd H1 q (.lst ((ms.map fun (j : Nat) => (j : Int)).map V.int)) = H2 at *
    have eq : ms = WW.cl (fun i j => j ∈ rows i) n g := WW.cl_of up (fun v => by
      rw [mem]
      constructor
      · intro m
        cases e : WW.look ps v with
        | none => exact absurd m (WW.look_none.mp e)
        | some r => exact ⟨r, ((hp v r).mp e).1⟩
      · intro c
        obtain ⟨r, dr⟩ := c.ds
        have := (hp v r).mpr dr
        exact Classical.not_not.mp fun z => by rw [WW.look_none.mpr z] at this; cases this) fun v c => by
        obtain ⟨r, dr⟩ := c.ds
        have := (hp v r).mpr dr
        exact lim v (Classical.not_not.mp fun z => by rw [WW.look_none.mpr z] at this; cases this)
    subst eq
    walk_at "tx"
    exact ⟨q, _, rfl, .inl ⟨SqL.of eL, fun t ht => k _ t ((s1.trans s2).trans (same_upd ht)) ((s1.trans s2).free ht) upd_same⟩⟩
end

/-! ### classes -/
open WW (Ns)
def spClss (K : PySem.W.Frag) (C : Addr) : Sp := fun vs H Q _ => ∃ (x : Addr) (ws : List WW.Wd) (l : WW.Wd), vs = [.ref x, .str (WW.S l)] ∧ BookAt K C H x ws ∧ Okw ws ∧ IsW 40 l ∧
  ∀ (H' : Hp) (p : Addr) (ts : List Addr), Same H H' → H p = none → H' p = some (.lst (ts.map V.ref)) → WW.TupsAt H' ts (WW.cls (WW.Link ws l) (l.length + 1) (l.length + 1)) → Q (.ref p) H'
section
variable {P : Program} {w : World} {K : PySem.W.Frag} {mg : Str → Option Value} {base : Heap}
theorem ok_classes (T : Top K mg) : FnOk P w K mg base CX0 7 T.f_classes T.fd_classes ["book", "word"] (spClss K T.C_Book) := by
  refine T.F_classes.ok sc_classes (fun vs H Q E h => ?_) (fun cdv A outer s H vs Q E hr h => ?_)
  · obtain ⟨x, ws, l, rfl, _⟩ := h; rfl
  · obtain ⟨x, ws, l, rfl, b, ok, hl, k⟩ := h
    have l40 := hl.hi
    refine ⟨_, (pss_cons (ps_expr (pe_call (ok_check_asked T) (hr.mono (by decide)) (by rfl) T.g_check_asked T.F_check_asked.kp T.b_check_asked .nil pass0 (pa_cons (pv 0) (pa_cons (pv 1) pa_nil))))
 (pss_cons (ps_set (i := 2) sc_classes.nd rfl (Or.inl rfl) (pe_call (ok_links_of T) (hr.mono (by decide)) (by rfl) T.g_links_of T.F_links_of.kp T.b_links_of .nil pass0 (pa_cons (pv 0) (pa_cons (pv 1) pa_nil))))
 (pss_cons (ps_set (i := 3) sc_classes.nd rfl (Or.inl rfl) (pe_lst pa_nil))
 (pss_cons (ps_for PassesOwn.never rfl (pi_range1 (by rfl) T.n_range (pa_cons (pe_callB (OQ.lenK K) (by rfl) T.n_len (by decide +kernel) (pa_cons (pv 2) pa_nil)) pa_nil)) (pg_name (i := 4) sc_classes.nd rfl (Or.inl rfl))
 (pss_cons (ps_set (i := 5) sc_classes.nd rfl (Or.inl rfl) (pe_call (ok_class_of T) (hr.mono (by decide)) (by rfl) T.g_class_of T.F_class_of.kp T.b_class_of .nil pass0 (pa_cons (pv 2) (pa_cons (pv 4) pa_nil))))
 (pss_one (ps_if (pt_cmpR op_eq (pe_ix ix_tup (pv 5) pe_int (fun _ _ => rfl)) (pv 4) (nomark _))
 (pss_one (ps_expr (pe_bm PySem.F.plainAttrs_list PySem.F.slot_list_append PySem.F.type_list_append mt_append (pv 3) (pa_cons (pv 5) pa_nil))))
 pss_nil))))
 (pss_one (ps_ret (pv 3))))))), ?_⟩
    walk_at "tx"
    refine ⟨x, ws, l, rfl, b, hl, fun H1 s1 => ?_⟩
    walk_at "tx"
    refine ⟨x, ws, l, rfl, b.same s1, ok, hl, fun H2 L rows s2 hL R lk => ?_⟩
    have eE : (fun i j => j ∈ rows i) = WW.Link ws l := funext fun i => funext fun j => propext (lk.mem i j)
    walk_at "tx"
    refine ⟨by show 0 ≤ sizeLine; decide, fun p hp => ?_⟩
    have s12 := s1.trans s2
    have hp0 := s12.free hp
    have s3 := s12.trans (same_upd (o := HO.lst []) hp)
    have ep : upd H2 p (.lst []) p = some (.lst (([] : List Addr).map V.ref)) := upd_same
    have s23 : Same H2 (upd H2 p (.lst [])) := same_upd hp
    generalize upd H2 p (.lst []) = H3 at *
    obtain ⟨rs, h1, h2, h3⟩ := R
    walk_at "tx"
    refine RD.d_lenL (SqL.of (s23 _ _ h2)) ?_
    walk_at "tx"
    have R2 : RowsAt H2 L (l.length + 1) rows := ⟨rs, h1, h2, h3⟩
    refine ⟨_, rfl, by rw [List.length_map, h1]; omega, by rw [List.length_map, h1]; omega, ?_⟩
    rw [List.length_map, h1, show (((l.length + 1 : Nat) : Int)).toNat = l.length + 1 from by omega]
    refine RD.f_range (lo := 0) (n := l.length + 1) (fun i σ' H' => Same H2 H' ∧ (∃ ts, H' p = some (.lst (ts.map V.ref)) ∧ WW.TupsAt H' ts (WW.cls (WW.Link ws l) (l.length + 1) i)) ∧ ∃ v4 v5 : Option V, σ' = [some (.ref x), some (.str (WW.S l)), some (.ref L), some (.ref p), v4, v5])
      ⟨s23, ⟨[], ep, WW.TupsAt.nil⟩, _, _, rfl⟩ ?_ ?_
    · rintro i σ' H4 il ⟨s4, ⟨ts, ep4, tt⟩, v4, v5, rfl⟩
      walk_at "tx"
      refine ⟨L, l.length + 1, i, rows, by rw [Int.zero_add]; rfl, R2.same s4, fun u v m => ?_, il, by omega, fun H5 t s5 ht et => ?_⟩
      · have := (((lk.mem u v).mp m).le ok.ne).2.1
        omega
      rw [eE] at et
      have ep5 := s5 _ _ ep4
      have tt5 := tt.same s5
      have s45 := s4.trans s5
      have ne : WW.cl (WW.Link ws l) (l.length + 1) i ≠ [] := WW.cl_ne il
      have le := WW.cls_len (WW.Link ws l) (l.length + 1) i
      have su := WW.cls_succ (WW.Link ws l) (l.length + 1) i
      generalize hm : WW.cl (WW.Link ws l) (l.length + 1) i = ms at *
      cases ms with
      | nil => exact absurd rfl ne
      | cons m0 ms =>
        walk_at "tx"
        refine RD.d_ixT (SqT.of et) (atI_nat (j := 0) (v := .int (m0 : Nat)) rfl) ?_
        walk_at "tx"
        refine RD.iteD (fun c => ?_) (fun c => ?_)
        · have cm : m0 = i := by omega
          subst cm
          rw [if_pos (show (m0 :: ms)[0]? = some m0 from rfl)] at su
          walk_at "tx"
          refine ⟨RD.tyL ep5, ?_⟩
          walk_at "tx"
          have tl : ts.length ≤ 41 := by have := WW.cls_len (WW.Link ws l) (l.length + 1) m0; rw [tt5.1]; omega
          have pfree : H2 p = none := hp
          have tun : WW.Tu H5 (upd H5 p (.lst (ts.map V.ref ++ [V.ref t]))) := fun b q z => by
            rw [upd_ne (fun y => by rw [y, ep5] at z; cases z)]; exact z
          refine ⟨p, _, V.ref t, rfl, rfl, ep5, by rw [List.length_map]; exact Nat.lt_of_le_of_lt tl (by decide), ?_⟩
          refine ⟨fun b o e => ?_, ⟨ts ++ [t], by rw [upd_same, List.map_append]; rfl, by rw [su]; exact (tt5.tu tun).snoc (tun _ _ et)⟩, _, _, rfl⟩
          rw [upd_ne (ne_of_none e pfree)]; exact s45 _ _ e
        · have cm : m0 ≠ i := fun z => c (by rw [z]; omega)
          rw [if_neg (fun z => cm (by simpa using z)), List.append_nil] at su
          walk_at "tx"
          exact ⟨s45, ⟨ts, ep5, by rw [su]; exact tt5⟩, _, _, rfl⟩
    · rintro σ' H4 ⟨s4, ⟨ts, ep4, tt⟩, v4, v5, rfl⟩
      walk_at "tx"
      exact k _ _ ts (s12.trans s4) hp0 ep4 tt
end

/-! ### the law's own flood -/
open WW (Ns)
def spFlood (K : PySem.W.Frag) : Sp := fun vs H Q _ => ∃ (a : Addr) (ws : List WW.Wd) (l : WW.Wd) (g : Nat), vs = [.ref a, .str (WW.S l), .int g] ∧ H a = some (.lst (WW.Ss ws)) ∧ l.length ≤ 40 ∧ (∀ w ∈ ws, w ≠ []) ∧ g ≤ l.length ∧
  ∀ p H', Same H H' → H p = none → H' p = some (.lst (Ns (WW.cl (WW.Link ws l) (l.length + 1) g))) → Q (.ref p) H'
/-- what is found: unlike spots that the first one leads to, the neighbours of the first k among them -/
structure Fl (E : Nat → Nat → Prop) (g k : Nat) (fl : List Nat) : Prop where
  nd : fl.Nodup
  rc : ∀ v ∈ fl, WW.Rc E g v
  st : g ∈ fl
  up : ∀ i u v, i < k → fl[i]? = some u → E u v → v ∈ fl
theorem Fl.done {E : Nat → Nat → Prop} {g k : Nat} {fl : List Nat} (h : Fl E g k fl) (l : fl.length ≤ k) (v : Nat) : v ∈ fl ↔ WW.Rc E g v := by
  refine ⟨h.rc v, ?_⟩
  rintro ⟨r, w⟩
  induction r generalizing v with
  | zero => cases (show v = g from w); exact h.st
  | succ r ih =>
    obtain ⟨u, wu, e⟩ := w
    obtain ⟨i, hi⟩ := List.getElem?_of_mem (ih u wu)
    have : i < fl.length := by
      rcases Nat.lt_or_ge i fl.length with z | z
      · exact z
      · rw [List.getElem?_eq_none z] at hi; cases hi
    exact h.up i u v (by omega) hi e
theorem flat_Ns : ∀ fl : List Nat, (Ns fl).all flatV = true
  | [] => rfl
  | _ :: fl => flat_Ns fl
theorem inV_Ns {v : Nat} (fl : List Nat) : inV (.int (v : Int)) (Ns fl) = decide (v ∈ fl) := by
  unfold inV Ns
  rw [List.any_map, Bool.eq_iff_iff, List.any_eq_true, decide_eq_true_eq]
  constructor
  · rintro ⟨x, m, e⟩
    have : ((x : Int) == (v : Int)) = true := e
    have : x = v := by have := of_decide_eq_true this; omega
    exact this ▸ m
  · intro m
    exact ⟨v, m, by show ((v : Int) == (v : Int)) = true; simp⟩
section
variable {P : Program} {w : World} {K : PySem.W.Frag} {mg : Str → Option Value} {base : Heap}
theorem ok_law_flood (T : Top K mg) : FnOk P w K mg base CX0 2 T.f_law_flood T.fd_law_flood ["watches", "word", "start"] (spFlood K) := by
  refine T.F_law_flood.ok sc_law_flood (fun vs H Q E h => ?_) (fun cdv A outer s H vs Q E hr h => ?_)
  · obtain ⟨a, ws, l, g, rfl, _⟩ := h; rfl
  · obtain ⟨a, ws, l, g, rfl, sa, l9, nw, gl, k⟩ := h
    have lz : l.length ≤ sizeLine := Nat.le_trans l9 (by decide)
    refine ⟨_, (pss_cons (ps_set (i := 3) sc_law_flood.nd rfl (Or.inl rfl) (pe_lst (pa_cons (pv 2) pa_nil)))
 (pss_cons (ps_for PassesOwn.never rfl (pi_range1 (by rfl) T.n_range (pa_cons (pe_op op_add (pe_callB RD.c_len (by rfl) T.n_len (by decide +kernel) (pa_cons (pv 1) pa_nil)) pe_int) pa_nil)) (pg_name (i := 4) sc_law_flood.nd rfl (Or.inl rfl))
 (pss_one (ps_if (pt_cmpR op_lt (pv 4) (pe_callB (OQ.lenK K) (by rfl) T.n_len (by decide +kernel) (pa_cons (pv 3) pa_nil)) (nomark _))
 (pss_one (ps_for PassesOwn.never rfl (pi_list (pe_call (ok_law_near T) (hr.mono (by decide)) (by rfl) T.g_law_near T.F_law_near.kp T.b_law_near .nil pass0 (pa_cons (pv 0) (pa_cons (pv 1) (pa_cons (pe_ix ix_list (pv 3) (pv 4) (fun _ _ => rfl)) pa_nil))))) (pg_name (i := 5) sc_law_flood.nd rfl (Or.inl rfl))
 (pss_one (ps_if (pt_cmpR op_notIn_seq (pv 5) (pv 3) rfl)
 (pss_one (ps_expr (pe_bm PySem.F.plainAttrs_list PySem.F.slot_list_append PySem.F.type_list_append mt_append (pv 3) (pa_cons (pv 5) pa_nil))))
 pss_nil))))
 pss_nil)))
 (pss_one (ps_ret (pe_callB (OQ.sortK K) (by rfl) T.n_sorted (by decide +kernel) (pa_cons (pv 3) pa_nil)))))), ?_⟩
    have lim0 : ∀ v, WW.Rc (WW.Link ws l) g v → v < l.length + 1 := fun v z => by
      obtain ⟨r, z⟩ := z
      cases r with
      | zero => have : v = g := z; omega
      | succ r =>
        obtain ⟨u, _, e⟩ := z
        have := (e.le nw).2.1
        omega
    walk_at "tx"
    refine ⟨by show 1 ≤ sizeLine; decide, fun p hp => ?_⟩
    have s1 := same_upd (o := HO.lst [V.int g]) hp
    have ep : upd H p (.lst [V.int g]) p = some (.lst (Ns [g])) := upd_same
    generalize upd H p (.lst [V.int g]) = H1 at *
    walk_at "tx"
    refine ⟨_, rfl, by omega, by omega, ?_⟩
    rw [show ((l.length : Int) + 1).toNat = l.length + 1 from by omega]
    refine RD.f_range (lo := 0) (n := l.length + 1) (fun i σ' H' => Same H H' ∧ (∃ fl, H' p = some (.lst (Ns fl)) ∧ Fl (WW.Link ws l) g i fl) ∧ ∃ v4 v5 : Option V, σ' = [some (.ref a), some (.str (WW.S l)), some (.int g), some (.ref p), v4, v5])
      ⟨s1, ⟨[g], ep, by simp, fun v m => by rw [List.mem_singleton.mp m]; exact WW.Rc.refl, List.mem_singleton.mpr rfl, fun i u v z => by omega⟩, _, _, rfl⟩ ?_ ?_
    · rintro i σ' H2 il ⟨s2, ⟨fl, ep2, F⟩, v4, v5, rfl⟩
      walk_at "tx"
      rw [WW.Ns_len]
      have lim : ∀ v, v ∈ fl → v < l.length + 1 := fun v m => lim0 v (F.rc v m)
      have len : fl.length ≤ l.length + 1 := WW.nodup_len _ _ F.nd lim
      refine RD.iteD (fun c => ?_) (fun c => ?_)
      · have ii : i < fl.length := by omega
        obtain ⟨u, hu⟩ : ∃ u, fl[i]? = some u := ⟨_, List.getElem?_eq_getElem ii⟩
        have ul := lim u (List.mem_of_getElem? hu)
        walk_at "tx"
        refine RD.d_ixL (SqL.of ep2) (v := .int (u : Nat)) (by rw [Int.zero_add]; exact atI_nat (by unfold Ns; rw [List.getElem?_map, hu]; rfl)) ?_
        walk_at "tx"
        refine ⟨a, ws, l, u, rfl, SqL.of (s2 _ _ sa), by omega, by omega, fun q H3 s3 hq eq => ?_⟩
        have s23 := s2.trans s3
        have hq0 := s2.free hq
        have nqp : q ≠ p := (ne_of_none ep2 hq).symm
        have ep3 := s3 _ _ ep2
        have hp0 := hp
        walk_at "tx"
        refine RD.f_list (K := K) (a := q) (xs := Ns (near ws l u)) (fun j σ' H' => Same H H' ∧ H' q = some (.lst (Ns (near ws l u))) ∧ (∃ fl', H' p = some (.lst (Ns fl')) ∧ Fl (WW.Link ws l) g i fl' ∧ fl'[i]? = some u ∧ ∀ v, v ∈ (near ws l u).take j → v ∈ fl') ∧
            ∃ v4 v5 : Option V, σ' = [some (.ref a), some (.str (WW.S l)), some (.int g), some (.ref p), v4, v5])
          ⟨s23, eq, ⟨fl, ep3, F, hu, fun v z => by simp at z⟩, _, _, rfl⟩ ?_ ?_ ?_
        · rintro j σ' H' _ ⟨_, q, _⟩
          exact SqL.of q
        · rintro j y σ' H4 hv ⟨s4, eq4, ⟨fl', ep4, F', hu', ml⟩, v4, v5, rfl⟩
          obtain ⟨v0, hv0, rfl⟩ := WW.Ns_get hv
          have ev := (near_mem nw (by omega)).mp (List.mem_of_getElem? hv0)
          have tk : ∀ v, v ∈ (near ws l u).take (j + 1) ↔ v ∈ (near ws l u).take j ∨ v = v0 := fun v => by
            rw [List.take_succ, hv0, List.mem_append]
            show (_ ∨ v ∈ [v0]) ↔ _
            rw [List.mem_singleton]
          have len' : fl'.length ≤ l.length + 1 := WW.nodup_len _ _ F'.nd fun v m => lim0 v (F'.rc v m)
          walk_at "tx"
          refine ⟨p, Ns fl', rfl, .inl (SqL.of ep4), rfl, flat_Ns fl', ?_⟩
          rw [if_pos rfl, inV_Ns]
          walk_at "tx"
          refine RD.iteN (fun c1 => ?_) (fun c1 => ?_)
          · walk_at "tx"
            refine ⟨RD.tyL ep4, ?_⟩
            walk_at "tx"
            refine ⟨p, _, V.int (v0 : Nat), rfl, rfl, ep4, by rw [WW.Ns_len]; exact Nat.lt_of_le_of_lt (Nat.le_trans len' (by omega : l.length + 1 ≤ 41)) (by decide), ?_⟩
            refine ⟨same_put s4 hp0, by rw [upd_ne nqp]; exact eq4, ⟨fl' ++ [v0], by rw [upd_same, WW.Ns_app], ⟨WW.nodup_snoc F'.nd c1, fun v m => ?_, List.mem_append_left _ F'.st, fun i' u' v z hi e => ?_⟩, ?_, fun v m => ?_⟩, _, _, rfl⟩
            · rcases List.mem_append.mp m with m | m
              · exact F'.rc v m
              · rw [List.mem_singleton.mp m]
                exact (F'.rc u (List.mem_of_getElem? hu')).trans (WW.Rc.one ev)
            · have il' : i < fl'.length := by
                rcases Nat.lt_or_ge i fl'.length with y | y
                · exact y
                · rw [List.getElem?_eq_none y] at hu'; cases hu'
              rw [List.getElem?_append_left (by omega)] at hi
              exact List.mem_append_left _ (F'.up i' u' v z hi e)
            · have il' : i < fl'.length := by
                rcases Nat.lt_or_ge i fl'.length with y | y
                · exact y
                · rw [List.getElem?_eq_none y] at hu'; cases hu'
              rw [List.getElem?_append_left il']; exact hu'
            · rcases (tk v).mp m with m | m
              · exact List.mem_append_left _ (ml v m)
              · rw [m]; exact List.mem_append_right _ (List.mem_singleton.mpr rfl)
          · walk_at "tx"
            refine ⟨s4, eq4, ⟨fl', ep4, F', hu', fun v m => ?_⟩, _, _, rfl⟩
            rcases (tk v).mp m with m | m
            · exact ml v m
            · rw [m]; exact c1
        · rintro σ' H4 ⟨s4, eq4, ⟨fl', ep4, F', hu', ml⟩, v4, v5, rfl⟩
          rw [WW.Ns_len, List.take_length] at ml
          refine ⟨s4, ⟨fl', ep4, F'.nd, F'.rc, F'.st, fun i' u' v z hi e => ?_⟩, _, _, rfl⟩
          by_cases c2 : i' = i
          · subst c2
            rw [hu'] at hi
            cases hi
            exact ml v ((near_mem nw (by omega)).mpr e)
          · exact F'.up i' u' v (by omega) hi e
      · walk_at "tx"
        refine ⟨s2, ⟨fl, ep2, F.nd, F.rc, F.st, fun i' u v z hi e => ?_⟩, _, _, rfl⟩
        by_cases c2 : i' = i
        · subst c2
          rw [List.getElem?_eq_none (by omega)] at hi; cases hi
        · exact F.up i' u v (by omega) hi e
    · rintro σ' H2 ⟨s2, ⟨fl, ep2, F⟩, v4, v5, rfl⟩
      walk_at "tx"
      have lim : ∀ v, v ∈ fl → v < l.length + 1 := fun v m => lim0 v (F.rc v m)
      have len : fl.length ≤ l.length + 1 := WW.nodup_len _ _ F.nd lim
      refine ⟨p, fl.map fun (j : Nat) => (j : Int), rfl, SqL.of (by rw [ep2, List.map_map]; rfl), fun ys q pm so hq => ?_⟩
      obtain ⟨ms, rfl, mem, up⟩ := WW.sorted_nats pm so F.nd
      have e : ms = WW.cl (WW.Link ws l) (l.length + 1) g := WW.cl_of up (fun v => (mem v).trans (F.done len v)) lim0
      subst e
      exact k q _ (s2.trans (same_upd hq)) (s2.free hq) (by rw [upd_same, List.map_map]; rfl)
end

/-! ### the law's own classes -/
open WW (Ns)
def spLCs (K : PySem.W.Frag) : Sp := fun vs H Q _ => ∃ (a : Addr) (ws : List WW.Wd) (l : WW.Wd), vs = [.ref a, .str (WW.S l)] ∧ H a = some (.lst (WW.Ss ws)) ∧ l.length ≤ 40 ∧ (∀ w ∈ ws, w ≠ []) ∧
  ∀ (p : Addr) (ts : List Addr) (H' : Hp), Same H H' → H p = none → H' p = some (.lst (ts.map V.ref)) → WW.TupsAt H' ts (WW.cls (WW.Link ws l) (l.length + 1) (l.length + 1)) → Q (.ref p) H'
section
variable {P : Program} {w : World} {K : PySem.W.Frag} {mg : Str → Option Value} {base : Heap}
theorem ok_law_classes (T : Top K mg) : FnOk P w K mg base CX0 3 T.f_law_classes T.fd_law_classes ["watches", "word"] (spLCs K) := by
  refine T.F_law_classes.ok sc_law_classes (fun vs H Q E h => ?_) (fun cdv A outer s H vs Q E hr h => ?_)
  · obtain ⟨a, ws, l, rfl, _⟩ := h; rfl
  · obtain ⟨a, ws, l, rfl, sa, l9, nw, k⟩ := h
    have lz : l.length ≤ sizeLine := Nat.le_trans l9 (by decide)
    refine ⟨_, (pss_cons (ps_set (i := 2) sc_law_classes.nd rfl (Or.inl rfl) (pe_lst pa_nil))
 (pss_cons (ps_for PassesOwn.never rfl (pi_range1 (by rfl) T.n_range (pa_cons (pe_op op_add (pe_callB RD.c_len (by rfl) T.n_len (by decide +kernel) (pa_cons (pv 1) pa_nil)) pe_int) pa_nil)) (pg_name (i := 3) sc_law_classes.nd rfl (Or.inr rfl))
 (pss_one (ps_if (pt_cmpR op_eq (pe_callB RD.c_len (by rfl) T.n_len (by decide +kernel) (pa_cons (pe_lc (own := [("row", 4)]) (g := (gName 4)) (tt := _) rfl sc_law_classes.nd (pi_list (pv 2)) (blkOk_by (own := [("row", 4)]) (N := ["watches", "word", "found", "spot", "row"]) (sc := defScope s_law_classes) (by decide +kernel)) (fun _ _ _ _ _ => (pg_name (i := 4) sc_law_classes.nd rfl (Or.inl rfl))) (fun _ _ _ _ _ => (pts_one (pt_cmpR (OQ.inK K) (pv 3) (pv 4) rfl))) (fun _ _ _ _ _ => (pv 4))) pa_nil)) pe_int (nomark _))
 (pss_one (ps_expr (pe_bm PySem.F.plainAttrs_list PySem.F.slot_list_append PySem.F.type_list_append mt_append (pv 2) (pa_cons (pe_callTy (OQ.tupK K) (by rfl) T.n_tuple (by decide +kernel) (pa_cons (pe_call (ok_law_flood T) (hr.mono (by decide)) (by rfl) T.g_law_flood T.F_law_flood.kp T.b_law_flood .nil pass0 (pa_cons (pv 0) (pa_cons (pv 1) (pa_cons (pv 3) pa_nil)))) pa_nil)) pa_nil))))
 pss_nil)))
 (pss_one (ps_ret (pv 2))))), ?_⟩
    walk_at "tx"
    refine ⟨by show 0 ≤ sizeLine; decide, fun p hp => ?_⟩
    have s1 := same_upd (o := HO.lst []) hp
    have ep : upd H p (.lst []) p = some (.lst (([] : List Addr).map V.ref)) := upd_same
    generalize upd H p (.lst []) = H1 at *
    walk_at "tx"
    refine ⟨_, rfl, by omega, by omega, ?_⟩
    rw [show ((l.length : Int) + 1).toNat = l.length + 1 from by omega]
    refine RD.f_range (lo := 0) (n := l.length + 1) (fun i σ' H' => Same H H' ∧ (∃ ts, H' p = some (.lst (ts.map V.ref)) ∧ WW.TupsAt H' ts (WW.cls (WW.Link ws l) (l.length + 1) i)) ∧ ∃ v3 v4 : Option V, σ' = [some (.ref a), some (.str (WW.S l)), some (.ref p), v3, v4])
      ⟨s1, ⟨[], ep, WW.TupsAt.nil⟩, _, _, rfl⟩ ?_ ?_
    · rintro i σ' H2 il ⟨s2, ⟨ts, ep2, tt⟩, v3, v4, rfl⟩
      walk_at "tx"
      intro D hD
      have nDp : p ≠ D := ne_of_none ep2 hD
      have sD := same_upd (o := HO.lst []) hD
      have hD0 := s2.free hD
      have le := WW.cls_len (WW.Link ws l) (l.length + 1) i
      have su := WW.cls_succ (WW.Link ws l) (l.length + 1) i
      have fi := WW.first_iff (E := WW.Link ws l) (fun _ _ => WW.Link.symm) il
      generalize hcs : WW.cls (WW.Link ws l) (l.length + 1) i = cs at *
      let f : List Nat → Bool := fun c => decide (i ∈ c)
      refine lc_list (K := K) (a := p) (xs := ts.map V.ref) (fun j H' => Same H H' ∧ H' p = some (.lst (ts.map V.ref)) ∧ WW.TupsAt H' ts cs ∧ ∃ acc, H' D = some (.lst acc) ∧ acc.length = ((cs.take j).filter f).length)
        ⟨s2.trans sD, by rw [upd_ne nDp]; exact ep2, tt.same sD, [], upd_same, rfl⟩ ?_ ?_ ?_
      · rintro j H' _ ⟨_, q, _⟩
        exact SqL.of q
      · rintro j y H' hy ⟨s3, ep3, t3, acc, eD, al⟩
        rw [List.getElem?_map] at hy
        cases et : ts[j]? with
        | none => rw [et] at hy; cases hy
        | some t =>
          rw [et] at hy
          cases hy
          obtain ⟨c, ec, etc⟩ := t3.2 j t et
          have tk : (cs.take (j + 1)).filter f = (cs.take j).filter f ++ (if f c = true then [c] else []) := by
            rw [List.take_succ, ec, List.filter_append]
            congr 1
            by_cases z : f c = true
            · rw [if_pos z]; simp [z]
            · rw [if_neg z]; simp [z]
          have fl : ((cs.take j).filter f).length ≤ 41 := Nat.le_trans (List.length_filter_le ..) (by rw [List.length_take]; omega)
          walk_at "tx"
          refine ⟨t, Ns c, rfl, .inr (SqT.of etc), rfl, flat_Ns c, ?_⟩
          rw [if_neg Bool.false_ne_true, Int.zero_add, inV_Ns]
          refine ⟨_, rfl, RD.iteD (fun z => ?_) (fun z => ?_)⟩
          · have fc : f c = true := decide_eq_true z
            rw [if_pos fc] at tk
            have tun : WW.Tu H' (upd H' D (.lst (acc ++ [V.ref t]))) := fun b q z => by
              rw [upd_ne (fun y => by rw [y, eD] at z; cases z)]; exact z
            walk_at "tx"
            exact ⟨acc, eD, Nat.lt_of_le_of_lt (show acc.length ≤ 41 by rw [al]; exact fl) (by decide), same_put s3 hD0, by rw [upd_ne nDp]; exact ep3, t3.tu tun, _, upd_same, by rw [tk, List.length_append, List.length_append, al]; rfl⟩
          · have fc : ¬ f c = true := fun y => z (of_decide_eq_true y)
            rw [if_neg fc, List.append_nil] at tk
            exact ⟨s3, ep3, t3, acc, eD, by rw [tk]; exact al⟩
      · rintro H3 ⟨s3, ep3, t3, acc, eD, al⟩
        walk_at "tx"
        rw [List.length_map, t3.1, List.take_length] at al
        have hc : acc.length = 0 ↔ (WW.cl (WW.Link ws l) (l.length + 1) i)[0]? = some i := by
          rw [al, ← Decidable.not_iff_not (a := List.length _ = 0), ← ne_eq ((WW.cl (WW.Link ws l) (l.length + 1) i)[0]?), ← fi, List.length_eq_zero_iff, List.filter_eq_nil_iff]
          constructor
          · intro z
            exact Classical.not_not.mp fun y => z fun c m fc => y ⟨c, m, of_decide_eq_true fc⟩
          · rintro ⟨c, m, ic⟩ z
            exact z c m (decide_eq_true ic)
        refine RD.iteD (fun z => ?_) (fun z => ?_)
        · rw [if_pos (hc.mp (by omega))] at su
          walk_at "tx"
          refine ⟨RD.tyL ep3, ?_⟩
          walk_at "tx"
          refine ⟨a, ws, l, i, by rw [Int.zero_add]; rfl, s3 _ _ sa, l9, nw, by omega, fun q H4 s4 hq eq => ?_⟩
          have ep4 := s4 _ _ ep3
          walk_at "tx"
          refine ⟨q, _, rfl, .inl ⟨SqL.of eq, fun t ht => ?_⟩⟩
          have s34 := s4.trans (same_upd (o := HO.tup (Ns (WW.cl (WW.Link ws l) (l.length + 1) i))) ht)
          have et : upd H4 t (.tup (Ns (WW.cl (WW.Link ws l) (l.length + 1) i))) t = some (.tup (Ns (WW.cl (WW.Link ws l) (l.length + 1) i))) := upd_same
          generalize upd H4 t (.tup (Ns (WW.cl (WW.Link ws l) (l.length + 1) i))) = H5 at *
          have ep5 := s34 _ _ ep3
          have t5 := t3.same s34
          have tl : ts.length ≤ 41 := by rw [t3.1]; omega
          have tun : WW.Tu H5 (upd H5 p (.lst (ts.map V.ref ++ [V.ref t]))) := fun b q z => by
            rw [upd_ne (fun y => by rw [y, ep5] at z; cases z)]; exact z
          walk_at "tx"
          refine ⟨p, _, V.ref t, rfl, rfl, ep5, by rw [List.length_map]; exact Nat.lt_of_le_of_lt tl (by decide), ?_⟩
          exact ⟨same_put (s3.trans s34) hp, ⟨ts ++ [t], by rw [upd_same, List.map_append]; rfl, by rw [su]; exact (t5.tu tun).snoc (tun _ _ et)⟩, _, _, rfl⟩
        · rw [if_neg (fun y => z (by have := hc.mpr y; omega)), List.append_nil] at su
          walk_at "tx"
          exact ⟨s3, ⟨ts, ep3, by rw [su]; exact t3⟩, _, _, rfl⟩
    · rintro σ' H2 ⟨s2, ⟨ts, ep2, tt⟩, v3, v4, rfl⟩
      walk_at "tx"
      exact k p ts H2 s2 hp ep2 tt
end

/-! ### told words -/
theorem told_look {ws : List WW.Wd} {l : WW.Wd} {rows : Nat → List Nat} {ps : List (Nat × Nat)} (h : LksG ws l rows) (hp : ∀ v r, WW.look ps v = some r ↔ WW.Ds (fun i j => j ∈ rows i) 0 r v) : (WW.look ps l.length).isSome = true ↔ WW.Told ws l := by
  have eq : ∀ u v, (v ∈ rows u) ↔ WW.Link ws l u v := h.mem
  constructor
  · intro k
    obtain ⟨r, e⟩ := Option.isSome_iff_exists.mp k
    exact WW.Rc.mono (fun u v z => (eq u v).mp z) ⟨r, ((hp _ r).mp e).1⟩
  · intro k
    obtain ⟨r, d⟩ := (WW.Rc.mono (fun u v z => (eq u v).mpr z) k).ds
    rw [(hp _ r).mpr d]; rfl
def spLeads (K : PySem.W.Frag) : Sp := fun vs H Q _ => ∃ (a : Addr) (ws : List WW.Wd) (l : WW.Wd), vs = [.ref a, .str (WW.S l)] ∧ OQ.SeqAt K H a (WW.Ss ws) ∧ Okp ws l ∧ l.length ≤ 40 ∧
  ∀ b H', Same H H' → (b = true ↔ WW.Told ws l) → Q (.bl b) H'
def spTold (K : PySem.W.Frag) (C : Addr) : Sp := fun vs H Q _ => ∃ (x : Addr) (ws : List WW.Wd) (l : WW.Wd), vs = [.ref x, .str (WW.S l)] ∧ BookAt K C H x ws ∧ Okw ws ∧ IsW 40 l ∧
  ∀ b H', Same H H' → (b = true ↔ WW.Told ws l) → Q (.bl b) H'
section
variable {P : Program} {w : World} {K : PySem.W.Frag} {mg : Str → Option Value} {base : Heap}
theorem ok_leads_through (T : Top K mg) : FnOk P w K mg base CX0 2 T.f_leads_through T.fd_leads_through ["pieces", "word"] (spLeads K) := by
  refine T.F_leads_through.ok sc_leads_through (fun vs H Q E h => ?_) (fun cdv A outer s H vs Q E hr h => ?_)
  · obtain ⟨a, ws, l, rfl, _⟩ := h; rfl
  · obtain ⟨a, ws, l, rfl, sa, ok, l40, k⟩ := h
    have hz : l.length ≤ sizeLine := Nat.le_trans l40 (by decide)
    refine ⟨_, (pss_one (ps_ret (pe_cmp (pc_din (hu_of hr) (pe_callB RD.c_len (by rfl) T.n_len (by decide +kernel) (pa_cons (pv 1) pa_nil)) (pe_call (ok_steps_to T) (hr.mono (by decide)) (by rfl) T.g_steps_to T.F_steps_to.kp T.b_steps_to .nil pass0 (pa_cons (pe_call (ok_links_through T) (hr.mono (by decide)) (by rfl) T.g_links_through T.F_links_through.kp T.b_links_through .nil pass0 (pa_cons (pv 0) (pa_cons (pv 1) pa_nil))) (pa_cons pe_int pa_nil)))) rfl))), ?_⟩
    walk_at "tx"
    refine ⟨a, ws, l, rfl, sa, ok, fun H2 L rows s2 hL R lk => ?_⟩
    walk_at "tx"
    refine ⟨L, l.length + 1, 0, rows, rfl, R, fun i j m => ?_, by omega, by omega, fun H3 d ps s3 hd ed hp _ => ?_⟩
    · have := (((lk.mem i j).mp m).le ok.ne).2.1
      omega
    · refine ⟨d, _, rfl, DGet.k (k := Sum.inl (l.length : Int)) ed, ?_⟩
      have e : (valV (WW.Dk ps) (Sum.inl (l.length : Int))).isSome = (WW.look ps l.length).isSome := by
        rw [WW.valV_Dk ps l.length, Option.isSome_map]
      rw [e]
      exact k _ _ (s2.trans s3) (told_look lk hp)
theorem ok_is_told (T : Top K mg) : FnOk P w K mg base CX0 8 T.f_is_told T.fd_is_told ["book", "word"] (spTold K T.C_Book) := by
  refine T.F_is_told.ok sc_is_told (fun vs H Q E h => ?_) (fun cdv A outer s H vs Q E hr h => ?_)
  · obtain ⟨x, ws, l, rfl, _⟩ := h; rfl
  · obtain ⟨x, ws, l, rfl, b, ok, hl, k⟩ := h
    refine ⟨_, (pss_cons (ps_expr (pe_call (ok_check_asked T) (hr.mono (by decide)) (by rfl) T.g_check_asked T.F_check_asked.kp T.b_check_asked .nil pass0 (pa_cons (pv 0) (pa_cons (pv 1) pa_nil))))
 (pss_one (ps_ret (pe_call (ok_leads_through T) (hr.mono (by decide)) (by rfl) T.g_leads_through T.F_leads_through.kp T.b_leads_through .nil pass0 (pa_cons (pe_fld (pv 0) (by rfl)) (pa_cons (pv 1) pa_nil)))))), ?_⟩
    walk_at "tx"
    refine ⟨x, ws, l, rfl, b, hl, fun H1 s1 => ?_⟩
    obtain ⟨dx, t, ex, sq⟩ := b.same s1
    walk_at "tx"
    refine ⟨x, T.C_Book, dx, _, _, rfl, ex, T.cl_Book, T.na_Book_watches, lk_eq, ?_⟩
    walk_at "tx"
    exact ⟨t, ws, l, rfl, .inr sq, ok.pieces hl, hl.hi, fun b H2 s2 hb => k _ _ (s1.trans s2) hb⟩
end

/-! ### a book made -/
theorem Okw.perm {ws qs : List WW.Wd} (h : Okw ws) (p : qs.Perm ws) : Okw qs := ⟨by rw [p.length_eq]; exact h.len, fun w m => h.ok w (p.mem_iff.mp m), p.nodup_iff.mpr h.nd⟩
theorem mk_book {K : PySem.W.Frag} {C : Addr} {H : Hp} {x dx a : Addr} {ws : List WW.Wd} {R : VK} {E : XK} (hx : H x = none) (hdx : H dx = none) (ndx : dx ≠ x) (ea : H a = some (.lst (WW.Ss ws))) (ok : Okw ws)
    (r : ∀ H2, Same H H2 → BookAt K C H2 x ws → R .non H2) : spBookI K C [.ref x, .ref a] (upd (upd H dx (.own x)) x (.ins C dx [])) R E := by
  have s1 : Same H (upd (upd H dx (.own x)) x (.ins C dx [])) := same_put (same_upd hdx) hx
  refine ⟨x, dx, a, ws, rfl, upd_same, .inl (SqL.of (s1 _ _ ea)), ok, fun H' kx b => r H' (fun b o e => kx b o (ne_of_none e hx) (s1 _ _ e)) b⟩

/-! ### flags -/
def spFlag : Sp := fun vs H Q _ => ∃ a b : Bool, vs = [.bl a, .bl b] ∧ Q (.bl (decide (a = b))) H
section
variable {P : Program} {w : World} {K : PySem.W.Frag} {mg : Str → Option Value} {base : Heap}
theorem ok_law_flag (T : Top K mg) : FnOk P w K mg base CX0 1 T.f_law_flag T.fd_law_flag ["told", "due"] spFlag := by
  refine T.F_law_flag.ok sc_law_flag (fun vs H Q E h => ?_) (fun cdv A outer s H vs Q E hr h => ?_)
  · obtain ⟨a, b, rfl, _⟩ := h; rfl
  · obtain ⟨a, b, rfl, k⟩ := h
    refine ⟨_, (pss_one (ps_ret (pe_and (pe_callB call_isi (by rfl) T.n_isinstance (by decide +kernel) (pa_cons (pv 0) (pa_cons (pe_bltn (v := V.ty "bool") (by rfl) T.n_bool (by decide +kernel) rfl) pa_nil))) (pe_one (pe_cmpR op_eq (pv 0) (pv 1) (nomark _)))))), ?_⟩
    walk_at "tx"
    refine RD.d_isi (.ty _) (.base (.bl _)) (kit_ty (r := true) (by decide +kernel)) ?_
    refine ⟨_, rfl, RD.d_iteT ?_⟩
    walk_at "tx"
    exact k
end

/-! ### the law's second part -/
open WW (Ns)
def spSec (K : PySem.W.Frag) : Sp := fun vs H Q _ => ∃ (a : Addr) (ns : List Int), vs = [.ref a] ∧ SqL K H a (ns.map V.int) ∧ ns.length ≤ 63 ∧ ∀ H', Q (.bl true) H'
theorem BookAt.kx {K : PySem.W.Frag} {C : Addr} {H H' : Hp} {x u : Addr} {ws : List WW.Wd} {xs : List V} (h : BookAt K C H x ws) (e : H u = some (.lst xs)) (k : Kx u H H') : BookAt K C H' x ws := by
  obtain ⟨dx, t, h1, h2⟩ := h
  refine ⟨dx, t, k _ _ (fun z => by rw [z, e] at h1; cases h1) h1, ?_⟩
  rcases h2 with (h2 | ⟨o', h2⟩) | h2
  · exact .inl (.inl (k _ _ (fun z => by rw [z, e] at h2; cases h2) h2))
  · exact .inl (.inr ⟨o', k _ _ (fun z => by rw [z, e] at h2; cases h2) h2⟩)
  · exact .inr h2
theorem kx_put {H : Hp} {u : Addr} {o : HO} : Kx u H (upd H u o) := fun b q n e => by rw [upd_ne n]; exact e
theorem tu_kx {H H' : Hp} {u : Addr} {xs : List V} (e : H u = some (.lst xs)) (k : Kx u H H') : WW.Tu H H' := fun t p z => k _ _ (fun y => by rw [y, e] at z; cases z) z
section
variable {P : Program} {w : World} {K : PySem.W.Frag} {mg : Str → Option Value} {base : Heap}
theorem ok_law_second (T : Top K mg) : FnOk P w K mg base CX0 11 T.f_law_second T.fd_law_second ["script"] (spSec K) := by
  refine T.F_law_second.ok sc_law_second (fun vs H Q E h => ?_) (fun cdv A outer s H vs Q E hr h => ?_)
  · obtain ⟨a, ns, rfl, _⟩ := h; rfl
  · obtain ⟨ad, ns, rfl, hS, hl, k⟩ := h
    refine ⟨_, (pss_cons (ps_set (i := 1) sc_law_second.nd rfl (Or.inl rfl) (pe_call (ok_law_tape T) (hr.mono (by decide)) (by rfl) T.g_law_tape T.F_law_tape.kp T.b_law_tape .nil pass0 (pa_cons (pv 0) pa_nil)))
 (pss_cons (ps_set (i := 2) sc_law_second.nd rfl (Or.inl rfl) (pe_call (ok_law_word T) (hr.mono (by decide)) (by rfl) T.g_law_word T.F_law_word.kp T.b_law_word .nil pass0 (pa_cons (pv 1) (pa_cons pe_int pa_nil))))
 (pss_cons (ps_set (i := 3) sc_law_second.nd rfl (Or.inl rfl) (pe_call (ok_law_watches T) (hr.mono (by decide)) (by rfl) T.g_law_watches T.F_law_watches.kp T.b_law_watches .nil pass0 (pa_cons (pv 1) (pa_cons (pv 2) (pa_cons (pe_call (ok_law_pick T) (hr.mono (by decide)) (by rfl) T.g_law_pick T.F_law_pick.kp T.b_law_pick .nil pass0 (pa_cons (pv 1) (pa_cons pe_int pa_nil))) (pa_cons pe_int pa_nil))))))
 (pss_cons (ps_set (i := 4) sc_law_second.nd rfl (Or.inl rfl) (pe_call (ok_law_classes T) (hr.mono (by decide)) (by rfl) T.g_law_classes T.F_law_classes.kp T.b_law_classes .nil pass0 (pa_cons (pv 3) (pa_cons (pv 2) pa_nil))))
 (pss_cons (ps_set (i := 5) sc_law_second.nd rfl (Or.inl rfl) (pe_make T.M_Book (ok_Book__init T) (hr.mono (by decide)) (by rfl) T.g_Book T.b_Book__init .nil pass0 (pa_cons (pv 3) pa_nil)))
 (pss_cons (ps_set (i := 6) sc_law_second.nd rfl (Or.inl rfl) (pe_call (ok_classes T) (hr.mono (by decide)) (by rfl) T.g_classes T.F_classes.kp T.b_classes .nil pass0 (pa_cons (pv 5) (pa_cons (pv 2) pa_nil))))
 (pss_cons (ps_if (PW.pt (pw_or (pt_not (pt_val (pe_callB call_isi (by rfl) T.n_isinstance (by decide +kernel) (pa_cons (pv 6) (pa_cons (pe_bltn (v := V.ty "list") (by rfl) T.n_list (by decide +kernel) rfl) pa_nil))))) (pw_or1 (pt_cmpR (op_neD hr.units) (pv 6) (pv 4) (nomark _)))))
 (pss_one (ps_ret pe_bl))
 pss_nil)
 (pss_cons (ps_expr (pe_bm PySem.F.plainAttrs_list PySem.F.slot_list_append PySem.F.type_list_append mt_append (pv 6) (pa_cons (pe_tup (pa_cons pe_int pa_nil)) pa_nil)))
 (pss_cons (ps_set (i := 7) sc_law_second.nd rfl (Or.inl rfl) (pe_make T.M_Book (ok_Book__init T) (hr.mono (by decide)) (by rfl) T.g_Book T.b_Book__init .nil pass0 (pa_cons (pe_call (ok_law_mixed T) (hr.mono (by decide)) (by rfl) T.g_law_mixed T.F_law_mixed.kp T.b_law_mixed .nil pass0 (pa_cons (pv 1) (pa_cons (pv 3) pa_nil))) pa_nil)))
 (pss_cons (ps_if (PW.pt (pw_or (pt_cmpR (op_neD hr.units) (pe_call (ok_classes T) (hr.mono (by decide)) (by rfl) T.g_classes T.F_classes.kp T.b_classes .nil pass0 (pa_cons (pv 5) (pa_cons (pv 2) pa_nil))) (pv 4) (nomark _)) (pw_or1 (pt_cmpR (op_neD hr.units) (pe_call (ok_classes T) (hr.mono (by decide)) (by rfl) T.g_classes T.F_classes.kp T.b_classes .nil pass0 (pa_cons (pv 7) (pa_cons (pv 2) pa_nil))) (pv 4) (nomark _)))))
 (pss_one (ps_ret pe_bl))
 pss_nil)
 (pss_one (ps_ret (pe_and (pe_call (ok_law_flag T) (hr.mono (by decide)) (by rfl) T.g_law_flag T.F_law_flag.kp T.b_law_flag .nil pass0 (pa_cons (pe_call (ok_is_told T) (hr.mono (by decide)) (by rfl) T.g_is_told T.F_is_told.kp T.b_is_told .nil pass0 (pa_cons (pv 5) (pa_cons (pv 2) pa_nil))) (pa_cons (pe_cmpR (OQ.inK K) (pe_callB RD.c_len (by rfl) T.n_len (by decide +kernel) (pa_cons (pv 2) pa_nil)) (pe_ix ix_list (pv 4) pe_int (fun _ _ => rfl)) rfl) pa_nil))) (pe_one (pe_call (ok_law_flag T) (hr.mono (by decide)) (by rfl) T.g_law_flag T.F_law_flag.kp T.b_law_flag .nil pass0 (pa_cons (pe_call (ok_is_told T) (hr.mono (by decide)) (by rfl) T.g_is_told T.F_is_told.kp T.b_is_told .nil pass0 (pa_cons (pv 7) (pa_cons (pv 2) pa_nil))) (pa_cons (pe_cmpR (OQ.inK K) (pe_callB RD.c_len (by rfl) T.n_len (by decide +kernel) (pa_cons (pv 2) pa_nil)) (pe_ix ix_list (pv 4) pe_int (fun _ _ => rfl)) rfl) pa_nil))))))))))))))))), ?_⟩
    walk_at "tx"
    refine ⟨ad, ns, rfl, hS, fun h c H1 hT1 s1 hh hc => ?_⟩
    walk_at "tx"
    refine ⟨h, c, 40, rfl, hT1, by decide, by decide, fun l H2 hT2 k2 hl2 => ?_⟩
    walk_at "tx"
    refine ⟨h, c, 13, rfl, hT2, by decide, log2_lt (by decide), fun many H3 a3 b3 hT3 k3 => ?_⟩
    walk_at "tx"
    refine ⟨h, c, l, many.toNat, 12, by rw [Int.toNat_of_nonneg a3]; rfl, hT3, hl2, by omega, by decide, by decide, fun p ws H4 hT4 k4 hp ep ok => ?_⟩
    have nph : p ≠ h := (hT3.free hp).1
    have nw : ∀ w ∈ ws, w ≠ [] := fun w m z => by have := (ok.ok w m).lo; rw [z] at this; exact absurd this (by decide)
    have okw : Okw ws := ⟨Nat.le_trans ok.len (by omega), ok.ok, ok.nd⟩
    have lz : l.length ≤ sizeLine := Nat.le_trans hl2.hi (by decide)
    walk_at "tx"
    refine ⟨p, ws, l, rfl, ep, hl2.hi, nw, fun dd tts H5 s5 hdd edd tt5 => ?_⟩
    have ndh := (hT4.free hdd).1
    have hT5 := hT4.same s5
    have ep5 := s5 _ _ ep
    clear hT4 ep s5 k4 hT3 k3 hT2 k2 hT1 s1
    walk_at "tx"
    intro x dx hx hdx ndx
    refine mk_book hx hdx ndx ep5 okw fun H6 s6 bk => ⟨rfl, ?_⟩
    have edd6 := s6 _ _ edd
    have tt6 := tt5.same s6
    have hT6 := hT5.same s6
    have ep6 := s6 _ _ ep5
    clear hT5 ep5 edd tt5 s6 hx hdx
    walk_at "tx"
    refine ⟨x, ws, l, rfl, bk, okw, hl2, fun H7 u us s7 hu eu tu7 => ?_⟩
    have edd7 := s7 _ _ edd6
    have tt7 := tt6.same s7
    have hT7 := hT6.same s7
    have ep7 := s7 _ _ ep6
    have bk7 := bk.same s7
    have nud : u ≠ dd := fun z => by rw [z, edd6] at hu; cases hu
    have nup : u ≠ p := fun z => by rw [z, ep6] at hu; cases hu
    have nuh := (hT6.free hu).1
    have nuc := (hT6.free hu).2
    clear hT6 ep6 edd6 tt6 s7 bk hu
    walk_at "tx"
    refine RD.d_isi (.ty _) (.base (.lst eu)) kit_selfR ?_
    refine ⟨true, rfl, RD.d_iteNT ?_⟩
    walk_at "tx"
    refine OQ.d_neTups eu edd7 tu7 tt7 ?_
    walk_at "tx"
    refine ⟨RD.tyL eu, ?_⟩
    walk_at "tx"
    refine ⟨by show 1 ≤ sizeLine; decide, fun t0 ht0 => ?_⟩
    have s8 := same_upd (o := HO.tup [V.int 0]) ht0
    generalize upd H7 t0 (.tup [V.int 0]) = H8 at *
    walk_at "tx"
    have len := WW.cls_len (WW.Link ws l) (l.length + 1) (l.length + 1)
    have l40 := hl2.hi
    refine ⟨u, _, V.ref t0, rfl, rfl, s8 _ _ eu, by rw [List.length_map, tu7.1]; exact Nat.lt_of_le_of_lt (by omega : _ ≤ 41) (by decide), ?_⟩
    have eu8 := s8 _ _ eu
    have tu8 : WW.Tu H8 (upd H8 u (.lst (us.map V.ref ++ [V.ref t0]))) := fun b q z => by
      rw [upd_ne (fun y => by rw [y, eu8] at z; cases z)]; exact z
    have edd9 : upd H8 u (.lst (us.map V.ref ++ [V.ref t0])) dd = some (.lst (tts.map V.ref)) := by rw [upd_ne nud.symm]; exact s8 _ _ edd7
    have tt9 := (tt7.same s8).tu tu8
    have hT9 := (hT7.same s8).upd (o := HO.lst (us.map V.ref ++ [V.ref t0])) nuh nuc
    have ep9 : upd H8 u (.lst (us.map V.ref ++ [V.ref t0])) p = some (.lst (WW.Ss ws)) := by rw [upd_ne nup.symm]; exact s8 _ _ ep7
    have bk9 := (bk7.same s8).kx eu8 (kx_put (o := HO.lst (us.map V.ref ++ [V.ref t0])))
    generalize upd H8 u (.lst (us.map V.ref ++ [V.ref t0])) = H9 at *
    clear eu8 tu8 s8 ht0 eu tu7 tt7 edd7 hT7 ep7 bk7 nuh nuc nup nud
    walk_at "tx"
    refine ⟨h, c, p, ws, rfl, hT9, nph, ep9, Nat.le_trans okw.len (by decide), fun q qs HA hTA kA hq eq perm => ?_⟩
    have eh : ∃ xs, H9 h = some (.lst xs) := by
      obtain ⟨cs, _, _, _, _, e, _⟩ := hT9
      exact ⟨_, e⟩
    obtain ⟨hxs, eh⟩ := eh
    have eddA := kA _ _ ndh edd9
    have ttA := tt9.tu (tu_kx eh kA)
    have bkA := bk9.kx eh kA
    have okq := okw.perm perm
    clear eh edd9 tt9 bk9 hT9 ep9 hq
    walk_at "tx"
    intro y dy hy hdy ndy
    refine mk_book hy hdy ndy eq okq fun HB sB bk2 => ⟨rfl, ?_⟩
    have eddB := sB _ _ eddA
    have ttB := ttA.same sB
    have bkB := bkA.same sB
    clear eddA ttA bkA sB hTA eq
    have le : WW.Link qs l = WW.Link ws l := by
      funext i j
      exact propext ⟨WW.Link.mono fun w m => perm.mem_iff.mp m, WW.Link.mono fun w m => perm.mem_iff.mpr m⟩
    walk_at "tx"
    refine ⟨x, ws, l, rfl, bkB, okw, hl2, fun HC v vs sC hv ev tv => ?_⟩
    have eddC := sC _ _ eddB
    have ttC := ttB.same sC
    have bkC := bkB.same sC
    have bk2C := bk2.same sC
    walk_at "tx"
    refine OQ.d_neTups ev eddC tv ttC ?_
    clear ev tv hv sC eddB ttB bkB bk2
    walk_at "tx"
    refine ⟨y, qs, l, rfl, bk2C, okq, hl2, fun HD v2 vs2 sD hv2 ev2 tv2 => ?_⟩
    rw [le] at tv2
    have eddD := sD _ _ eddC
    have ttD := ttC.same sD
    have bkD := bkC.same sD
    have bk2D := bk2C.same sD
    walk_at "tx"
    refine OQ.d_neTups ev2 eddD tv2 ttD ?_
    clear ev2 tv2 hv2 sD eddC ttC bkC bk2C
    walk_at "tx"
    refine ⟨x, ws, l, rfl, bkD, okw, hl2, fun b1 HE sE hb1 => ?_⟩
    have eddE := sE _ _ eddD
    have ttE := ttD.same sE
    have bk2E := bk2D.same sE
    walk_at "tx"
    have z0 := WW.cls_zero (E := WW.Link ws l) (n := l.length + 1) (by omega) (k := l.length + 1) (by omega)
    obtain ⟨t, et⟩ : ∃ t, tts[0]? = some t := by
      cases e : tts with
      | nil =>
        have := ttE.1
        rw [e] at this
        rw [List.getElem?_eq_none (by rw [← this]; exact Nat.le_refl _)] at z0
        cases z0
      | cons t ts => exact ⟨t, rfl⟩
    obtain ⟨c0, ec, etc⟩ := ttE.2 0 t et
    rw [z0] at ec
    cases ec
    have told : ∀ b : Bool, (b = true ↔ WW.Told ws l) → decide (b = decide (l.length ∈ WW.cl (WW.Link ws l) (l.length + 1) 0)) = true := fun b hb => by
      rw [decide_eq_true_eq, Bool.eq_iff_iff, hb, decide_eq_true_eq, WW.cl_mem]
      exact ⟨fun z => ⟨by omega, z⟩, fun z => z.2⟩
    refine RD.d_ixL (SqL.of eddE) (atI_nat (j := 0) (v := .ref t) (by rw [List.getElem?_map, et]; rfl)) ?_
    walk_at "tx"
    refine ⟨t, _, rfl, .inr (SqT.of etc), rfl, flat_Ns _, ?_⟩
    rw [if_neg Bool.false_ne_true, inV_Ns]
    refine ⟨b1, _, rfl, ?_⟩
    rw [told b1 hb1]
    walk_at "tx"
    refine ⟨y, qs, l, rfl, bk2E, okq, hl2, fun b2 HF sF hb2 => ?_⟩
    have hb2 : b2 = true ↔ WW.Told ws l := by
      unfold WW.Told at hb2 ⊢
      rwa [le] at hb2
    walk_at "tx"
    refine RD.d_ixL (SqL.of (sF _ _ eddE)) (atI_nat (j := 0) (v := .ref t) (by rw [List.getElem?_map, et]; rfl)) ?_
    refine ⟨t, _, rfl, .inr (SqT.of (sF _ _ etc)), rfl, flat_Ns _, ?_⟩
    rw [if_neg Bool.false_ne_true, inV_Ns]
    refine ⟨b2, _, rfl, ?_⟩
    rw [told b2 hb2]
    exact k HF
end

/-! ### errors with a value -/
def spWE (K : PySem.W.Frag) : Sp := fun vs H Q _ => ∃ (a C : Addr) (v : V), vs = [.ref a, v] ∧ OexC K C ∧ PySem.W.findIn K (.ref C) "value" = some none ∧ H a = some (exo a C none) ∧
  ∀ d, H d = none → d ≠ a → Q .non (upd (upd H d (exd d [("value", v)])) a (exo a C (some d)))
/-- an error's own dict, with its value -/
def ErrD (v : V) : HO := .xd [(("value" : Str), v)]
theorem errD_v (v : V) : List.lookup ("value" : Str) [(("value" : Str), v)] = some v := by simp [List.lookup]
section
variable {P : Program} {w : World} {K : PySem.W.Frag} {mg : Str → Option Value} {base : Heap}
theorem ok_WayError__init (T : Top K mg) : FnOk P w K mg base CX0 1 T.f_WayError__init T.fd_WayError__init ["self", "value"] (spWE K) := by
  refine T.F_WayError__init.ok sc_WayError__init (fun vs H Q E h => ?_) (fun cdv A outer s H vs Q E hr h => ?_)
  · obtain ⟨a, C, v, rfl, _⟩ := h; rfl
  · obtain ⟨a, C, v, rfl, oc, nv, ha, q⟩ := h
    refine ⟨_, (pss_one (ps_ost (pv 0) (pv 1))), ?_⟩
    exact ⟨_, rfl, _, rfl, a, C, rfl, oc, nv, .inl ⟨ha, fun d hd ne => q d hd ne⟩⟩
end
/-- what is asked where such an error is raised -/
theorem d_mkO {K : PySem.W.Frag} {H : Hp} {C : Addr} {v : V} {R : XK} (oc : OexC K C) (nv : PySem.W.findIn K (.ref C) "value" = some none) (k : ∀ d, H d = none → R (.ref C) (some d) (upd H d (ErrD v))) :
    [v].length ≤ 1000 ∧ ∀ a, H a = none → spWE K (.ref a :: ([v] ++ [])) (upd H a (exo a C none))
      (fun u H2 => u = .non ∧ ∃ (d : Addr) (fs : List (Str × V)), H2 a = some (exo a C (some d)) ∧ H2 d = some (exd d fs) ∧ H d = none ∧ R (.ref C) (some d) (upd (del H2 a) d (.xd fs))) (fun _ _ _ => False) := by
  refine ⟨by simp, fun a ha => ⟨a, C, v, rfl, oc, nv, upd_same, fun d hd ne => ⟨rfl, d, [(("value" : Str), v)], upd_same, ?_, ?_, ?_⟩⟩⟩
  · rw [upd_ne ne, upd_same]
  · rw [upd_ne ne] at hd; exact hd
  · have hd0 : H d = none := by rw [upd_ne ne] at hd; exact hd
    have e : upd (del (upd (upd (upd H a (exo a C none)) d (exd d [("value", v)])) a (exo a C (some d))) a) d (.xd [("value", v)]) = upd H d (ErrD v) := by
      funext b
      by_cases hb : b = d
      · subst hb; rw [upd_same, upd_same]; rfl
      · rw [upd_ne hb, upd_ne hb]
        by_cases hba : b = a
        · subst hba; rw [del_same, ha]
        · rw [del_ne hba, upd_ne hba, upd_ne hb, upd_ne hba]
    rw [e]; exact k d hd0
theorem d_raise {K : PySem.W.Frag} {σ : L2.St} {H : Hp} {C : Addr} {ta : TA} {R : XK} (h : ta σ H fun vs H1 => vs.length ≤ 1000 ∧ ∀ a, H1 a = none → spWE K (.ref a :: (vs ++ [])) (upd H1 a (exo a C none))
      (fun u H2 => u = .non ∧ ∃ (d : Addr) (fs : List (Str × V)), H2 a = some (exo a C (some d)) ∧ H2 d = some (exd d fs) ∧ H1 d = none ∧ R (.ref C) (some d) (upd (del H2 a) d (.xd fs))) (fun _ _ _ => False)) :
    tMkO C (spWE K) [] ta σ H R := h

/-! ### integers -/
/-- whether x is an integer (a flag is none) -/
def IsI (K : PySem.W.Frag) (H : Hp) (x : V) (b : Bool) : Prop := ∃ (t : Value) (b1 b2 : Bool), TyX K H x t ∧ PySem.W.kitOne K t (.type "int") = some b1 ∧ PySem.W.kitOne K t (.type "bool") = some b2 ∧ b = (b1 && !b2)
theorem isI_int {K : PySem.W.Frag} {H : Hp} (i : Int) : IsI K H (.int i) true := ⟨.type "int", true, false, .base (.int i), kit_ty (by decide +kernel), kit_ty (by decide +kernel), rfl⟩
theorem isI_bl {K : PySem.W.Frag} {H : Hp} (i : Bool) : IsI K H (.bl i) false := ⟨.type "bool", true, true, .base (.bl i), kit_ty (by decide +kernel), kit_ty (by decide +kernel), rfl⟩
theorem isI_non {K : PySem.W.Frag} {H : Hp} : IsI K H .non false := ⟨.type "NoneType", false, false, .base .non, kit_ty (by decide +kernel), kit_ty (by decide +kernel), rfl⟩
theorem isI_str {K : PySem.W.Frag} {H : Hp} (z : Str) : IsI K H (.str z) false := ⟨.type "str", false, false, .base (.str z), kit_ty (by decide +kernel), kit_ty (by decide +kernel), rfl⟩
theorem isI_lst {K : PySem.W.Frag} {H : Hp} {a : Addr} {xs : List V} (e : H a = some (.lst xs)) : IsI K H (.ref a) false := ⟨.type "list", false, false, .base (.lst e), kit_ty (by decide +kernel), kit_ty (by decide +kernel), rfl⟩
theorem isI_tup {K : PySem.W.Frag} {H : Hp} {a : Addr} {xs : List V} (e : H a = some (.tup xs)) : IsI K H (.ref a) false := ⟨.type "tuple", false, false, .base (.tup e), kit_ty (by decide +kernel), kit_ty (by decide +kernel), rfl⟩
theorem isI_dK {K : PySem.W.Frag} {H : Hp} {a : Addr} {xs : List (Key × V)} (e : H a = some (.dK xs)) : IsI K H (.ref a) false := ⟨.type "dict", false, false, .base (.dK e), kit_ty (by decide +kernel), kit_ty (by decide +kernel), rfl⟩
def spIsInt (K : PySem.W.Frag) : Sp := fun vs H Q _ => ∃ (x : V) (b : Bool), vs = [x] ∧ IsI K H x b ∧ Q (.bl b) H
section
variable {P : Program} {w : World} {K : PySem.W.Frag} {mg : Str → Option Value} {base : Heap}
theorem ok_is_integer (T : Top K mg) : FnOk P w K mg base CX0 1 T.f_is_integer T.fd_is_integer ["thing"] (spIsInt K) := by
  refine T.F_is_integer.ok sc_is_integer (fun vs H Q E h => ?_) (fun cdv A outer s H vs Q E hr h => ?_)
  · obtain ⟨x, b, rfl, _⟩ := h; rfl
  · obtain ⟨x, b, rfl, ⟨t, b1, b2, ty, e1, e2, eb⟩, q⟩ := h
    refine ⟨_, (pss_one (ps_ret (pe_and (pe_callB call_isi (by rfl) T.n_isinstance (by decide +kernel) (pa_cons (pv 0) (pa_cons (pe_bltn (v := V.ty "int") (by rfl) T.n_int (by decide +kernel) rfl) pa_nil))) (pe_one (pe_not (pe_callB call_isi (by rfl) T.n_isinstance (by decide +kernel) (pa_cons (pv 0) (pa_cons (pe_bltn (v := V.ty "bool") (by rfl) T.n_bool (by decide +kernel) rfl) pa_nil)))))))), ?_⟩
    walk_at "rd"
    refine RD.d_isi (.ty _) ty e1 ?_
    walk_at "rd"
    cases b1 with
    | false =>
      walk_at "rd"
      rw [eb] at q; exact q
    | true =>
      walk_at "rd"
      refine RD.d_isi (.ty _) ty e2 ?_
      walk_at "rd"
      rw [eb] at q
      simpa using q
end

/-! ### neighbours -/
open WW (Ns)
section
variable {P : Program} {w : World} {K : PySem.W.Frag} {mg : Str → Option Value} {base : Heap}
/-- whether a thing is a spot of a word of n letters -/
def IsSp (K : PySem.W.Frag) (H : Hp) (n : Nat) (x : V) (b : Bool) : Prop := (∃ i : Int, x = .int i ∧ b = decide (0 ≤ i ∧ i ≤ n)) ∨ (IsI K H x false ∧ b = false)
def spSpot (K : PySem.W.Frag) : Sp := fun vs H Q _ => ∃ (l : WW.Wd) (x : V) (b : Bool), vs = [.str (WW.S l), x] ∧ l.length ≤ 40 ∧ IsSp K H l.length x b ∧ Q (.bl b) H
theorem ok_is_spot (T : Top K mg) : FnOk P w K mg base CX0 2 T.f_is_spot T.fd_is_spot ["word", "thing"] (spSpot K) := by
  refine T.F_is_spot.ok sc_is_spot (fun vs H Q E h => ?_) (fun cdv A outer s H vs Q E hr h => ?_)
  · obtain ⟨l, x, b, rfl, _⟩ := h; rfl
  · obtain ⟨l, x, b, rfl, l40, is, k⟩ := h
    have lz : l.length ≤ sizeLine := Nat.le_trans l40 (by decide)
    refine ⟨_, (pss_one (ps_ret (pe_and (pe_call (ok_is_integer T) (hr.mono (by decide)) (by rfl) T.g_is_integer T.F_is_integer.kp T.b_is_integer .nil pass0 (pa_cons (pv 1) pa_nil)) (pe_one (pe_chain op_le op_le pe_int (pv 1) (pe_callB RD.c_len (by rfl) T.n_len (by decide +kernel) (pa_cons (pv 0) pa_nil))))))), ?_⟩
    walk_at "tx"
    rcases is with ⟨i, rfl, rfl⟩ | ⟨ni, rfl⟩
    · refine ⟨_, true, rfl, isI_int i, ?_⟩
      refine ⟨true, rfl, RD.d_iteT ?_⟩
      refine RD.d_chain ?_
      walk_at "tx"
      refine RD.iteD (fun c1 => ?_) (fun c1 => ?_)
      · walk_at "tx"
        rw [show decide (i ≤ (l.length : Int)) = decide (0 ≤ i ∧ i ≤ (l.length : Int)) from by rw [decide_eq_decide]; exact ⟨fun z => ⟨c1, z⟩, fun z => z.2⟩]
        exact k
      · rw [show decide (0 ≤ i ∧ i ≤ (l.length : Int)) = false from decide_eq_false fun z => c1 z.1] at k
        exact k
    · refine ⟨_, false, rfl, ni, ?_⟩
      refine ⟨false, rfl, RD.d_iteF ?_⟩
      exact k
def spNb (K : PySem.W.Frag) (C CS : Addr) : Sp := fun vs H Q E => ∃ (x : Addr) (ws : List WW.Wd) (l : WW.Wd) (v : V) (b : Bool), vs = [.ref x, .str (WW.S l), v] ∧ BookAt K C H x ws ∧ Okw ws ∧ IsW 40 l ∧ (∀ H', Same H H' → IsSp K H' l.length v b) ∧
  (b = true → ∀ i : Nat, v = .int i → i ≤ l.length → ∀ (rows : Nat → List Nat) (p : Addr) (H' : Hp), Same H H' → H p = none → H' p = some (.lst (Ns (rows i))) → Lks ws l rows → Q (.ref p) H') ∧
  (b = false → ∀ d H', Same H H' → H' d = none → E (.ref CS) (some d) (upd H' d (ErrD v)))
theorem ok_neighbours (T : Top K mg) : FnOk P w K mg base (L2.CX P w) 7 T.f_neighbours T.fd_neighbours ["book", "word", "spot"] (spNb K T.C_Book T.C_BS) := by
  refine T.F_neighbours.okX sc_neighbours (fun vs H Q E h => ?_) (fun cdv A outer s H vs Q E hr h => ?_)
  · obtain ⟨x, ws, l, v, b, rfl, _⟩ := h; rfl
  · obtain ⟨x, ws, l, v, b, rfl, bk, ok, hl, is, k1, k2⟩ := h
    have l40 := hl.hi
    refine ⟨_, (pss_cons (ps_expr (pe_call (ok_check_asked T) (hr.mono (by decide)) (by rfl) T.g_check_asked T.F_check_asked.kp T.b_check_asked .nil pass0 (pa_cons (pv 0) (pa_cons (pv 1) pa_nil))))
 (pss_cons (ps_if (pt_not (pt_val (pe_call (ok_is_spot T) (hr.mono (by decide)) (by rfl) T.g_is_spot T.F_is_spot.kp T.b_is_spot .nil pass0 (pa_cons (pv 1) (pa_cons (pv 2) pa_nil)))))
 (pss_one (ps_raise rfl (takes_of rfl rfl rfl rfl) (pmk_oex T.oex_BadSpot T.i_BadSpot T.tI (ok_WayError__init T) (hr.mono (by decide)) T.b_WayError__init .nil pass0 (by rfl) T.g_BadSpot (pa_cons (pv 2) pa_nil))))
 pss_nil)
 (pss_one (ps_ret (pe_ix ix_list (pe_call (ok_links_of T) (hr.mono (by decide)) (by rfl) T.g_links_of T.F_links_of.kp T.b_links_of .nil pass0 (pa_cons (pv 0) (pa_cons (pv 1) pa_nil))) (pv 2) (fun _ _ => rfl)))))), ?_⟩
    walk_at "tx"
    refine ⟨x, ws, l, rfl, bk, hl, fun H1 s1 => ?_⟩
    walk_at "tx"
    refine ⟨l, v, b, rfl, l40, is H1 s1, ?_⟩
    cases b with
    | false =>
      refine ⟨false, rfl, RD.d_iteNF ?_⟩
      refine d_raise ?_
      walk_at "tx"
      exact d_mkO T.oex_BadSpot T.v_BadSpot fun d hd => k2 rfl d H1 s1 hd
    | true =>
      refine ⟨true, rfl, RD.d_iteNT ?_⟩
      walk_at "tx"
      refine ⟨x, ws, l, rfl, bk.same s1, ok, hl, fun H2 L rows s2 hL R lk => ?_⟩
      rcases is H2 (s1.trans s2) with ⟨i, rfl, ib⟩ | ⟨_, z⟩
      · have ib := of_decide_eq_true ib.symm
        obtain ⟨rs, h1, h2, h3⟩ := R
        have il : i.toNat < rs.length := by omega
        have ea : rs[i.toNat]? = some rs[i.toNat] := List.getElem?_eq_getElem il
        walk_at "tx"
        refine RD.d_ixL (SqL.of h2) (i := i) (v := .ref rs[i.toNat]) (by
          have := atI_nat (xs := rs.map V.ref) (j := i.toNat) (v := .ref rs[i.toNat]) (by rw [List.getElem?_map, ea]; rfl)
          rwa [Int.toNat_of_nonneg ib.1] at this) ?_
        exact k1 rfl i.toNat (by rw [Int.toNat_of_nonneg ib.1]) (by omega) rows _ H2 (s1.trans s2) (s1.free (hL.2 rs h2 _ (List.getElem_mem il))) (h3 _ _ ea) lk
      · cases z
end

/-! ### neighbours, tried -/
open WW (Ns)
def spTry (K : PySem.W.Frag) (C : Addr) : Sp := fun vs H Q _ => ∃ (x : Addr) (ws : List WW.Wd) (l : WW.Wd) (v : V) (b : Bool), vs = [.ref x, .str (WW.S l), v] ∧ BookAt K C H x ws ∧ Okw ws ∧ IsW 40 l ∧ (∀ H', Same H H' → IsSp K H' l.length v b) ∧
  ∀ t H' y, Same H H' → H t = none → H' t = some (.tup [.str (if b = true then "told" else "spot"), if b = true then y else v]) → Q (.ref t) H'
section
variable {P : Program} {w : World} {K : PySem.W.Frag} {mg : Str → Option Value} {base : Heap}
theorem ok_law_told (T : Top K mg) : FnOk P w K mg base CX0 8 T.f_law_told T.fd_law_told ["book", "word", "spot"] (spTry K T.C_Book) := by
  refine T.F_law_told.ok sc_law_told (fun vs H Q E h => ?_) (fun cdv A outer s H vs Q E hr h => ?_)
  · obtain ⟨x, ws, l, v, b, rfl, _⟩ := h; rfl
  · obtain ⟨x, ws, l, v, b, rfl, bk, ok, hl, is, k⟩ := h
    refine ⟨_, (pss_cons (ps_set (i := 3) sc_law_told.nd rfl (Or.inl rfl) (pe_tup (pa_cons pe_str (pa_cons pe_non pa_nil))))
 (pss_cons (ps_try_as (i := 4) (Wout := fun _ _ _ _ => False) rfl rfl sc_law_told.nd rfl rfl ⟨rfl, by decide, Or.inl T.g_BadSpot⟩ takes0 (fun W pn xe tk _ => (pss_one (ps_set (i := 3) sc_law_told.nd rfl (Or.inl rfl) (pe_tup (pa_cons pe_str (pa_cons (pe_callS (ok_neighbours T) (hr.mono (by decide)) (by rfl) T.g_neighbours T.F_neighbours.kp T.b_neighbours (fun σ => passAt tk σ) (pa_cons (pv 0) (pa_cons (pv 1) (pa_cons (pv 2) pa_nil)))) pa_nil)))))) (fun a oe cls d pn hz hf => (pss_one (ps_set (i := 3) sc_law_told.nd rfl (Or.inl rfl) (pe_tup (pa_cons pe_str (pa_cons (pe_xf T.xf_BadSpot T.v_BadSpot hz hf (pv 4)) pa_nil)))))))
 (pss_one (ps_ret (pv 3))))), ?_⟩
    walk_at "tx"
    refine ⟨by show 2 ≤ sizeLine; decide, fun p hp => ?_⟩
    have s1 := same_upd (o := HO.tup [V.str (Str.ofString "none"), V.non]) hp
    generalize upd H p (.tup [V.str (Str.ofString "none"), V.non]) = H1 at *
    walk_at "tx"
    unfold tCallS
    walk_at "tx"
    refine ⟨x, ws, l, v, b, rfl, bk.same s1, ok, hl, fun H' s => is H' (s1.trans s), fun hb i ev il rows q H2 s2 hq eq lk => ?_, fun hb d H2 s2 hd => ?_⟩
    · walk_at "tx"
      refine ⟨by show 2 ≤ sizeLine; decide, fun t ht => ?_⟩
      have s3 := (s1.trans s2).trans (same_upd (o := HO.tup [.str "told", .ref q]) ht)
      subst hb
      walk_at "tx"
      exact k t _ (.ref q) s3 ((s1.trans s2).free ht) upd_same
    · subst hb
      refine ⟨true, T.exm, fun _ a ha => ?_, fun z => by cases z⟩
      walk_at "tx"
      refine ⟨rfl, rfl, d, _, v, rfl, upd_same, errD_v _, ?_⟩
      walk_at "tx"
      refine ⟨by show 2 ≤ sizeLine; decide, fun t ht => ?_⟩
      have s3 := ((s1.trans s2).trans (same_upd (o := ErrD v) hd)).trans (same_upd (o := HO.tup [.str "spot", v]) ht)
      walk_at "tx"
      exact k t _ .non s3 (((s1.trans s2).trans (same_upd (o := ErrD v) hd)).free ht) upd_same
end

/-! ### the law's first part -/
open WW (Ns)
theorem Tn_shapedL (p : List Nat) : SeqAt.shaped (.list (OQ.Tn p)) = true := by
  obtain ⟨h1, h2⟩ := OQ.Tn_lay p
  unfold SeqAt.shaped; rw [PyData.canLay0, PyData.depth, h1, h2]; rfl
theorem d_neNs {K : PySem.W.Frag} {H : Hp} {Q : VK} {a b : Addr} {p : List Nat} (ea : H a = some (.lst (Ns p))) (eb : H b = some (.lst (Ns p))) (k : Q (.bl false) H) : rNeD K (.ref a) (.ref b) H Q :=
  ⟨_, _, .lst (SqL.of ea) (OQ.Tn_all p), .lst (SqL.of eb) (OQ.Tn_all p), Tn_shapedL p, Tn_shapedL p, by rw [PyData.eqv, OQ.Tn_eqv]; exact k⟩
theorem mk_bookS {K : PySem.W.Frag} {C : Addr} {H : Hp} {x dx a : Addr} {ws : List WW.Wd} {R : VK} {E : XK} (hx : H x = none) (hdx : H dx = none) (ndx : dx ≠ x) (ea : OQ.SeqAt K H a (WW.Ss ws)) (ok : Okw ws)
    (r : ∀ H2, Same H H2 → BookAt K C H2 x ws → R .non H2) : spBookI K C [.ref x, .ref a] (upd (upd H dx (.own x)) x (.ins C dx [])) R E := by
  have s1 : Same H (upd (upd H dx (.own x)) x (.ins C dx [])) := same_put (same_upd hdx) hx
  refine ⟨x, dx, a, ws, rfl, upd_same, ea.same s1, ok, fun H' kx b => r H' (fun b o e => kx b o (ne_of_none e hx) (s1 _ _ e)) b⟩
theorem row_near {ws : List WW.Wd} {l : WW.Wd} {rows : Nat → List Nat} {i : Nat} (h : Lks ws l rows) (n : ∀ w ∈ ws, w ≠ []) (hi : i ≤ l.length) : rows i = near ws l i :=
  WW.asc_uniq (h.up i) (near_up ws l i) fun v => by rw [near_mem n hi, h.mem]
/-- a thing that is no spot of a word of n letters, and is equal to itself -/
structure Thing (K : PySem.W.Frag) (n : Nat) (H : Hp) (y : V) : Prop where
  no : IsSp K H n y false
  eq : ∃ d, Dp K H y d ∧ d.canLay0 = true ∧ d.depth ≤ 2 ∧ PyData.eqv d d = true
  ty : ∃ t b, TyX K H y t ∧ PySem.W.kitOne K t (.type "bool") = some b
theorem Thing.ne {K : PySem.W.Frag} {n : Nat} {H : Hp} {y : V} {Q : VK} {t u : Addr} (h : Thing K n H y) (et : H t = some (.tup [.str "spot", y])) (eu : H u = some (.tup [.str "spot", y])) (k : Q (.bl false) H) : rNeD K (.ref t) (.ref u) H Q := by
  obtain ⟨d, hd, h1, h2, h3⟩ := h.eq
  have sh : SeqAt.shaped (.tuple [.str "spot", d]) = true := by
    unfold SeqAt.shaped
    rw [PyData.canLay0, PyData.canLayAll0, PyData.canLayAll0, PyData.canLayAll0, PyData.canLay0, h1, PyData.depth, PyData.depthAll, PyData.depthAll, PyData.depthAll, PyData.depth]
    rw [Bool.and_eq_true, decide_eq_true_eq]
    exact ⟨by decide +kernel, by omega⟩
  refine ⟨_, _, .tup (SqT.of et) (.cons (.str _) (.cons hd .nil)), .tup (SqT.of eu) (.cons (.str _) (.cons hd .nil)), sh, sh, ?_⟩
  rw [PyData.eqv, PyData.eqvAll, PyData.eqvAll, PyData.eqvAll, h3, PyData.eqv]
  exact k
theorem thing_int {K : PySem.W.Frag} {n : Nat} {H : Hp} {i : Int} (h : ¬ (0 ≤ i ∧ i ≤ n)) : Thing K n H (.int i) :=
  ⟨.inl ⟨i, rfl, (decide_eq_false h).symm⟩, ⟨_, .int i, by rw [PyData.canLay0], by rw [PyData.depth]; omega, by rw [PyData.eqv]; simp⟩, ⟨_, false, .base (.int i), kit_ty (by decide +kernel)⟩⟩
theorem thing_bl {K : PySem.W.Frag} {n : Nat} {H : Hp} (b : Bool) : Thing K n H (.bl b) :=
  ⟨.inr ⟨isI_bl b, rfl⟩, ⟨_, .bl b, by rw [PyData.canLay0], by rw [PyData.depth]; omega, by rw [PyData.eqv]; simp⟩, ⟨_, true, .base (.bl b), kit_ty (by decide +kernel)⟩⟩
theorem thing_non {K : PySem.W.Frag} {n : Nat} {H : Hp} : Thing K n H .non :=
  ⟨.inr ⟨isI_non, rfl⟩, ⟨_, .non, by rw [PyData.canLay0], by rw [PyData.depth]; omega, by rw [PyData.eqv]⟩, ⟨_, false, .base .non, kit_ty (by decide +kernel)⟩⟩
theorem thing_str0 {K : PySem.W.Frag} {n : Nat} {H : Hp} : Thing K n H (.str "0") :=
  ⟨.inr ⟨isI_str _, rfl⟩, ⟨_, .str _, by rw [PyData.canLay0]; decide +kernel, by rw [PyData.depth]; omega, by rw [PyData.eqv]; simp⟩, ⟨_, false, .base (.str _), kit_ty (by decide +kernel)⟩⟩
theorem thing_lst0 {K : PySem.W.Frag} {n : Nat} {H : Hp} {q : Addr} (e : H q = some (.lst [.int 0])) : Thing K n H (.ref q) :=
  ⟨.inr ⟨isI_lst e, rfl⟩, ⟨_, .lst (SqL.of e) (.cons (.int 0) .nil), by rw [PyData.canLay0, PyData.canLayAll0, PyData.canLayAll0, PyData.canLay0]; rfl, by rw [PyData.depth, PyData.depthAll, PyData.depthAll, PyData.depth]; omega, by rw [PyData.eqv, PyData.eqvAll, PyData.eqvAll, PyData.eqv]; simp⟩, ⟨_, false, .base (.lst e), kit_ty (by decide +kernel)⟩⟩
def spFst (K : PySem.W.Frag) : Sp := fun vs H Q _ => ∃ (a : Addr) (ns : List Int), vs = [.ref a] ∧ SqL K H a (ns.map V.int) ∧ ns.length ≤ 63 ∧ ∀ H', Same H H' → Q (.bl true) H'
section
variable {P : Program} {w : World} {K : PySem.W.Frag} {mg : Str → Option Value} {base : Heap}
theorem ok_law_first (T : Top K mg) : FnOk P w K mg base CX0 11 T.f_law_first T.fd_law_first ["script"] (spFst K) := by
  refine T.F_law_first.ok sc_law_first (fun vs H Q E h => ?_) (fun cdv A outer s H vs Q E hr h => ?_)
  · obtain ⟨a, ns, rfl, _⟩ := h; rfl
  · obtain ⟨ad, ns, rfl, hS, hl, k⟩ := h
    refine ⟨_, (pss_cons (ps_set (i := 1) sc_law_first.nd rfl (Or.inl rfl) (pe_call (ok_law_tape T) (hr.mono (by decide)) (by rfl) T.g_law_tape T.F_law_tape.kp T.b_law_tape .nil pass0 (pa_cons (pv 0) pa_nil)))
 (pss_cons (ps_set (i := 2) sc_law_first.nd rfl (Or.inl rfl) (pe_call (ok_law_word T) (hr.mono (by decide)) (by rfl) T.g_law_word T.F_law_word.kp T.b_law_word .nil pass0 (pa_cons (pv 1) (pa_cons pe_int pa_nil))))
 (pss_cons (ps_set (i := 3) sc_law_first.nd rfl (Or.inl rfl) (pe_call (ok_law_watches T) (hr.mono (by decide)) (by rfl) T.g_law_watches T.F_law_watches.kp T.b_law_watches .nil pass0 (pa_cons (pv 1) (pa_cons (pv 2) (pa_cons (pe_call (ok_law_pick T) (hr.mono (by decide)) (by rfl) T.g_law_pick T.F_law_pick.kp T.b_law_pick .nil pass0 (pa_cons (pv 1) (pa_cons pe_int pa_nil))) (pa_cons pe_int pa_nil))))))
 (pss_cons (ps_set (i := 4) sc_law_first.nd rfl (Or.inl rfl) (pe_make T.M_Book (ok_Book__init T) (hr.mono (by decide)) (by rfl) T.g_Book T.b_Book__init .nil pass0 (pa_cons (pv 3) pa_nil)))
 (pss_cons (ps_for PassesOwn.never rfl (pi_range1 (by rfl) T.n_range (pa_cons (pe_op op_add (pe_callB RD.c_len (by rfl) T.n_len (by decide +kernel) (pa_cons (pv 2) pa_nil)) pe_int) pa_nil)) (pg_name (i := 5) sc_law_first.nd rfl (Or.inl rfl))
 (pss_cons (ps_set (i := 6) sc_law_first.nd rfl (Or.inl rfl) (pe_call (ok_law_near T) (hr.mono (by decide)) (by rfl) T.g_law_near T.F_law_near.kp T.b_law_near .nil pass0 (pa_cons (pv 3) (pa_cons (pv 2) (pa_cons (pv 5) pa_nil)))))
 (pss_cons (ps_set (i := 7) sc_law_first.nd rfl (Or.inl rfl) (pe_call (ok_neighbours T) (hr.mono (by decide)) (by rfl) T.g_neighbours T.F_neighbours.kp T.b_neighbours .nil OQ.passN (pa_cons (pv 4) (pa_cons (pv 2) (pa_cons (pv 5) pa_nil)))))
 (pss_cons (ps_if (PW.pt (pw_or (pt_not (pt_val (pe_callB call_isi (by rfl) T.n_isinstance (by decide +kernel) (pa_cons (pv 7) (pa_cons (pe_bltn (v := V.ty "list") (by rfl) T.n_list (by decide +kernel) rfl) pa_nil))))) (pw_or1 (pt_cmpR (op_neD hr.units) (pv 7) (pv 6) (nomark _)))))
 (pss_one (ps_ret pe_bl))
 pss_nil)
 (pss_cons (ps_expr (pe_bm PySem.F.plainAttrs_list PySem.F.slot_list_append PySem.F.type_list_append mt_append (pv 7) (pa_cons pe_int pa_nil)))
 (pss_one (ps_if (PW.pt (pw_and (pt_cmpR op_eq (pe_op op_mod (pe_callTy RD.c_int (by rfl) T.n_int (by decide +kernel) (pa_cons (pv 5) pa_nil)) pe_int) pe_int (nomark _)) (pw_and1 (pt_cmpR (op_neD hr.units) (pe_call (ok_neighbours T) (hr.mono (by decide)) (by rfl) T.g_neighbours T.F_neighbours.kp T.b_neighbours .nil OQ.passN (pa_cons (pe_make T.M_Book (ok_Book__init T) (hr.mono (by decide)) (by rfl) T.g_Book T.b_Book__init .nil pass0 (pa_cons (pe_callTy (OQ.tupK K) (by rfl) T.n_tuple (by decide +kernel) (pa_cons (pv 3) pa_nil)) pa_nil)) (pa_cons (pv 2) (pa_cons (pv 5) pa_nil)))) (pv 6) (nomark _)))))
 (pss_one (ps_ret pe_bl))
 pss_nil)))))))
 (pss_cons (ps_for PassesOwn.never rfl (pi_list (pe_lst (pa_cons (pe_un un_neg pe_int) (pa_cons (pe_op op_add (pe_callB RD.c_len (by rfl) T.n_len (by decide +kernel) (pa_cons (pv 2) pa_nil)) pe_int) (pa_cons pe_bl (pa_cons pe_bl (pa_cons pe_non (pa_cons pe_str (pa_cons (pe_lst (pa_cons pe_int pa_nil)) (pa_cons (pe_op op_pow pe_int pe_int) pa_nil)))))))))) (pg_name (i := 5) sc_law_first.nd rfl (Or.inl rfl))
 (pss_cons (ps_set (i := 7) sc_law_first.nd rfl (Or.inl rfl) (pe_call (ok_law_told T) (hr.mono (by decide)) (by rfl) T.g_law_told T.F_law_told.kp T.b_law_told .nil pass0 (pa_cons (pv 4) (pa_cons (pv 2) (pa_cons (pv 5) pa_nil)))))
 (pss_one (ps_if (PW.pt (pw_or (pt_cmpR (op_neD hr.units) (pv 7) (pe_tup (pa_cons pe_str (pa_cons (pv 5) pa_nil))) (nomark _)) (pw_or1 (pt_cmpR op_ne (pe_callB call_isi (by rfl) T.n_isinstance (by decide +kernel) (pa_cons (pe_ix ix_tup (pv 7) pe_int (fun _ _ => rfl)) (pa_cons (pe_bltn (v := V.ty "bool") (by rfl) T.n_bool (by decide +kernel) rfl) pa_nil))) (pe_callB call_isi (by rfl) T.n_isinstance (by decide +kernel) (pa_cons (pv 5) (pa_cons (pe_bltn (v := V.ty "bool") (by rfl) T.n_bool (by decide +kernel) rfl) pa_nil))) (nomark _)))))
 (pss_one (ps_ret pe_bl))
 pss_nil))))
 (pss_one (ps_ret (pe_and (pe_cmpR op_eq (pe_ix ix_tup (pe_call (ok_law_told T) (hr.mono (by decide)) (by rfl) T.g_law_told T.F_law_told.kp T.b_law_told .nil pass0 (pa_cons (pv 4) (pa_cons (pv 2) (pa_cons pe_int pa_nil)))) pe_int (fun _ _ => rfl)) pe_str (nomark _)) (pe_one (pe_cmpR op_eq (pe_ix ix_tup (pe_call (ok_law_told T) (hr.mono (by decide)) (by rfl) T.g_law_told T.F_law_told.kp T.b_law_told .nil pass0 (pa_cons (pv 4) (pa_cons (pv 2) (pa_cons (pe_callB RD.c_len (by rfl) T.n_len (by decide +kernel) (pa_cons (pv 2) pa_nil)) pa_nil)))) pe_int (fun _ _ => rfl)) pe_str (nomark _)))))))))))), ?_⟩
    walk_at "tx"
    refine ⟨ad, ns, rfl, hS, fun h c H1 hT1 s1 hh hc => ?_⟩
    walk_at "tx"
    refine ⟨h, c, 40, rfl, hT1, by decide, by decide, fun l H2 hT2 k2 hl2 => ?_⟩
    walk_at "tx"
    refine ⟨h, c, 13, rfl, hT2, by decide, log2_lt (by decide), fun many H3 a3 b3 hT3 k3 => ?_⟩
    walk_at "tx"
    refine ⟨h, c, l, many.toNat, 12, by rw [Int.toNat_of_nonneg a3]; rfl, hT3, hl2, by omega, by decide, by decide, fun p ws H4 hT4 k4 hp ep ok => ?_⟩
    have nw : ∀ w ∈ ws, w ≠ [] := fun w m z => by have := (ok.ok w m).lo; rw [z] at this; exact absurd this (by decide)
    have okw : Okw ws := ⟨Nat.le_trans ok.len (by omega), ok.ok, ok.nd⟩
    have l40 := hl2.hi
    have lz : l.length ≤ sizeLine := Nat.le_trans hl2.hi (by decide)
    walk_at "tx"
    intro x dx hx hdx ndx
    refine mk_book hx hdx ndx ep okw fun H5 s5 bk => ⟨rfl, ?_⟩
    have ep5 := s5 _ _ ep
    have s05 : Same H H5 := fun b o e => s5 _ _ (k4 b o (ne_of_none e hh) (by rw [k3 b (ne_of_none e hh)]; exact k2 b o (ne_of_none e hh) (s1 _ _ e)))
    clear hx hdx ndx s5 ep hp k4 hT4 k3 hT3 k2 hT2 hT1 s1 hh hc
    walk_at "tx"
    refine ⟨_, rfl, by omega, by omega, ?_⟩
    rw [show ((l.length : Int) + 1).toNat = l.length + 1 from by omega]
    refine RD.f_range (lo := 0) (n := l.length + 1) (fun i σ' H' => Same H5 H' ∧ ∃ v5 v6 v7 : Option V, σ' = [some (.ref ad), some (.ref h), some (.str (WW.S l)), some (.ref p), some (.ref x), v5, v6, v7])
      ⟨Same.refl _, none, none, none, rfl⟩ ?_ ?_
    · rintro i σ' H6 il ⟨s6, v5, v6, v7, rfl⟩
      walk_at "tx"
      refine ⟨p, ws, l, i, by rw [Int.zero_add]; rfl, SqL.of (s6 _ _ ep5), by omega, by omega, fun d H7 s7 hd ed => ?_⟩
      have s57 := s6.trans s7
      walk_at "tx"
      refine ⟨x, ws, l, .int i, true, by rw [Int.zero_add]; rfl, bk.same s57, okw, hl2, (fun H' _ => .inl ⟨i, rfl, (decide_eq_true (by omega)).symm⟩), (fun _ j ej jl rows u H8 s8 hu eu lk => ?_), (fun z => by cases z)⟩
      obtain rfl : i = j := by have := V.int.inj ej; omega
      rw [row_near lk nw jl] at eu
      have ed8 := s8 _ _ ed
      have s58 := s57.trans s8
      have hu5 := s57.free hu
      have nud : u ≠ d := (ne_of_none ed hu).symm
      walk_at "tx"
      refine RD.d_isi (.ty _) (.base (.lst eu)) kit_selfR ?_
      refine ⟨true, rfl, RD.d_iteNT ?_⟩
      walk_at "tx"
      refine d_neNs eu ed8 ?_
      walk_at "tx"
      refine ⟨RD.tyL eu, ?_⟩
      walk_at "tx"
      have nl : (near ws l i).length ≤ 100 := Nat.le_trans (List.length_filter_le ..) (by rw [List.length_range]; omega)
      refine RD.d_app eu (by rw [WW.Ns_len]; exact Nat.lt_of_le_of_lt nl (by decide)) ?_
      have s9 : Same H5 (upd H8 u (.lst (Ns (near ws l i) ++ [V.int 99]))) := same_put s58 hu5
      have ed9 : upd H8 u (.lst (Ns (near ws l i) ++ [V.int 99])) d = some (.lst (Ns (near ws l i))) := by rw [upd_ne nud.symm]; exact ed8
      generalize upd H8 u (.lst (Ns (near ws l i) ++ [V.int 99])) = H9 at *
      clear nl nud hu5 s58 ed8 eu lk s8 hu s57 ed hd s7 s6
      walk_at "tx"
      refine RD.iteD (fun c => ?_) (fun c => ?_)
      · walk_at "tx"
        refine OQ.d_tupSeq (.inl (SqL.of (s9 _ _ ep5))) (fun HA t sA sq => ?_)
        intro y dy hy hdy ndy
        refine mk_bookS hy hdy ndy (.inr sq) okw fun HB sB bk2 => ⟨rfl, ?_⟩
        have s9B := (s9.trans sA).trans sB
        have edB := sB _ _ (sA _ _ ed9)
        clear ed9 sA sB hy hdy sq
        walk_at "tx"
        refine ⟨y, ws, l, .int i, true, by rw [Int.zero_add]; rfl, bk2, okw, hl2, (fun H' _ => .inl ⟨i, rfl, (decide_eq_true (by omega)).symm⟩), (fun _ j ej jl rows u H8 s8 hu eu lk => ?_), (fun z => by cases z)⟩
        obtain rfl : i = j := by have := V.int.inj ej; omega
        rw [row_near lk nw jl] at eu
        walk_at "tx"
        refine d_neNs eu (s8 _ _ edB) ?_
        walk_at "tx"
        exact ⟨s9B.trans s8, _, _, _, rfl⟩
      · walk_at "tx"
        exact ⟨s9, _, _, _, rfl⟩
    · rintro σ' H6 ⟨s6, v5, v6, v7, rfl⟩
      walk_at "tx"
      refine ⟨by show 1 ≤ sizeLine; decide, fun q hq => ?_⟩
      have s7 := s6.trans (same_upd (o := HO.lst [V.int 0]) hq)
      have eq7 : upd H6 q (.lst [V.int 0]) q = some (.lst [V.int 0]) := upd_same
      generalize upd H6 q (.lst [V.int 0]) = H7 at *
      walk_at "tx"
      refine ⟨by show 8 ≤ sizeLine; decide, fun L hL => ?_⟩
      have hw : ∀ z : Int, z = (10 : Int) ^ (20 : Int).toNat → ¬ (0 ≤ z ∧ z ≤ (l.length : Int)) := fun z e => by
        have : (10 : Int) ^ (20 : Int).toNat = 100000000000000000000 := by decide +kernel
        omega
      generalize hbig : (10 : Int) ^ (20 : Int).toNat = big at *
      have things : ∀ y ∈ [V.int (-1), V.int ((l.length : Int) + 1), V.bl true, V.bl false, V.non, V.str (Str.ofString "0"), V.ref q, V.int big], ∀ H', Same H7 H' → Thing K l.length H' y := by
        intro y m H' s'
        simp only [List.mem_cons, List.not_mem_nil, or_false] at m
        rcases m with rfl | rfl | rfl | rfl | rfl | rfl | rfl | rfl
        · exact thing_int (by omega)
        · exact thing_int (by omega)
        · exact thing_bl _
        · exact thing_bl _
        · exact thing_non
        · exact thing_str0
        · exact thing_lst0 (s' _ _ eq7)
        · exact thing_int (hw _ rfl)
      generalize hxs : [V.int (-1), V.int ((l.length : Int) + 1), V.bl true, V.bl false, V.non, V.str (Str.ofString "0"), V.ref q, V.int big] = xs at *
      have sL := same_upd (o := HO.lst xs) hL
      have s8 := s7.trans sL
      have eL : upd H7 L (.lst xs) L = some (.lst xs) := upd_same
      generalize upd H7 L (.lst xs) = H8 at *
      clear hxs hbig hw hL hq
      refine ⟨L, rfl, ⟨_, SqL.of eL⟩, ?_⟩
      refine RD.f_list (K := K) (a := L) (xs := xs) (fun i σ' H' => Same H8 H' ∧ ∃ v5 v6 v7 : Option V, σ' = [some (.ref ad), some (.ref h), some (.str (WW.S l)), some (.ref p), some (.ref x), v5, v6, v7])
        ⟨Same.refl _, _, _, _, rfl⟩ ?_ ?_ ?_
      · rintro i σ' H' _ ⟨s9, _⟩
        exact SqL.of (s9 _ _ eL)
      · rintro i y σ' H9 hy ⟨s9, v5, v6, v7, rfl⟩
        have ty := things y (List.mem_of_getElem? hy)
        have s79 := sL.trans s9
        walk_at "tx"
        refine ⟨x, ws, l, y, false, rfl, bk.same (s8.trans s9), okw, hl2, fun H' s => (ty H' (s79.trans s)).no, fun t HA _ sA ht et => ?_⟩
        rw [if_neg Bool.false_ne_true, if_neg Bool.false_ne_true] at et
        walk_at "tx"
        refine ⟨by show 2 ≤ sizeLine; decide, fun u hu => ?_⟩
        have sB := sA.trans (same_upd (o := HO.tup [V.str "spot", y]) hu)
        have etB : upd HA u (.tup [V.str "spot", y]) t = some (.tup [V.str "spot", y]) := by rw [upd_ne (ne_of_none et hu)]; exact et
        have euB : upd HA u (.tup [V.str "spot", y]) u = some (.tup [V.str "spot", y]) := upd_same
        refine (ty _ (s79.trans sB)).ne etB euB ?_
        generalize upd HA u (.tup [V.str "spot", y]) = HB at *
        walk_at "tx"
        obtain ⟨tt, bb, tx, ek⟩ := (ty _ (s79.trans sB)).ty
        refine RD.d_isi (.ty _) tx ek ?_
        walk_at "tx"
        refine RD.d_isi (.ty _) tx ek ?_
        walk_at "tx"
        refine ⟨rfl, _, rfl, ?_⟩
        rw [decide_eq_true (rfl : V.bl bb = V.bl bb)]
        walk_at "tx"
        exact ⟨s9.trans sB, _, _, _, rfl⟩
      · rintro σ' H9 ⟨s9, v5, v6, v7, rfl⟩
        have sz : ∀ j : Nat, j ≤ l.length → ∀ H', IsSp K H' l.length (.int (j : Nat)) true := fun j hj H' => .inl ⟨j, rfl, (decide_eq_true (by omega)).symm⟩
        walk_at "tx"
        refine ⟨x, ws, l, .int 0, true, rfl, bk.same (s8.trans s9), okw, hl2, fun H' s => sz 0 (Nat.zero_le _) H', fun t HA _ sA ht et => ?_⟩
        rw [if_pos rfl, if_pos rfl] at et
        walk_at "tx"
        rw [if_pos (decide_eq_true rfl)]
        walk_at "tx"
        refine ⟨x, ws, l, .int (l.length : Nat), true, rfl, bk.same ((s8.trans s9).trans sA), okw, hl2, fun H' s => sz l.length (Nat.le_refl _) H', fun t2 HB _ sB ht2 et2 => ?_⟩
        rw [if_pos rfl, if_pos rfl] at et2
        walk_at "tx"
        rw [decide_eq_true rfl]
        exact k HB (s05.trans (((s8.trans s9).trans sA).trans sB))
end

/-! ### the law -/
def spLaw (K : PySem.W.Frag) : Sp := fun vs H Q _ => ∃ (a : Addr) (ns : List Int), vs = [.ref a] ∧ SqL K H a (ns.map V.int) ∧ ns.length ≤ 63 ∧ ∀ H', Q (.bl true) H'
section
variable {P : Program} {w : World} {K : PySem.W.Frag} {mg : Str → Option Value} {base : Heap}
theorem ok_law (T : Top K mg) : FnOk P w K mg base CX0 12 T.f_law T.fd_law ["script"] (spLaw K) := by
  refine T.F_law.ok sc_law (fun vs H Q E h => ?_) (fun cdv A outer s H vs Q E hr h => ?_)
  · obtain ⟨a, ns, rfl, _⟩ := h; rfl
  · obtain ⟨ad, ns, rfl, hS, hl, k⟩ := h
    refine ⟨_, (pss_one (ps_ret (pe_and (pe_call (ok_law_first T) (hr.mono (by decide)) (by rfl) T.g_law_first T.F_law_first.kp T.b_law_first .nil pass0 (pa_cons (pv 0) pa_nil)) (pe_one (pe_call (ok_law_second T) (hr.mono (by decide)) (by rfl) T.g_law_second T.F_law_second.kp T.b_law_second .nil pass0 (pa_cons (pv 0) pa_nil)))))), ?_⟩
    walk_at "tx"
    refine ⟨ad, ns, rfl, hS, hl, fun H1 s1 => ?_⟩
    walk_at "tx"
    refine ⟨ad, ns, rfl, s1.seq hS, hl, fun H2 => ?_⟩
    exact k H2
end

theorem facts {P : Program} {w : World} {K : PySem.W.Frag} {h : Heap} {mg : Str → Option Value} {f : Addr} (X : K.In h) (G : h.Ns mainGlobals mg) (hfa : mg ("law" : Str) = some (.ref f)) (c : He.SaysD faH fnH K) (x : exH K = true) :
    ∃ fd : FuncData, (∀ (s : Shared) (v : Value), BindsTo s fd ⟨[v], []⟩ [("script", v)]) ∧ ∀ base : Heap, K.In base → base.Ns mainGlobals mg → FnOk P w K mg base CX0 12 f fd ["script"] (spLaw K) := by
  obtain ⟨fdWayError__init, DWayError__init⟩ := c.def_ 0 (d := dH_WayError__init) rfl
  have FWayError__init : Fun K _ _ s_WayError__init _ fdWayError__init := OQ.fun_of DWayError__init
  have bWayError__init := FWayError__init.binds (ps := ["self", "value"]) fun _ _ _ _ _ _ us hl => match us, hl with | [_, _], _ => rfl
  obtain ⟨fdis_integer, Dis_integer⟩ := c.def_ 1 (d := dH_is_integer) rfl
  have Fis_integer : Fun K _ _ s_is_integer _ fdis_integer := OQ.fun_of Dis_integer
  have bis_integer := Fis_integer.binds (ps := ["thing"]) fun _ _ _ _ _ _ us hl => match us, hl with | [_], _ => rfl
  obtain ⟨fdis_row, Dis_row⟩ := c.def_ 2 (d := dH_is_row) rfl
  have Fis_row : Fun K _ _ s_is_row _ fdis_row := OQ.fun_of Dis_row
  have bis_row := Fis_row.binds (ps := ["thing"]) fun _ _ _ _ _ _ us hl => match us, hl with | [_], _ => rfl
  obtain ⟨fdis_word, Dis_word⟩ := c.def_ 3 (d := dH_is_word) rfl
  have Fis_word : Fun K _ _ s_is_word _ fdis_word := OQ.fun_of Dis_word
  have bis_word := Fis_word.binds (ps := ["thing"]) fun _ _ _ _ _ _ us hl => match us, hl with | [_], _ => rfl
  obtain ⟨fdis_watch, Dis_watch⟩ := c.def_ 4 (d := dH_is_watch) rfl
  have Fis_watch : Fun K _ _ s_is_watch _ fdis_watch := OQ.fun_of Dis_watch
  have bis_watch := Fis_watch.binds (ps := ["thing"]) fun _ _ _ _ _ _ us hl => match us, hl with | [_], _ => rfl
  obtain ⟨fdhas_letters, Dhas_letters⟩ := c.def_ 5 (d := dH_has_letters) rfl
  have Fhas_letters : Fun K _ _ s_has_letters _ fdhas_letters := OQ.fun_of Dhas_letters
  have bhas_letters := Fhas_letters.binds (ps := ["thing", "most"]) fun _ _ _ _ _ _ us hl => match us, hl with | [_, _], _ => rfl
  obtain ⟨fdcheck_word, Dcheck_word⟩ := c.def_ 6 (d := dH_check_word) rfl
  have Fcheck_word : Fun K _ _ s_check_word _ fdcheck_word := OQ.fun_of Dcheck_word
  have bcheck_word := Fcheck_word.binds (ps := ["word"]) fun _ _ _ _ _ _ us hl => match us, hl with | [_], _ => rfl
  obtain ⟨fdwrong_watch, Dwrong_watch⟩ := c.def_ 7 (d := dH_wrong_watch) rfl
  have Fwrong_watch : Fun K _ _ s_wrong_watch _ fdwrong_watch := OQ.fun_of Dwrong_watch
  have bwrong_watch := Fwrong_watch.binds (ps := ["watches"]) fun _ _ _ _ _ _ us hl => match us, hl with | [_], _ => rfl
  obtain ⟨fdBook__init, DBook__init⟩ := c.def_ 8 (d := dH_Book__init) rfl
  have FBook__init : Fun K _ _ s_Book__init _ fdBook__init := OQ.fun_of DBook__init
  have bBook__init := FBook__init.binds (ps := ["self", "watches"]) fun _ _ _ _ _ _ us hl => match us, hl with | [_, _], _ => rfl
  obtain ⟨fdcheck_book, Dcheck_book⟩ := c.def_ 9 (d := dH_check_book) rfl
  have Fcheck_book : Fun K _ _ s_check_book _ fdcheck_book := OQ.fun_of Dcheck_book
  have bcheck_book := Fcheck_book.binds (ps := ["book"]) fun _ _ _ _ _ _ us hl => match us, hl with | [_], _ => rfl
  obtain ⟨fdcheck_asked, Dcheck_asked⟩ := c.def_ 10 (d := dH_check_asked) rfl
  have Fcheck_asked : Fun K _ _ s_check_asked _ fdcheck_asked := OQ.fun_of Dcheck_asked
  have bcheck_asked := Fcheck_asked.binds (ps := ["book", "word"]) fun _ _ _ _ _ _ us hl => match us, hl with | [_, _], _ => rfl
  obtain ⟨fdlinks_through, Dlinks_through⟩ := c.def_ 11 (d := dH_links_through) rfl
  have Flinks_through : Fun K _ _ s_links_through _ fdlinks_through := OQ.fun_of Dlinks_through
  have blinks_through := Flinks_through.binds (ps := ["pieces", "word"]) fun _ _ _ _ _ _ us hl => match us, hl with | [_, _], _ => rfl
  obtain ⟨fdlinks_of, Dlinks_of⟩ := c.def_ 12 (d := dH_links_of) rfl
  have Flinks_of : Fun K _ _ s_links_of _ fdlinks_of := OQ.fun_of Dlinks_of
  have blinks_of := Flinks_of.binds (ps := ["book", "word"]) fun _ _ _ _ _ _ us hl => match us, hl with | [_, _], _ => rfl
  obtain ⟨fdsteps_to, Dsteps_to⟩ := c.def_ 13 (d := dH_steps_to) rfl
  have Fsteps_to : Fun K _ _ s_steps_to _ fdsteps_to := OQ.fun_of Dsteps_to
  have bsteps_to := Fsteps_to.binds (ps := ["links", "goal"]) fun _ _ _ _ _ _ us hl => match us, hl with | [_, _], _ => rfl
  obtain ⟨fdleads_through, Dleads_through⟩ := c.def_ 14 (d := dH_leads_through) rfl
  have Fleads_through : Fun K _ _ s_leads_through _ fdleads_through := OQ.fun_of Dleads_through
  have bleads_through := Fleads_through.binds (ps := ["pieces", "word"]) fun _ _ _ _ _ _ us hl => match us, hl with | [_, _], _ => rfl
  obtain ⟨fdclass_of, Dclass_of⟩ := c.def_ 15 (d := dH_class_of) rfl
  have Fclass_of : Fun K _ _ s_class_of _ fdclass_of := OQ.fun_of Dclass_of
  have bclass_of := Fclass_of.binds (ps := ["links", "spot"]) fun _ _ _ _ _ _ us hl => match us, hl with | [_, _], _ => rfl
  obtain ⟨fdis_spot, Dis_spot⟩ := c.def_ 16 (d := dH_is_spot) rfl
  have Fis_spot : Fun K _ _ s_is_spot _ fdis_spot := OQ.fun_of Dis_spot
  have bis_spot := Fis_spot.binds (ps := ["word", "thing"]) fun _ _ _ _ _ _ us hl => match us, hl with | [_, _], _ => rfl
  obtain ⟨fdneighbours, Dneighbours⟩ := c.def_ 17 (d := dH_neighbours) rfl
  have Fneighbours : Fun K _ _ s_neighbours _ fdneighbours := OQ.fun_of Dneighbours
  have bneighbours := Fneighbours.binds (ps := ["book", "word", "spot"]) fun _ _ _ _ _ _ us hl => match us, hl with | [_, _, _], _ => rfl
  obtain ⟨fdclasses, Dclasses⟩ := c.def_ 18 (d := dH_classes) rfl
  have Fclasses : Fun K _ _ s_classes _ fdclasses := OQ.fun_of Dclasses
  have bclasses := Fclasses.binds (ps := ["book", "word"]) fun _ _ _ _ _ _ us hl => match us, hl with | [_, _], _ => rfl
  obtain ⟨fdis_told, Dis_told⟩ := c.def_ 19 (d := dH_is_told) rfl
  have Fis_told : Fun K _ _ s_is_told _ fdis_told := OQ.fun_of Dis_told
  have bis_told := Fis_told.binds (ps := ["book", "word"]) fun _ _ _ _ _ _ us hl => match us, hl with | [_, _], _ => rfl
  obtain ⟨fdlaw_tape, Dlaw_tape⟩ := c.def_ 20 (d := dH_law_tape) rfl
  have Flaw_tape : Fun K _ _ s_law_tape _ fdlaw_tape := OQ.fun_of Dlaw_tape
  have blaw_tape := Flaw_tape.binds (ps := ["script"]) fun _ _ _ _ _ _ us hl => match us, hl with | [_], _ => rfl
  obtain ⟨fdlaw_pick, Dlaw_pick⟩ := c.def_ 21 (d := dH_law_pick) rfl
  have Flaw_pick : Fun K _ _ s_law_pick _ fdlaw_pick := OQ.fun_of Dlaw_pick
  have blaw_pick := Flaw_pick.binds (ps := ["tape", "size"]) fun _ _ _ _ _ _ us hl => match us, hl with | [_, _], _ => rfl
  obtain ⟨fdlaw_letters, Dlaw_letters⟩ := c.def_ 22 (d := dH_law_letters) rfl
  have Flaw_letters : Fun K _ _ s_law_letters _ fdlaw_letters := OQ.fun_of Dlaw_letters
  have blaw_letters := Flaw_letters.binds (ps := ["tape", "many"]) fun _ _ _ _ _ _ us hl => match us, hl with | [_, _], _ => rfl
  obtain ⟨fdlaw_word, Dlaw_word⟩ := c.def_ 23 (d := dH_law_word) rfl
  have Flaw_word : Fun K _ _ s_law_word _ fdlaw_word := OQ.fun_of Dlaw_word
  have blaw_word := Flaw_word.binds (ps := ["tape", "most"]) fun _ _ _ _ _ _ us hl => match us, hl with | [_, _], _ => rfl
  obtain ⟨fdlaw_watch, Dlaw_watch⟩ := c.def_ 24 (d := dH_law_watch) rfl
  have Flaw_watch : Fun K _ _ s_law_watch _ fdlaw_watch := OQ.fun_of Dlaw_watch
  have blaw_watch := Flaw_watch.binds (ps := ["tape", "word", "most"]) fun _ _ _ _ _ _ us hl => match us, hl with | [_, _, _], _ => rfl
  obtain ⟨fdlaw_watches, Dlaw_watches⟩ := c.def_ 25 (d := dH_law_watches) rfl
  have Flaw_watches : Fun K _ _ s_law_watches _ fdlaw_watches := OQ.fun_of Dlaw_watches
  have blaw_watches := Flaw_watches.binds (ps := ["tape", "word", "many", "most"]) fun _ _ _ _ _ _ us hl => match us, hl with | [_, _, _, _], _ => rfl
  obtain ⟨fdlaw_near, Dlaw_near⟩ := c.def_ 26 (d := dH_law_near) rfl
  have Flaw_near : Fun K _ _ s_law_near _ fdlaw_near := OQ.fun_of Dlaw_near
  have blaw_near := Flaw_near.binds (ps := ["watches", "word", "spot"]) fun _ _ _ _ _ _ us hl => match us, hl with | [_, _, _], _ => rfl
  obtain ⟨fdlaw_mixed, Dlaw_mixed⟩ := c.def_ 27 (d := dH_law_mixed) rfl
  have Flaw_mixed : Fun K _ _ s_law_mixed _ fdlaw_mixed := OQ.fun_of Dlaw_mixed
  have blaw_mixed := Flaw_mixed.binds (ps := ["tape", "things"]) fun _ _ _ _ _ _ us hl => match us, hl with | [_, _], _ => rfl
  obtain ⟨fdlaw_flood, Dlaw_flood⟩ := c.def_ 28 (d := dH_law_flood) rfl
  have Flaw_flood : Fun K _ _ s_law_flood _ fdlaw_flood := OQ.fun_of Dlaw_flood
  have blaw_flood := Flaw_flood.binds (ps := ["watches", "word", "start"]) fun _ _ _ _ _ _ us hl => match us, hl with | [_, _, _], _ => rfl
  obtain ⟨fdlaw_classes, Dlaw_classes⟩ := c.def_ 29 (d := dH_law_classes) rfl
  have Flaw_classes : Fun K _ _ s_law_classes _ fdlaw_classes := OQ.fun_of Dlaw_classes
  have blaw_classes := Flaw_classes.binds (ps := ["watches", "word"]) fun _ _ _ _ _ _ us hl => match us, hl with | [_, _], _ => rfl
  obtain ⟨fdlaw_flag, Dlaw_flag⟩ := c.def_ 30 (d := dH_law_flag) rfl
  have Flaw_flag : Fun K _ _ s_law_flag _ fdlaw_flag := OQ.fun_of Dlaw_flag
  have blaw_flag := Flaw_flag.binds (ps := ["told", "due"]) fun _ _ _ _ _ _ us hl => match us, hl with | [_, _], _ => rfl
  obtain ⟨fdlaw_second, Dlaw_second⟩ := c.def_ 31 (d := dH_law_second) rfl
  have Flaw_second : Fun K _ _ s_law_second _ fdlaw_second := OQ.fun_of Dlaw_second
  have blaw_second := Flaw_second.binds (ps := ["script"]) fun _ _ _ _ _ _ us hl => match us, hl with | [_], _ => rfl
  obtain ⟨fdlaw_told, Dlaw_told⟩ := c.def_ 32 (d := dH_law_told) rfl
  have Flaw_told : Fun K _ _ s_law_told _ fdlaw_told := OQ.fun_of Dlaw_told
  have blaw_told := Flaw_told.binds (ps := ["book", "word", "spot"]) fun _ _ _ _ _ _ us hl => match us, hl with | [_, _, _], _ => rfl
  obtain ⟨fdlaw_first, Dlaw_first⟩ := c.def_ 33 (d := dH_law_first) rfl
  have Flaw_first : Fun K _ _ s_law_first _ fdlaw_first := OQ.fun_of Dlaw_first
  have blaw_first := Flaw_first.binds (ps := ["script"]) fun _ _ _ _ _ _ us hl => match us, hl with | [_], _ => rfl
  obtain ⟨fdlaw, Dlaw⟩ := c.def_ 34 (d := dH_law) rfl
  have Flaw : Fun K _ _ s_law _ fdlaw := OQ.fun_of Dlaw
  have blaw := Flaw.binds (ps := ["script"]) fun _ _ _ _ _ _ us hl => match us, hl with | [_], _ => rfl
  have gWayError : mg "WayError" = some (.ref (He.ga K "WayError")) := He.glo_ok X G (c.fact 0 rfl)
  have gBadSpot : mg "BadSpot" = some (.ref (He.ga K "BadSpot")) := He.glo_ok X G (c.fact 1 rfl)
  have gBook : mg "Book" = some (.ref (He.ga K "Book")) := He.glo_ok X G (c.fact 2 rfl)
  have gis_integer : mg "is_integer" = some (.ref (He.ga K "is_integer")) := He.glo_ok X G (c.fact 3 rfl)
  have gis_row : mg "is_row" = some (.ref (He.ga K "is_row")) := He.glo_ok X G (c.fact 4 rfl)
  have gis_word : mg "is_word" = some (.ref (He.ga K "is_word")) := He.glo_ok X G (c.fact 5 rfl)
  have gis_watch : mg "is_watch" = some (.ref (He.ga K "is_watch")) := He.glo_ok X G (c.fact 6 rfl)
  have ghas_letters : mg "has_letters" = some (.ref (He.ga K "has_letters")) := He.glo_ok X G (c.fact 7 rfl)
  have gcheck_word : mg "check_word" = some (.ref (He.ga K "check_word")) := He.glo_ok X G (c.fact 8 rfl)
  have gwrong_watch : mg "wrong_watch" = some (.ref (He.ga K "wrong_watch")) := He.glo_ok X G (c.fact 9 rfl)
  have gcheck_book : mg "check_book" = some (.ref (He.ga K "check_book")) := He.glo_ok X G (c.fact 10 rfl)
  have gcheck_asked : mg "check_asked" = some (.ref (He.ga K "check_asked")) := He.glo_ok X G (c.fact 11 rfl)
  have glinks_through : mg "links_through" = some (.ref (He.ga K "links_through")) := He.glo_ok X G (c.fact 12 rfl)
  have glinks_of : mg "links_of" = some (.ref (He.ga K "links_of")) := He.glo_ok X G (c.fact 13 rfl)
  have gsteps_to : mg "steps_to" = some (.ref (He.ga K "steps_to")) := He.glo_ok X G (c.fact 14 rfl)
  have gleads_through : mg "leads_through" = some (.ref (He.ga K "leads_through")) := He.glo_ok X G (c.fact 15 rfl)
  have gclass_of : mg "class_of" = some (.ref (He.ga K "class_of")) := He.glo_ok X G (c.fact 16 rfl)
  have gis_spot : mg "is_spot" = some (.ref (He.ga K "is_spot")) := He.glo_ok X G (c.fact 17 rfl)
  have gneighbours : mg "neighbours" = some (.ref (He.ga K "neighbours")) := He.glo_ok X G (c.fact 18 rfl)
  have gclasses : mg "classes" = some (.ref (He.ga K "classes")) := He.glo_ok X G (c.fact 19 rfl)
  have gis_told : mg "is_told" = some (.ref (He.ga K "is_told")) := He.glo_ok X G (c.fact 20 rfl)
  have g_law_tape : mg "_law_tape" = some (.ref (He.ga K "_law_tape")) := He.glo_ok X G (c.fact 21 rfl)
  have g_law_pick : mg "_law_pick" = some (.ref (He.ga K "_law_pick")) := He.glo_ok X G (c.fact 22 rfl)
  have g_law_letters : mg "_law_letters" = some (.ref (He.ga K "_law_letters")) := He.glo_ok X G (c.fact 23 rfl)
  have g_law_word : mg "_law_word" = some (.ref (He.ga K "_law_word")) := He.glo_ok X G (c.fact 24 rfl)
  have g_law_watch : mg "_law_watch" = some (.ref (He.ga K "_law_watch")) := He.glo_ok X G (c.fact 25 rfl)
  have g_law_watches : mg "_law_watches" = some (.ref (He.ga K "_law_watches")) := He.glo_ok X G (c.fact 26 rfl)
  have g_law_near : mg "_law_near" = some (.ref (He.ga K "_law_near")) := He.glo_ok X G (c.fact 27 rfl)
  have g_law_mixed : mg "_law_mixed" = some (.ref (He.ga K "_law_mixed")) := He.glo_ok X G (c.fact 28 rfl)
  have g_law_flood : mg "_law_flood" = some (.ref (He.ga K "_law_flood")) := He.glo_ok X G (c.fact 29 rfl)
  have g_law_classes : mg "_law_classes" = some (.ref (He.ga K "_law_classes")) := He.glo_ok X G (c.fact 30 rfl)
  have g_law_flag : mg "_law_flag" = some (.ref (He.ga K "_law_flag")) := He.glo_ok X G (c.fact 31 rfl)
  have g_law_second : mg "_law_second" = some (.ref (He.ga K "_law_second")) := He.glo_ok X G (c.fact 32 rfl)
  have g_law_told : mg "_law_told" = some (.ref (He.ga K "_law_told")) := He.glo_ok X G (c.fact 33 rfl)
  have g_law_first : mg "_law_first" = some (.ref (He.ga K "_law_first")) := He.glo_ok X G (c.fact 34 rfl)
  have glaw : mg "law" = some (.ref (He.ga K "law")) := He.glo_ok X G (c.fact 35 rfl)
  have zisinstance : mg "isinstance" = none := He.free_ok X G (c.fact 36 rfl)
  have zlist : mg "list" = none := He.free_ok X G (c.fact 37 rfl)
  have ztuple : mg "tuple" = none := He.free_ok X G (c.fact 38 rfl)
  have zstr : mg "str" = none := He.free_ok X G (c.fact 39 rfl)
  have zlen : mg "len" = none := He.free_ok X G (c.fact 40 rfl)
  have zall : mg "all" = none := He.free_ok X G (c.fact 41 rfl)
  have zenumerate : mg "enumerate" = none := He.free_ok X G (c.fact 42 rfl)
  have zrange : mg "range" = none := He.free_ok X G (c.fact 43 rfl)
  have zsorted : mg "sorted" = none := He.free_ok X G (c.fact 44 rfl)
  have zint : mg "int" = none := He.free_ok X G (c.fact 45 rfl)
  have zmin : mg "min" = none := He.free_ok X G (c.fact 46 rfl)
  have zmax : mg "max" = none := He.free_ok X G (c.fact 47 rfl)
  have zbool : mg "bool" = none := He.free_ok X G (c.fact 48 rfl)
  obtain ⟨tkMOST_LETTERS, gMOST_LETTERS⟩ := He.int_ok X G (c.fact 49 (f := .int "MOST_LETTERS" 40) rfl)
  obtain ⟨tkMOST_WATCH_LETTERS, gMOST_WATCH_LETTERS⟩ := He.int_ok X G (c.fact 50 (f := .int "MOST_WATCH_LETTERS" 12) rfl)
  obtain ⟨tkMOST_WATCHES, gMOST_WATCHES⟩ := He.int_ok X G (c.fact 51 (f := .int "MOST_WATCHES" 12) rfl)
  have r0 := x
  obtain ⟨qhnO, r1⟩ := OQ.two r0
  obtain ⟨qhtO, r2⟩ := OQ.two r1
  obtain ⟨qhaBook, r3⟩ := OQ.two r2
  obtain ⟨qhmBook, r4⟩ := OQ.two r3
  obtain ⟨qeBS, r5⟩ := OQ.two r4
  have qtI := r5
  have hnO := OQ.isB_ok qhnO
  have htO := of_decide_eq_true qhtO
  have eBS := OQ.erB_ok hnO htO qeBS
  have e := hfa.symm.trans glaw
  cases e
  let T : Top K mg := { C_Book := _, cl_Book := He.cls_ok (c.fact 52 (f := .cls "Book") rfl), g_Book := gBook, na_Book_watches := He.noat_ok (c.fact 53 (f := .noat "Book" "watches") rfl), f_WayError__init := _, fd_WayError__init := fdWayError__init, F_WayError__init := FWayError__init, b_WayError__init := bWayError__init, f_is_integer := _, fd_is_integer := fdis_integer, F_is_integer := Fis_integer, b_is_integer := bis_integer, g_is_integer := gis_integer, f_is_row := _, fd_is_row := fdis_row, F_is_row := Fis_row, b_is_row := bis_row, g_is_row := gis_row, f_is_word := _, fd_is_word := fdis_word, F_is_word := Fis_word, b_is_word := bis_word, g_is_word := gis_word, f_is_watch := _, fd_is_watch := fdis_watch, F_is_watch := Fis_watch, b_is_watch := bis_watch, g_is_watch := gis_watch, f_has_letters := _, fd_has_letters := fdhas_letters, F_has_letters := Fhas_letters, b_has_letters := bhas_letters, g_has_letters := ghas_letters, f_check_word := _, fd_check_word := fdcheck_word, F_check_word := Fcheck_word, b_check_word := bcheck_word, g_check_word := gcheck_word, f_wrong_watch := _, fd_wrong_watch := fdwrong_watch, F_wrong_watch := Fwrong_watch, b_wrong_watch := bwrong_watch, g_wrong_watch := gwrong_watch, f_Book__init := _, fd_Book__init := fdBook__init, F_Book__init := FBook__init, b_Book__init := bBook__init, M_Book := He.mkr_ok (c.fact 54 (f := .mkr "Book") rfl), f_check_book := _, fd_check_book := fdcheck_book, F_check_book := Fcheck_book, b_check_book := bcheck_book, g_check_book := gcheck_book, f_check_asked := _, fd_check_asked := fdcheck_asked, F_check_asked := Fcheck_asked, b_check_asked := bcheck_asked, g_check_asked := gcheck_asked, f_links_through := _, fd_links_through := fdlinks_through, F_links_through := Flinks_through, b_links_through := blinks_through, g_links_through := glinks_through, f_links_of := _, fd_links_of := fdlinks_of, F_links_of := Flinks_of, b_links_of := blinks_of, g_links_of := glinks_of, f_steps_to := _, fd_steps_to := fdsteps_to, F_steps_to := Fsteps_to, b_steps_to := bsteps_to, g_steps_to := gsteps_to, f_leads_through := _, fd_leads_through := fdleads_through, F_leads_through := Fleads_through, b_leads_through := bleads_through, g_leads_through := gleads_through, f_class_of := _, fd_class_of := fdclass_of, F_class_of := Fclass_of, b_class_of := bclass_of, g_class_of := gclass_of, f_is_spot := _, fd_is_spot := fdis_spot, F_is_spot := Fis_spot, b_is_spot := bis_spot, g_is_spot := gis_spot, f_neighbours := _, fd_neighbours := fdneighbours, F_neighbours := Fneighbours, b_neighbours := bneighbours, g_neighbours := gneighbours, f_classes := _, fd_classes := fdclasses, F_classes := Fclasses, b_classes := bclasses, g_classes := gclasses, f_is_told := _, fd_is_told := fdis_told, F_is_told := Fis_told, b_is_told := bis_told, g_is_told := gis_told, f_law_tape := _, fd_law_tape := fdlaw_tape, F_law_tape := Flaw_tape, b_law_tape := blaw_tape, g_law_tape := g_law_tape, f_law_pick := _, fd_law_pick := fdlaw_pick, F_law_pick := Flaw_pick, b_law_pick := blaw_pick, g_law_pick := g_law_pick, f_law_letters := _, fd_law_letters := fdlaw_letters, F_law_letters := Flaw_letters, b_law_letters := blaw_letters, g_law_letters := g_law_letters, f_law_word := _, fd_law_word := fdlaw_word, F_law_word := Flaw_word, b_law_word := blaw_word, g_law_word := g_law_word, f_law_watch := _, fd_law_watch := fdlaw_watch, F_law_watch := Flaw_watch, b_law_watch := blaw_watch, g_law_watch := g_law_watch, f_law_watches := _, fd_law_watches := fdlaw_watches, F_law_watches := Flaw_watches, b_law_watches := blaw_watches, g_law_watches := g_law_watches, f_law_near := _, fd_law_near := fdlaw_near, F_law_near := Flaw_near, b_law_near := blaw_near, g_law_near := g_law_near, f_law_mixed := _, fd_law_mixed := fdlaw_mixed, F_law_mixed := Flaw_mixed, b_law_mixed := blaw_mixed, g_law_mixed := g_law_mixed, f_law_flood := _, fd_law_flood := fdlaw_flood, F_law_flood := Flaw_flood, b_law_flood := blaw_flood, g_law_flood := g_law_flood, f_law_classes := _, fd_law_classes := fdlaw_classes, F_law_classes := Flaw_classes, b_law_classes := blaw_classes, g_law_classes := g_law_classes, f_law_flag := _, fd_law_flag := fdlaw_flag, F_law_flag := Flaw_flag, b_law_flag := blaw_flag, g_law_flag := g_law_flag, f_law_second := _, fd_law_second := fdlaw_second, F_law_second := Flaw_second, b_law_second := blaw_second, g_law_second := g_law_second, f_law_told := _, fd_law_told := fdlaw_told, F_law_told := Flaw_told, b_law_told := blaw_told, g_law_told := g_law_told, f_law_first := _, fd_law_first := fdlaw_first, F_law_first := Flaw_first, b_law_first := blaw_first, g_law_first := g_law_first, f_law := _, fd_law := fdlaw, F_law := Flaw, b_law := blaw, g_law := glaw, n_isinstance := zisinstance, n_list := zlist, n_tuple := ztuple, n_str := zstr, n_len := zlen, n_all := zall, n_enumerate := zenumerate, n_range := zrange, n_sorted := zsorted, n_int := zint, n_min := zmin, n_max := zmax, n_bool := zbool, hnO := hnO, htO := htO, k_MOST_LETTERS := tkMOST_LETTERS, g_MOST_LETTERS := gMOST_LETTERS, k_MOST_WATCH_LETTERS := tkMOST_WATCH_LETTERS, g_MOST_WATCH_LETTERS := gMOST_WATCH_LETTERS, k_MOST_WATCHES := tkMOST_WATCHES, g_MOST_WATCHES := gMOST_WATCHES, ha_Book := OQ.isB_ok qhaBook, hm_Book := of_decide_eq_true qhmBook, kBB := kit_selfR, tI := of_decide_eq_true qtI, C_BS := _, g_BadSpot := gBadSpot, oex_BadSpot := eBS.oex, i_BadSpot := eBS.ini, v_BadSpot := eBS.va, xf_BadSpot := eBS.xf, exI_BadSpot := eBS.exi, exm := OQ.exm_is eBS.oex.exC eBS.cls eBS.oex.tyC (OQ.mro_has eBS (by simp)) }
  exact ⟨fdlaw, fun s v => FunD.bindsA (ps := ["script"]) Dlaw (fun _ _ _ _ _ _ us hl => match us, hl with | [_], _ => rfl) s [v] rfl, fun base _ _ => ok_law T⟩

end Toy
open PySem PySem.W PySem.Calls PyProof.Rows
set_option maxRecDepth 100000 in
set_option maxHeartbeats 0 in
theorem PySem.Challenge.cw_watchedways_k03_neighbours_and_classes_holds : PySem.Challenge.rw_watchedways_k03_neighbours_and_classes.Holds := by
  w_on; o_law
  refine HandSHeadRun.head_any (r := OpenLaw.row PySem.Challenge.rw_watchedways_k03_neighbours_and_classes) (q := view (OpenLaw.row PySem.Challenge.rw_watchedways_k03_neighbours_and_classes).prog [49]) (H := Toy.hk) (ob := Toy.ob) (M := 30000) (loose := Toy.looseH) (d := HandSHeadRun.topDef (OpenLaw.row PySem.Challenge.rw_watchedways_k03_neighbours_and_classes).prog 49) (kwd := []) (OQ.obB_eq 5 Toy.faH Toy.fnH Toy.exH)
    (by kernel_rfl) (fun s => by kernel_rfl) Toy.run (by kernel_rfl) (by kernel_rfl) (by kernel_rfl) (by rfl) (by first | assumption | decide +kernel) (by decide +kernel) ⟨rfl, rfl, rfl, rfl, rfl, by decide +kernel⟩ ?hw ?hc
  case hw => w_witness2
  case hc =>
    refine L2.walk_ofE (l := PySem.Challenge.rw_watchedways_k03_neighbours_and_classes) (n := 63) (k := 12) (x := "script") (CX := L2.CX0) rfl (by decide) (by kernel_rfl) ⟨rfl, by decide, by decide⟩ ?F (fun _ _ _ _ z => z)
    intro w mg fa h Y G hmg0
    obtain ⟨K, KX, c, x⟩ := Y
    have hmg : mg ("law" : PySem.Str) = some (.ref fa) := by
      have e : (HandSHeadRun.topDef (OpenLaw.row PySem.Challenge.rw_watchedways_k03_neighbours_and_classes).prog 49).name = ("law" : PySem.Str) := by kernel_rfl
      rw [← e]
      exact hmg0
    obtain ⟨fd, hb, hF⟩ := Toy.facts (P := (PySem.Challenge.rw_watchedways_k03_neighbours_and_classes).prog) (w := w) KX G hmg c x
    exact ⟨K, fd, Toy.spLaw K, KX, hb, fun H a ns hl _ hS => ⟨a, ns, rfl, hS, hl, fun _ => rfl⟩, hF⟩

