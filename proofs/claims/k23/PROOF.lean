import PyProof.Rows.All
import Wide.All
import OpenK.AllK
import Wide.FinOn
import KE.KExcIs
import HandS.ForMost
import HandS.ForExc
import HandS.Codes
import HandS.Wide
import HandS.IsInst
import HandS.ExcInit
import HandS.ExcField
import HandS.ExcIs
import HandS.TryMany
import HandS.CallSlots
import HandS.Defaults
import HandS.Gcd
import HandS.DeepEq
import HandS.Flow
import HandS.TupLe

import PySem.Challenge.RW_watchedways_k23_operators_of_ratios
set_option Elab.async false
set_option linter.all false
set_option maxRecDepth 100000
set_option maxHeartbeats 4000000
set_option exponentiation.threshold 3000

/-! ### readings, step by step -/
namespace RD
open PySem L2
section
variable {σ : St} {H : Hp} {Q : VK} {B : Bool → Hp → Prop} {A : List V → Hp → Prop} {K : PySem.W.Frag} {v x y : V} {i j : Int} {n : Nat} {ta tb tc te : TE} {tA tB' : TT} {r r' : R2} {t : TA}
theorem d_var {n : Nat} {v : V} (e : σ[n]? = some (some v)) (h : Q v H) : tVar n σ H Q := ⟨v, e, h⟩
theorem d_c (h : Q v H) : tC v σ H Q := h
theorem d_op (h : ta σ H fun x H1 => tb σ H1 fun y H2 => r x y H2 Q) : tOp r ta tb σ H Q := h
theorem d_un {r : V → Hp → VK → Prop} (h : ta σ H fun x H1 => r x H1 Q) : tUn r ta σ H Q := h
theorem d_cb {r : List V → Hp → VK → Prop} (h : t σ H fun vs H1 => r vs H1 Q) : tCB r t σ H Q := h
theorem d_call {sp : Sp} {dvs : List V} {E : XK} (h : t σ H fun vs H1 => sp (vs ++ dvs) H1 Q E) : tCall sp dvs E t σ H Q := h
theorem d_nil (h : A [] H) : tNil σ H A := h
theorem d_cons {ta : TE} {tr : TA} (h : ta σ H fun x H1 => tr σ H1 fun xs H2 => A (x :: xs) H2) : tCons ta tr σ H A := h
theorem d_lst (h : t σ H fun xs H1 => xs.length ≤ sizeLine ∧ ∀ p, H1 p = none → Q (.ref p) (upd H1 p (.lst xs))) : tLst t σ H Q := h
theorem d_tup (h : t σ H fun xs H1 => xs.length ≤ sizeLine ∧ ∀ p, H1 p = none → Q (.ref p) (upd H1 p (.tup xs))) : tTup t σ H Q := h
theorem d_test (h : ta σ H fun x H' => ∃ k, x = .bl k ∧ B k H') : tTest ta σ H B := h
theorem d_tB (h : ta σ H fun x H' => ∃ k, x = .bl k ∧ B k H') : L2.tB ta σ H B := h
theorem d_bl {b : Bool} {R : Bool → Prop} (h : R b) : ∃ k, V.bl b = .bl k ∧ R k := ⟨b, rfl, h⟩
theorem d_and (h : tA σ H fun c H1 => if c = true then tB' σ H1 B else B false H1) : tAnd tA tB' σ H B := h
theorem d_or (h : tA σ H fun c H1 => if c = true then B true H1 else tB' σ H1 B) : tOr tA tB' σ H B := h
theorem d_not (h : tA σ H fun c H1 => B (!c) H1) : tNot tA σ H B := h
theorem d_andV (h : ta σ H fun x H1 => ∃ c, x = .bl c ∧ if c = true then tb σ H1 Q else Q (.bl false) H1) : tAndV ta tb σ H Q := h
theorem d_orV (h : ta σ H fun x H1 => ∃ c, x = .bl c ∧ if c = true then Q (.bl true) H1 else tb σ H1 Q) : tOrV ta tb σ H Q := h
theorem d_notV (h : ta σ H fun x H1 => ∃ c, x = .bl c ∧ Q (.bl (!c)) H1) : tNotV ta σ H Q := h
theorem d_if (h : tA σ H fun c H1 => if c = true then ta σ H1 Q else tb σ H1 Q) : tIf tA ta tb σ H Q := h
theorem d_rI0 {g : Int → Int → V} (h : Q (g i j) H) : rI0 g (.int i) (.int j) H Q := ⟨i, j, rfl, rfl, h⟩
theorem d_rI {C : Int → Int → Prop} {g : Int → Int → V} (c : C i j) (h : Q (g i j) H) : rI C g (.int i) (.int j) H Q := ⟨i, j, rfl, rfl, c, h⟩
theorem d_rU {g : Int → V} (h : Q (g i) H) : rU g (.int i) H Q := ⟨i, rfl, h⟩
theorem d_eqI (h : Q (.bl (decide (i = j))) H) : rEq (.int i) (.int j) H Q := ⟨rfl, by
  have e : decide (V.int i = V.int j) = decide (i = j) := by rw [dec_int, Bool.eq_iff_iff]; simp
  rw [e]; exact h⟩
theorem d_neI (h : Q (.bl (!decide (i = j))) H) : rNe (.int i) (.int j) H Q := ⟨rfl, by
  have e : decide (V.int i = V.int j) = decide (i = j) := by rw [dec_int, Bool.eq_iff_iff]; simp
  rw [e]; exact h⟩
theorem d_eqB {i j : Bool} (h : Q (.bl (decide (i = j))) H) : rEq (.bl i) (.bl j) H Q := ⟨rfl, by
  have e : decide (V.bl i = V.bl j) = decide (i = j) := by rw [dec_bl, Bool.eq_iff_iff]; simp
  rw [e]; exact h⟩
theorem d_eqS {i j : Str} (h : Q (.bl (decide (i = j))) H) : rEq (.str i) (.str j) H Q := ⟨rfl, by
  have e : decide (V.str i = V.str j) = decide (i = j) := by rw [dec_str, Bool.eq_iff_iff]; simp
  rw [e]; exact h⟩
theorem d_neS {i j : Str} (h : Q (.bl (!decide (i = j))) H) : rNe (.str i) (.str j) H Q := ⟨rfl, by
  have e : decide (V.str i = V.str j) = decide (i = j) := by rw [dec_str, Bool.eq_iff_iff]; simp
  rw [e]; exact h⟩
theorem d_ixL {p : Addr} {xs : List V} {v : V} (hs : SqL K H p xs) (e : atI xs i = some v) (h : Q v H) : rIxL K (.ref p) (.int i) H Q := ⟨p, xs, i, v, rfl, rfl, hs, e, h⟩
theorem d_ixT {p : Addr} {xs : List V} {v : V} (hs : SqT K H p xs) (e : atI xs i = some v) (h : Q v H) : rIxT K (.ref p) (.int i) H Q := ⟨p, xs, i, v, rfl, rfl, hs, e, h⟩
theorem d_setL {p : Addr} {xs : List V} {k : Nat} {R : Hp → Prop} (hp : H p = some (.lst xs)) (e : ixN xs.length i = some k) (h : R (upd H p (.lst (xs.set k v)))) : rSetL (.ref p) (.int i) v H R := ⟨p, xs, i, k, rfl, rfl, hp, e, h⟩
theorem d_gname {R : St → Hp → Prop} (h : R (σ.set n (some v)) H) : gName n v σ H R := h
theorem d_gsub {to ti : TE} {ts : TSet} {R : St → Hp → Prop} (h : to σ H fun o H1 => ti σ H1 fun i H2 => ts o i v H2 fun H3 => R σ H3) : gSub to ti ts v σ H R := h
section
variable {nx bk ct : St → Hp → Prop} {rt : VK} {u w : TS} {g : TG}
theorem d_seq (h : u ⟨w ⟨nx, rt, bk, ct⟩, rt, bk, ct⟩ σ H) : tSeq u w ⟨nx, rt, bk, ct⟩ σ H := h
theorem d_asg (h : te σ H fun x H1 => g x σ H1 nx) : tAsg te g ⟨nx, rt, bk, ct⟩ σ H := h
theorem d_ret (h : te σ H rt) : tRet te ⟨nx, rt, bk, ct⟩ σ H := h
theorem d_next (h : nx σ H) : tNext ⟨nx, rt, bk, ct⟩ σ H := h
theorem d_drop (h : te σ H fun _ H1 => nx σ H1) : tDrop te ⟨nx, rt, bk, ct⟩ σ H := h
theorem d_ifS (h : tA σ H fun b H1 => if b = true then u ⟨nx, rt, bk, ct⟩ σ H1 else w ⟨nx, rt, bk, ct⟩ σ H1) : tIfS tA u w ⟨nx, rt, bk, ct⟩ σ H := h
theorem d_cut (Mid : St → Hp → Prop) (h : u ⟨Mid, rt, bk, ct⟩ σ H) (k : ∀ σ' H', Mid σ' H' → w ⟨nx, rt, bk, ct⟩ σ' H') : C8.tCut u w ⟨nx, rt, bk, ct⟩ σ H := ⟨Mid, h, k⟩
theorem d_par {t : TA} {i j : Nat} (h : t σ H fun vs H1 => ∃ v w, vs = [v, w] ∧ nx ((σ.set i (some v)).set j (some w)) H1) : tPar i j t ⟨nx, rt, bk, ct⟩ σ H := h
end
def rInt1 : List V → Hp → VK → Prop := fun xs H Q => (∃ i, xs = [.int i] ∧ Q (.int i) H) ∨ ∃ k, xs = [.bl k] ∧ Q (.int (if k then 1 else 0)) H
theorem c_int {X : Cx} : CallR X (.type "int") rInt1 := call_int1
theorem d_int (h : Q (.int i) H) : rInt1 [.int i] H Q := .inl ⟨i, rfl, h⟩
theorem d_intB {b : Bool} (h : Q (.int (if b then 1 else 0)) H) : rInt1 [.bl b] H Q := .inr ⟨b, rfl, h⟩
def rAbs : List V → Hp → VK → Prop := fun xs H Q => ∃ i, xs = [.int i] ∧ Q (.int (if i < 0 then -i else i)) H
theorem c_abs {X : Cx} : CallR X (.builtin "abs") rAbs := call_abs
theorem d_abs (h : Q (.int (if i < 0 then -i else i)) H) : rAbs [.int i] H Q := ⟨i, rfl, h⟩
def rLen (K : PySem.W.Frag) : List V → Hp → VK → Prop := fun xs H Q => ∃ x n, xs = [x] ∧ LenV K x H n ∧ Q (.int n) H
theorem c_len {X : Cx} : CallR X (.builtin "len") (rLen X.K) := call_len
theorem d_lenL {p : Addr} {xs : List V} (hs : SqL K H p xs) (h : Q (.int xs.length) H) : rLen K [.ref p] H Q := ⟨_, _, rfl, .inl ⟨xs, hs, rfl⟩, h⟩
theorem d_lenT {p : Addr} {xs : List V} (hs : SqT K H p xs) (h : Q (.int xs.length) H) : rLen K [.ref p] H Q := ⟨_, _, rfl, .inr ⟨xs, hs, rfl⟩, h⟩
theorem d_lenS {z : Str} (hs : z.length ≤ sizeLine) (h : Q (.int z.length) H) : rLen K [.str z] H Q := ⟨_, _, rfl, ⟨hs, rfl⟩, h⟩
def rIsN : R2 := fun x y H Q => y = .non ∧ Q (.bl (decide (x = .non))) H
theorem o_isN {X : Cx} : OpR X (compareOp .Is) rIsN := op_isN
theorem d_isN (h : Q (.bl (decide (x = .non))) H) : rIsN x .non H Q := ⟨rfl, h⟩
def rNotN : R2 := fun x y H Q => y = .non ∧ Q (.bl (!decide (x = .non))) H
theorem o_notN {X : Cx} : OpR X (compareOp .IsNot) rNotN := op_notN
theorem d_notN (h : Q (.bl (!decide (x = .non))) H) : rNotN x .non H Q := ⟨rfl, h⟩
theorem d_iList {tl : TE} {R : It → Hp → Prop} (h : tl σ H fun x H1 => ∃ a, x = .ref a ∧ (∃ xs, SqL K H1 a xs) ∧ R (Itl K a) H1) : iList K tl σ H R := h
theorem d_refL {p : Addr} {xs : List V} {R : Addr → Prop} (hs : SqL K H p xs) (h : R p) : ∃ a, V.ref p = .ref a ∧ (∃ xs, SqL K H a xs) ∧ R a := ⟨p, rfl, ⟨xs, hs⟩, h⟩
theorem d_rng1 {t : TA} {R : It → Hp → Prop} (h : t σ H fun vs H1 => ∃ j : Int, vs = [.int j] ∧ -(2 ^ 62) ≤ j ∧ j < 2 ^ 62 ∧ R (Itr 0 j.toNat) H1) : iRng1 t σ H R := h
theorem d_lc {wi : TI} {g : TG} {tt : TT} {vs : List Nat} (h : wi σ H fun J H1 => ∀ D, H1 D = none → ∃ W : Nat → Nat → Hp → Prop, (∃ m, W 0 m (upd H1 D (.lst []))) ∧ ∀ i m H, W i m H →
  (J.stop i H ∧ Q (.ref D) H) ∨ (J.go i H ∧ ∃ Nx : Hp → Prop, (∀ H', Nx H' → ∃ m', m' < m ∧ W (i + 1) m' H') ∧ ∀ x H', J.yld i H x H' → g x (wipe σ vs) H' fun σ2 H2 => wipe σ2 vs = wipe σ vs ∧ tt σ2 H2 fun b H3 =>
    if b = true then te σ2 H3 fun y H4 => ∃ acc, H4 D = some (.lst acc) ∧ acc.length < sizeLine ∧ Nx (upd H4 D (.lst (acc ++ [y]))) else Nx H3)) : tLc wi g tt te vs σ H Q := h
theorem d_yes (h : B true H) : tYes σ H B := h
theorem d_iteT {X Y : Prop} (h : X) : if true = true then X else Y := by rw [if_pos rfl]; exact h
theorem d_iteF {X Y : Prop} (h : Y) : if false = true then X else Y := by rw [if_neg Bool.false_ne_true]; exact h
theorem d_wipe {R : Prop} {vs : List Nat} {σ' : St} (e : wipe σ' vs = wipe σ vs) (h : R) : wipe σ' vs = wipe σ vs ∧ R := ⟨e, h⟩
theorem d_sl {r : V → Option Int → Option Int → Hp → VK → Prop} {tl th : TO} (h : te σ H fun x H1 => tl σ H1 fun l H2 => th σ H2 fun u H3 => r x l u H3 Q) : tSl r te tl th σ H Q := h
theorem d_noPart {Q : Option Int → Hp → Prop} (h : Q none H) : tNoPart σ H Q := h
theorem d_part {Q : Option Int → Hp → Prop} (h : te σ H fun x H1 => ∃ i, x = .int i ∧ Q (some i) H1) : tPart te σ H Q := h
theorem d_exI {R : Int → Prop} (h : R i) : ∃ k, V.int i = .int k ∧ R k := ⟨i, rfl, h⟩
theorem d_isi {c : V} {t u : Value} {b : Bool} (hc : ClsV c u) (ty : TyX K H x t) (e : PySem.W.kitOne K t u = some b) (h : Q (.bl b) H) : rIsi K [x, c] H Q := ⟨x, c, t, u, b, rfl, hc, ty, e, h⟩
theorem d_fld {f : Str} (h : ta σ H fun x H1 => ∃ a C dx fs v, x = .ref a ∧ H1 a = some (.ins C dx fs) ∧ Cls K C ∧ NoAttr K C f ∧ fs.lookup f = some v ∧ Q v H1) : tFld K ta f σ H Q := h
theorem d_iteNF {X Y : Prop} (h : X) : if (!false) = true then X else Y := by rw [if_pos (show (!false) = true from rfl)]; exact h
theorem d_iteNT {X Y : Prop} (h : Y) : if (!true) = true then X else Y := by rw [if_neg (by decide)]; exact h
theorem d_iteDT {P X Y : Prop} {inst : Decidable P} (c : P) (h : X) : if decide P = true then X else Y := by rw [if_pos (decide_eq_true c)]; exact h
theorem d_iteDF {P X Y : Prop} {inst : Decidable P} (c : ¬ P) (h : Y) : if decide P = true then X else Y := by rw [if_neg (by simpa using c)]; exact h
theorem d_gcd (h : Q (.int ((Nat.gcd i.natAbs j.natAbs : Nat) : Int)) H) : rGcd [.int i, .int j] H Q := ⟨i, j, rfl, h⟩
theorem d_sfld {f : Str} {tv : TE} {nx bk ct : St → Hp → Prop} {rt : VK} (h : tv σ H fun y H1 => ta σ H1 fun x H2 => ∃ a C dx fs, x = .ref a ∧ H2 a = some (.ins C dx fs) ∧ Cls K C ∧ NoAttr K C f ∧ fs.length < 1000 ∧
  nx σ (upd H2 a (.ins C dx (putF f y fs)))) : sFld K ta tv f ⟨nx, rt, bk, ct⟩ σ H := h
theorem d_for {wi : TI} {g : TG} {tb : TS} {nx bk ct : St → Hp → Prop} {rt : VK} (h : wi σ H fun J H1 => ∃ W : Nat → Nat → St → Hp → Prop, (∃ m, W 0 m σ H1) ∧ ∀ i m σ H, W i m σ H →
  (J.stop i H ∧ nx σ H) ∨ (J.go i H ∧ ∃ N : St → Hp → Prop, (∀ σ' H', N σ' H' → ∃ m', m' < m ∧ W (i + 1) m' σ' H') ∧ ∀ x H', J.yld i H x H' → g x σ H' fun σ2 H2 => tb ⟨N, rt, nx, N⟩ σ2 H2)) :
  tFor wi g tb ⟨nx, rt, bk, ct⟩ σ H := h
theorem f_range {lo : Int} {n : Nat} {g : TG} {tb : TS} {nx : St → Hp → Prop} {rt : VK} (Pv : Nat → St → Hp → Prop) (h0 : Pv 0 σ H)
    (hs : ∀ i σ H, i < n → Pv i σ H → g (.int (lo + i)) σ H fun σ2 H2 => tb ⟨Pv (i + 1), rt, nx, Pv (i + 1)⟩ σ2 H2) (hd : ∀ σ H, Pv n σ H → nx σ H) :
    ∃ W : Nat → Nat → St → Hp → Prop, (∃ m, W 0 m σ H) ∧ ∀ i m σ H, W i m σ H → ((Itr lo n).stop i H ∧ nx σ H) ∨ ((Itr lo n).go i H ∧ ∃ N : St → Hp → Prop, (∀ σ' H', N σ' H' → ∃ m', m' < m ∧ W (i + 1) m' σ' H') ∧
      ∀ x H', (Itr lo n).yld i H x H' → g x σ H' fun σ2 H2 => tb ⟨N, rt, nx, N⟩ σ2 H2) := for_range (D := ⟨nx, rt, fun _ _ => False, fun _ _ => False⟩) Pv h0 hs hd
theorem f_list {K : PySem.W.Frag} {a : Addr} {xs : List V} {g : TG} {tb : TS} {nx : St → Hp → Prop} {rt : VK} (Pv : Nat → St → Hp → Prop) (h0 : Pv 0 σ H) (hl : ∀ i σ H, i ≤ xs.length → Pv i σ H → SqL K H a xs)
    (hs : ∀ i x σ H, xs[i]? = some x → Pv i σ H → g x σ H fun σ2 H2 => tb ⟨Pv (i + 1), rt, nx, Pv (i + 1)⟩ σ2 H2) (hd : ∀ σ H, Pv xs.length σ H → nx σ H) :
    ∃ W : Nat → Nat → St → Hp → Prop, (∃ m, W 0 m σ H) ∧ ∀ i m σ H, W i m σ H → ((Itl K a).stop i H ∧ nx σ H) ∨ ((Itl K a).go i H ∧ ∃ N : St → Hp → Prop, (∀ σ' H', N σ' H' → ∃ m', m' < m ∧ W (i + 1) m' σ' H') ∧
      ∀ x H', (Itl K a).yld i H x H' → g x σ H' fun σ2 H2 => tb ⟨N, rt, nx, N⟩ σ2 H2) := for_list (D := ⟨nx, rt, fun _ _ => False, fun _ _ => False⟩) Pv h0 hl hs hd
theorem iteD {P X Y : Prop} {inst : Decidable P} (h1 : P → X) (h2 : ¬ P → Y) : if decide P = true then X else Y := by
  by_cases h : P
  · rw [if_pos (decide_eq_true h)]; exact h1 h
  · rw [if_neg (by simpa using h)]; exact h2 h
theorem iteN {P X Y : Prop} {inst : Decidable P} (h1 : ¬ P → X) (h2 : P → Y) : if (!decide P) = true then X else Y := by
  by_cases h : P
  · rw [if_neg (by simpa using h)]; exact h2 h
  · rw [if_pos (by simpa using h)]; exact h1 h
end
end RD

/-! ### own == and != of a class of the text -/
namespace OQ
open PySem L2 PySem.Spec PyProof.Rows
section
variable {X : Cx} {CX : CXT} {C f : Addr} {fd : FuncData} {ps : List Str} {sp : Sp} {E : XK} {k : Nat}
/-- a def of the text called somewhere below the body that runs -/
theorem run_at {A : Around} (hA : A.frames = X.A.frames) (hr : Room k A) {pins : List (Addr × Obj)} {σ : L2.St} {H : Hp} {s : Shared} {Q : VK} {us : List Value} {vs : List V}
    (F : FnOk X.prog X.w X.K X.mg X.base CX k f fd ps sp) (hb : Binds X.K fd ps []) (hx : Passes CX X E) (I : Inv X pins σ H s) (r : Vals vs us) (h : sp vs H Q E) :
    wpAny (model X.prog X.w) A (call (.ref f) us) (EP X pins σ Q) X.xe s := by
  have z := I.env0
  have e0 : Env0 X.prog X.w X.K X.mg X.base A X.stack s H := ⟨hA ▸ z.frames, z.mod, z.bs, z.bsz, z.funs, z.frf, z.hok, z.bare⟩
  have hl : us.length = ps.length := by rw [← r.length]; exact F.len _ _ _ _ h
  have b := hb s us I.kIn (by rw [List.append_nil]; exact hl)
  rw [List.append_nil] at b
  refine wpAny_call (codeAny_mono (F.run A X.stack s H ⟨us, []⟩ us vs Q E hr e0 b r h) ?_)
  rintro (e | fl) s' hq
  · exact hx pins σ H s e s' I hq
  · cases fl with
    | ret u => exact I.after hq
    | next => exact hq.elim
    | brk => exact hq.elim
    | cont => exact hq.elim
theorem cmpBack_of {pins : List (Addr × Obj)} {σ : L2.St} {Q : VK} {u : Value} {s' : Shared} (h : EP X pins σ Q u s') : PySem.W.CmpBack (EP X pins σ Q) u s' := by
  obtain ⟨v, H', I', r, q⟩ := h
  have e : EP X pins σ Q u s' := ⟨v, H', I', r, q⟩
  cases u <;> first
    | exact e
    | (exfalso; cases v <;> first | exact Value.noConfusion r | (obtain ⟨t, rt⟩ := r; exact Value.noConfusion rt))
/-- x == y by the __eq__ of x's class -/
def rOwnEq (K : PySem.W.Frag) (C : Addr) (sp : Sp) (E : XK) : R2 := fun x y H Q => ∃ a dx fs t, x = .ref a ∧ H a = some (.ins C dx fs) ∧ TyX K H y t ∧ PySem.W.notFirst K C t = true ∧ sp [x, y] H Q E
theorem op_ownEq (F : FnOk X.prog X.w X.K X.mg X.base CX k f fd ps sp) (hr : Room k X.A) (hs : PySem.W.findIn X.K (.ref C) "__eq__" = some (some (.ref f))) (hf : PySem.W.isFn X.K (.ref f) = true)
    (hb : Binds X.K fd ps []) (hx : Passes CX X E) : OpR X (compareOp .Eq) (rOwnEq X.K C sp E) := by
  intro pins s σ H x y v u Q I rx ry hq
  obtain ⟨a, dx, fs, t, rfl, ha, ty, nf, q⟩ := hq
  cases rx
  obtain ⟨_, J0, _⟩ := ins_get I.hok ha
  obtain ⟨_, J, _⟩ := J0.look
  obtain ⟨_, hF⟩ := I.fr
  obtain ⟨_, kx, hp, _⟩ := kit_of I ry ty
  exact PySem.W.cmp_K (op := .Eq) hr.units0 hF I.ok.mod.kin J (kx.ty _ _ I.kIn hp) nf hs hf
    (wpAny_mono (run_at rfl hr F hb hx I (vs := [V.ref a, y]) (us := [Value.ref a, u]) (Paired.cons (show RelV (V.ref a) (Value.ref a) from rfl) (Paired.cons ry .nil)) q) (fun _ _ z => cmpBack_of z) fun _ _ z => z)
/-- looking a builtin slot up at an instance and calling it -/
theorem ifBound_B {M : Model} {A : Around} {E : Value → Shared → Prop} {s : Shared} {K : PySem.W.Frag} {x C : Addr} {ox : Obj} {od : Option Obj} {name : Str} {id : String} {args : List Value} {Q : Option Value → Shared → Prop} (Z : K.In s.heap)
    (I : PySem.W.InstAt s.heap x ox C od) (hs : PySem.W.findIn K (.ref C) name = some (some (.builtin id))) (S : bindSpecial (.builtin id) (.ref x) = pure (Value.builtin id, [Value.ref x]))
    (h : wpAny M A (call (.builtin id) (.ref x :: args)) (fun v => Q (some v)) E s) : wpAny M A (callSpecialIfBound? (.ref x) name args) Q E s := by
  have fin : wpAny M A (call (.builtin id) ([Value.ref x] ++ args) >>= fun v => pure (some v)) Q E s :=
    wpAny_bind (wpAny_mono h (fun _ _ z => wpAny_pure z) fun _ _ z => z)
  have tail : wpAny M A (some <$> (pure (Value.builtin id, [Value.ref x]) : Sem (Value × List Value))) (fun a s' => wpAny M A (match a with
    | some (g, first) => call g (first ++ args) >>= fun v => pure (some v)
    | none => pure none) Q E s') E s := wpAny_bind (wpAny_pure (wpAny_pure fin))
  simp only [callSpecialIfBound?, bindSpecialIfBound?]
  refine wpAny_holding ?_
  refine wpAny_bind ?_
  refine wpAny_bind ?_
  refine wpAny_bind (I.type.here ?_)
  refine (PySem.W.looks_findIn Z hs).here ?_
  simp only [S]
  refine wpAny_bind ?_
  refine wpAny_askSetting ?_
  refine wpAny_ite ?_
  split
  · refine wpAny_bind ?_
    exact wpAny_pure (wpAny_pure fin)
  · refine wpAny_tryCatch ?_
    refine wpAny_bind ?_
    exact wpAny_pure (wpAny_pure fin)
/-- object.__ne__(x, y) by the own __eq__ -/
theorem ne_body {M : Program} {w : World} {A : Around} {E : Value → Shared → Prop} {s : Shared} {K : PySem.W.Frag} {x C f : Addr} {ox : Obj} {od : Option Obj} {b : Value} {Q : Fin → Shared → Prop} (Z : K.In s.heap) (hu : A.units < cLine)
    (I : PySem.W.InstAt s.heap x ox C od) (hs : PySem.W.findIn K (.ref C) "__eq__" = some (some (.ref f))) (hf : PySem.W.isFn K (.ref f) = true)
    (h : wpAny (model M w) A (call (.ref f) [.ref x, b]) (fun v s' => ∃ r, v = .bool r ∧ Q (.done (.ret (.bool (!r)))) s') E s) :
    wpAny (model M w) A (Builtin.«object.__ne__» ⟨[.ref x, b], []⟩) Q E s := by
  unfold Builtin.«object.__ne__»
  have step : wpAny (model M w) A (callSpecialIfBound? (.ref x) "__eq__" [b]) (fun o s' => ∃ r, o = some (.bool r) ∧ Q (.done (.ret (.bool (!r)))) s') E s :=
    PySem.W.ifBound_K Z I hs hf (wpAny_mono h (fun v s' ⟨r, e, q⟩ => ⟨r, by rw [e], q⟩) fun _ _ z => z)
  refine wpAny_bind (wpAny_of_eq (a := ((Value.ref x : Value), [b])) (by first | rfl | (simp only [slotArgs]; rfl)) ?_)
  dsimp only
  refine wpAny_bind (wpAny_cRoomFor hu ?_)
  refine wpAny_bind (wpAny_mono step (fun o s' hv => ?_) fun _ _ z => z)
  obtain ⟨r, rfl, q⟩ := hv
  dsimp only
  refine wpAny_bind ?_
  refine wpAny_truthy_bool ?_
  exact wpAny_pure q
end
/-- x != y by the __eq__ of x's class -/
def rOwnNe (K : PySem.W.Frag) (C : Addr) (sp : Sp) (E : XK) : R2 := fun x y H Q => ∃ a dx fs t, x = .ref a ∧ H a = some (.ins C dx fs) ∧ TyX K H y t ∧ PySem.W.notFirst K C t = true ∧ sp [x, y] H (fun v H' => ∃ r, v = .bl r ∧ Q (.bl (!r)) H') E
section
variable {X : Cx} {CX : CXT} {C f : Addr} {fd : FuncData} {ps : List Str} {sp : Sp} {E : XK} {k : Nat}
theorem op_ownNe (F : FnOk X.prog X.w X.K X.mg X.base CX k f fd ps sp) (hr : Room (k + 1) X.A) (hs : PySem.W.findIn X.K (.ref C) "__eq__" = some (some (.ref f))) (hf : PySem.W.isFn X.K (.ref f) = true)
    (hn : PySem.W.findIn X.K (.ref C) "__ne__" = some (some (.builtin "object.__ne__"))) (hm : PySem.W.mroIn X.K C (.type "object") = some true)
    (hb : Binds X.K fd ps []) (hx : Passes CX X E) : OpR X (compareOp .NotEq) (rOwnNe X.K C sp E) := by
  intro pins s σ H x y v u Q I rx ry hq
  obtain ⟨a, dx, fs, t, rfl, ha, ty, nf, q⟩ := hq
  cases rx
  obtain ⟨_, J0, _⟩ := ins_get I.hok ha
  obtain ⟨_, J, _⟩ := J0.look
  obtain ⟨_, hF⟩ := I.fr
  obtain ⟨_, kx, hp, _⟩ := kit_of I ry ty
  have hlook := kx.ty (model X.prog X.w) _ I.kIn hp
  have hu := hr.units0
  have body := ne_body (M := X.prog) (w := X.w) (A := X.A.in1) (E := X.xe) (b := u) (Q := fun fin s' => ∃ r : Bool, fin = .done (.ret (.bool r)) ∧ EP X pins σ Q (.bool r) s') I.kIn hr.in1.units0 J hs hf
    (wpAny_mono (run_at (A := X.A.in1) rfl hr.in1 F hb hx I (vs := [V.ref a, y]) (us := [Value.ref a, u]) (Paired.cons (show RelV (V.ref a) (Value.ref a) from rfl) (Paired.cons ry .nil)) q) (fun w' s' z => by
      obtain ⟨v', H', I', rr, r, e, q'⟩ := z
      subst e
      exact ⟨r, rr, !r, rfl, .bl (!r), H', I', rfl, q'⟩) fun _ _ z => z)
  have one : wpAny (model X.prog X.w) X.A (tryCompare (.ref a) "__ne__" u) (fun o s' => ∃ r : Bool, o = some (.bool r) ∧ EP X pins σ Q (.bool r) s') X.xe s := by
    unfold tryCompare
    refine wpAny_bind (ifBound_B I.kIn J hn (PySem.F.cmp_object.ne.bind _) (wpAny_call (codeAny_call_builtin PySem.F.cmp_object.ne.plain PySem.F.cmpEntry_ne ?_)))
    refine PySem.W.check_slot PySem.F.cmpKind_ne PySem.F.cmpSplit_ne (J.type.andThen (PySem.W.looks_mroIn I.kIn hm)) (PySem.F.cmpArgs_ne _ _) ?_
    refine wpAny_mono body (fun fin s' z => ?_) fun _ _ z => z
    obtain ⟨r, rfl, ep⟩ := z
    exact wpAny_pure ⟨r, rfl, ep⟩
  show wpAny (model X.prog X.w) X.A (richCompare .NotEq (.ref a) u) (EP X pins σ Q) X.xe s
  unfold richCompare
  simp only [oneThing_ref]
  refine wpAny_holding ?_
  refine wpAny_bind (wpAny_cRoomFor hu ?_)
  refine wpAny_bind (J.type.here ?_)
  refine wpAny_bind (hlook.here ?_)
  have fin : ∀ {β : Type} {z : Value → Sem Value} {y : Sem Value}, True := fun {_ _ _} => trivial
  split
  · rename_i qq
    have e : PySem.W.subIn X.K t (.ref C) = some false := by
      rcases Bool.or_eq_true_iff.mp nf with e | e
      · rw [beq_iff_eq.mp e] at qq
        simp at qq
      · exact beq_iff_eq.mp e
    refine wpAny_bind ((PySem.W.looks_subIn I.kIn e).here ?_)
    simp only [Bool.false_eq_true, if_false]
    refine wpAny_bind (wpAny_mono one (fun o s' z => ?_) fun _ _ z => z)
    obtain ⟨r, rfl, ep⟩ := z
    exact wpAny_pure ep
  · refine wpAny_bind (wpAny_pure ?_)
    simp only [Bool.false_eq_true, if_false]
    refine wpAny_bind (wpAny_mono one (fun o s' z => ?_) fun _ _ z => z)
    obtain ⟨r, rfl, ep⟩ := z
    exact wpAny_pure ep
end
end OQ

/-! ### errors: isinstance of a caught one that has fields; making an instance within a try -/
namespace OQ
open PySem L2 PySem.Spec PyProof.Rows
/-- isinstance(e, c), e the error that the suite holds at a: its class cls, its dict d -/
def rIsX (K : PySem.W.Frag) (D a : Addr) (cls : Value) (d : Option Addr) : List V → Hp → VK → Prop := fun xs H Q => ∃ (c : V) (cv : Value) (b : Bool) (dd : Addr) (fs : List (Str × V)),
  xs = [.ref a, c] ∧ cls = .ref D ∧ d = some dd ∧ H dd = some (.xd fs) ∧ ClsV c cv ∧ PySem.W.kitOne K (.ref D) cv = some b ∧ Q (.bl b) H
theorem call_isX {X : Cx} {a D : Addr} {cls : Value} {d : Option Addr} {oe : Obj} {pn : List (Addr × Obj)} (C : ExcC X.K D) (hz : Zc cls d oe) (hf : ∃ vs, oe.data = .fields vs) :
    CallR (X.suite a ((a, oe) :: pn)) (.builtin "isinstance") (rIsX X.K D a cls d) := by
  rintro pins s σ H xs us Q I r ⟨c, cv, b, dd, fs, rfl, rfl, rfl, hx, hc, e, q⟩
  cases r with
  | cons rx rr => cases rr with
    | cons rt rr =>
      cases rr
      cases rx
      have ec := hc.eq rt
      subst ec
      obtain ⟨hget, _⟩ := I.pin (a, oe) (List.mem_append_left _ (List.mem_cons_self ..))
      obtain ⟨vs, hv⟩ := hf
      obtain ⟨_, hns, _⟩ := (show ObjOk X.prog X.w H s.heap dd (.xd fs) from I.hok dd _ hx)
      obtain ⟨od, ho, _⟩ := lookIn_ns hns
      have J : PySem.W.InstAt s.heap a oe D (some od) := ⟨hget, hz.1, (by unfold PySem.W.notCls; rw [hv] <;> rfl), (by rw [hz.2]; exact ho)⟩
      have hcl : (PySem.W.clsIn X.K D).isSome = true := by
        obtain ⟨cd, h1, _⟩ := PySem.W.any_some C.hd
        rw [h1]; rfl
      exact PySem.W.kia_one (PySem.W.kitx_exc hcl C.hg C.hk C.hs C.ha C.hn C.ht C.hm) I.kIn J e (fun z => Value.noConfusion z) fun tk => ⟨.bl b, H, I.kept (t' := tk) fun _ _ z => z, rfl, q⟩
section
variable {X : Cx} {CX : CXT} {C f : Addr} {fd : FuncData} {ps : List Str} {sp : Sp} {k : Nat} {ds : List Value} {dvs : List V} {E : L2.St → XK} {x : Str} {p pos : Pos} {e : Expr} {es : List Expr} {t : TA}
/-- C(e, ..), what is raised wished for at the slots -/
def tMakeS (C : Addr) (sp : Sp) (dvs : List V) (E : L2.St → XK) (t : TA) : TE := fun σ H Q => t σ H fun vs H1 => ∀ x dx, H1 x = none → H1 dx = none → dx ≠ x →
  sp (.ref x :: (vs ++ dvs)) (upd (upd H1 dx (.own x)) x (.ins C dx [])) (fun v H2 => v = .non ∧ Q (.ref x) H2) (E σ)
theorem pe_makeS (M : Mk X.K C f) (F : FnOk X.prog X.w X.K X.mg X.base CX k f fd ps sp) (hr : Room (k + 1) X.A) (hg : Gl X x) (hm : X.mg x = some (.ref C)) (hb : Binds X.K fd ps ds) (hd : Vals dvs ds)
    (hx : ∀ σ, PassesAt CX X σ (E σ)) (ha : PA X (e :: es) t) (hdb : (x == ("__debug__" : Str)) = false := by decide)
    (he : starEach (e :: es) X.env = (false, eval e X.env) :: starEach es X.env := by rfl) (hpl : (backTo pos (starEach es X.env)).any (·.1) = false := by rfl) :
    PE X (.Call (.Name x p) (e :: es) [] pos) (tMakeS C sp dvs E t) := by
  refine ⟨fun pins s σ H Q I h => ?_⟩
  refine wpAny_Call_Name_kw (ld_glob I hg hm ?_ hdb)
  refine PySem.W.callWith_K (h₀ := X.base) I.ok.mod.kin M.kp (thn (ha.run pos pins s σ H _ I h) ?_) he hpl
  rintro us s1 ⟨vs, H1, I1, r, q⟩
  refine ⟨I1.kIn, ?_⟩
  have nx : H1 (s1.heap.objs.size + 1) = none := I1.hok.fresh (Nat.le_succ _)
  have ndx : H1 s1.heap.objs.size = none := I1.hok.fresh (Nat.le_refl _)
  have hq := q _ _ nx ndx (Nat.ne_of_lt (Nat.lt_succ_self _))
  have I2 := Inv.made (C := C) I1
  have r2 : Vals (V.ref (s1.heap.objs.size + 1) :: (vs ++ dvs)) (Value.ref (s1.heap.objs.size + 1) :: (us ++ ds)) := .cons rfl (r.append hd)
  have hl : (Value.ref (s1.heap.objs.size + 1) :: us ++ ds).length = ps.length := (r2.length.symm).trans (F.len _ _ _ _ hq)
  refine wpAny_call (make_map (f := f) I1.kIn M.makes M.init (beq_iff_eq.mp M.fn) (codeAny_mono (F.run _ X.stack _ _ _ _ _ _ (E σ) (hr.make C us []) (I2.env0.make C us []) (hb _ (_ :: us) I2.kIn hl) r2 hq) ?_))
  rintro (er | fl) s' hq'
  · exact hx σ pins _ _ er s' I2 hq'
  · cases fl with
    | ret u =>
      obtain ⟨v, H', I3, rv, ev, q3⟩ := I2.after hq'
      subst ev
      exact ⟨rv, V.ref (s1.heap.objs.size + 1), H', I3, rfl, q3⟩
    | next => exact hq'.elim
    | brk => exact hq'.elim
    | cont => exact hq'.elim
end
/-- // by a divisor of either sign, below 2 ^ 9000 -/
def CDivX (_ j : Int) : Prop := j ≠ 0 ∧ j.natAbs.log2 < 9000
theorem op_fdivX {X : Cx} : OpR X (binaryOp .FloorDiv) (rI CDivX fun i j => .int (i.fdiv j)) := opI fun i j _ _ _ _ _ hc q => floordiv_int hc.1 q (.inl (PyProof.noPylong_of_log2 hc.2))
end OQ

namespace RM
/-- what both parts are divided by -/
def shr (i j : Int) : Int := if j < 0 then -((Nat.gcd i.natAbs j.natAbs : Nat) : Int) else ((Nat.gcd i.natAbs j.natAbs : Nat) : Int)
theorem gcd_pos {i j : Int} (h : j ≠ 0) : 0 < Nat.gcd i.natAbs j.natAbs := Nat.gcd_pos_of_pos_right _ (Int.natAbs_pos.mpr h)
theorem shr_ne {i j : Int} (h : j ≠ 0) : shr i j ≠ 0 := by
  have := gcd_pos (i := i) h
  unfold shr; split <;> omega
theorem shr_le {i j : Int} (h : j ≠ 0) : (shr i j).natAbs ≤ j.natAbs := by
  have := Nat.gcd_le_right i.natAbs (Int.natAbs_pos.mpr h)
  unfold shr; split <;> omega
theorem num_eq {i j : Int} (h : j ≠ 0) : i.fdiv (shr i j) = (Rat.divInt i j).num := by
  have g0 := gcd_pos (i := i) h
  have hd : ((Nat.gcd i.natAbs j.natAbs : Nat) : Int) ∣ i := Int.ofNat_dvd_left.mpr (Nat.gcd_dvd_left _ _)
  obtain ⟨k, hk⟩ := hd
  have e : j.gcd i = Nat.gcd i.natAbs j.natAbs := Nat.gcd_comm _ _
  rw [Rat.num_divInt, e]
  unfold shr
  generalize Nat.gcd i.natAbs j.natAbs = g at *
  split
  · rename_i hj
    rw [Int.sign_eq_neg_one_of_neg hj]
    have e1 : i = (-(g : Int)) * (-k) := by rw [hk, Int.neg_mul_neg]
    have e2 : -1 * i = (g : Int) * (-k) := by rw [hk, Int.mul_neg]; omega
    rw [e2, Int.mul_ediv_cancel_left _ (by omega)]
    conv => lhs; rw [e1]
    exact Int.mul_fdiv_cancel_left _ (by omega)
  · rename_i hj
    rw [Int.sign_eq_one_of_pos (by omega), Int.one_mul]
    conv => lhs; rw [hk]
    conv => rhs; rw [hk]
    rw [Int.mul_fdiv_cancel_left _ (by omega), Int.mul_ediv_cancel_left _ (by omega)]
theorem den_eq {i j : Int} (h : j ≠ 0) : j.fdiv (shr i j) = ((Rat.divInt i j).den : Int) := by
  have g0 := gcd_pos (i := i) h
  have hd : ((Nat.gcd i.natAbs j.natAbs : Nat) : Int) ∣ j := Int.ofNat_dvd_left.mpr (Nat.gcd_dvd_right _ _)
  obtain ⟨k, hk⟩ := hd
  have e : j.gcd i = Nat.gcd i.natAbs j.natAbs := Nat.gcd_comm _ _
  rw [Rat.den_divInt, if_neg h, e]
  unfold shr
  generalize Nat.gcd i.natAbs j.natAbs = g at *
  have ea : j.natAbs / g = k.natAbs := by rw [hk, Int.natAbs_mul, Int.natAbs_natCast, Nat.mul_div_cancel_left _ g0]
  rw [ea]
  split
  · rename_i hj
    have kn : k < 0 := by
      rcases Int.lt_or_le k 0 with q | q
      · exact q
      · have := Int.mul_nonneg (Int.natCast_nonneg g) q
        omega
    have e1 : j = (-(g : Int)) * (-k) := by rw [hk, Int.neg_mul_neg]
    conv => lhs; rw [e1]
    rw [Int.mul_fdiv_cancel_left _ (by omega)]
    omega
  · rename_i hj
    have kn : 0 ≤ k := by
      rcases Int.lt_or_le k 0 with q | q
      · have := Int.mul_neg_of_pos_of_neg (show (0 : Int) < g by omega) q
        omega
      · exact q
    conv => lhs; rw [hk]
    rw [Int.mul_fdiv_cancel_left _ (by omega)]
    omega
end RM

namespace OQ
open PySem L2
/-- one of two rules -/
theorem op_or {X : Cx} {f : Value → Value → Sem Value} {r1 r2 : R2} (h1 : OpR X f r1) (h2 : OpR X f r2) : OpR X f (fun x y H Q => r1 x y H Q ∨ r2 x y H Q) :=
  fun pins s σ H x y v u Q I rx ry h => h.elim (h1 pins s σ H x y v u Q I rx ry) (h2 pins s σ H x y v u Q I rx ry)
/-- what lets nothing out where the wish is empty -/
theorem passN {X : Cx} : Passes (L2.CX X.prog X.w) X E0 := fun pins σ H s e s' I h => by
  obtain ⟨_, _, _, _, _, _, _, _, _, _, _, _, f⟩ := h
  exact f.elim
section
variable {σ : L2.St} {H : Hp} {Q : VK} {K : PySem.W.Frag}
theorem d_makeS {C : Addr} {sp : Sp} {dvs : List V} {E : L2.St → XK} {t : TA} (h : t σ H fun vs H1 => ∀ x dx, H1 x = none → H1 dx = none → dx ≠ x →
  sp (.ref x :: (vs ++ dvs)) (upd (upd H1 dx (.own x)) x (.ins C dx [])) (fun v H2 => v = .non ∧ Q (.ref x) H2) (E σ)) : tMakeS C sp dvs E t σ H Q := h
theorem d_make {C : Addr} {sp : Sp} {dvs : List V} {E : XK} {t : TA} (h : t σ H fun vs H1 => ∀ x dx, H1 x = none → H1 dx = none → dx ≠ x →
  sp (.ref x :: (vs ++ dvs)) (upd (upd H1 dx (.own x)) x (.ins C dx [])) (fun v H2 => v = .non ∧ Q (.ref x) H2) E) : tMake C sp dvs E t σ H Q := h
end
end OQ
namespace OQ
open PySem L2
theorem d_isX {K : PySem.W.Frag} {D a : Addr} {cls : Value} {d : Option Addr} {H : Hp} {Q : VK} {c : V} {cv : Value} {b : Bool} {dd : Addr} {fs : List (Str × V)} (e1 : cls = .ref D) (e2 : d = some dd) (hx : H dd = some (.xd fs)) (hc : ClsV c cv)
    (e : PySem.W.kitOne K (.ref D) cv = some b) (h : Q (.bl b) H) : rIsX K D a cls d [.ref a, c] H Q := ⟨c, cv, b, dd, fs, rfl, e1, e2, hx, hc, e, h⟩
end OQ

/-! ### own + - * of a class of the text, also with an int on either side; own - in front -/
namespace OQ
open PySem L2 PySem.Spec PyProof.Rows
section
variable {prog : Program} {w : World} {A : Around} {E : Value → Shared → Prop} {s : Shared}
theorem decl_body {n : String} {f : Int → Int → Sem Fin} {i : Int} {t : Tok} {x C dx : Addr} {Q : Fin → Shared → Prop} (ho : s.heap.get? x = some (PySem.W.instObj C dx)) (q : Q (.done (.ret .notImplemented)) s) :
    wpAny (model prog w) A (Builtin.Int.intBinary n f false ⟨[.int i t, .ref x], []⟩) Q E s := by
  unfold Builtin.Int.intBinary
  refine wpAny_bind (wpAny_of_eq (a := ((Value.int i t : Value), [Value.ref x])) (by first | rfl | (simp only [slotArgs]; rfl)) ?_)
  dsimp only
  refine wpAny_bind (wpAny_of_eq (a := i) (by rfl) ?_)
  unfold asInt?
  obtain ⟨hp, g, d, tk, os⟩ := s
  dsimp only [List.headD]
  wp_walk using wpAny_loadPart_at ho
  exact q
/-- what is known of an operator at ints -/
structure IntOp (op : Operator) (id : String) : Prop where
  slot : Slot "int" (PySem.dunder op.info.2) id
  entry : ∃ n f, entryFor table id = some (Builtin.Int.intBinary n f false)
  args : ∀ a b, argsOk id ⟨[a, b], []⟩
  fills : fillsNumberSlot (.type "int") op.info.2 = pure true
theorem int_add : IntOp .Add "int.__add__" := ⟨PySem.F.slot_int_add, ⟨_, _, PySem.F.entry_int_add⟩, PySem.F.args_int_add_2, PySem.F.fills_int_add⟩
theorem int_sub : IntOp .Sub "int.__sub__" := ⟨PySem.F.slot_int_sub, ⟨_, _, PySem.F.entry_int_sub⟩, PySem.F.args_int_sub_2, PySem.F.fills_int_sub⟩
theorem int_mul : IntOp .Mult "int.__mul__" := ⟨PySem.F.slot_int_mul, ⟨_, _, PySem.F.entry_int_mul⟩, PySem.F.args_int_mul_2, PySem.F.fills_int_mul⟩
open PySem.W in
theorem refl_run {op : Operator} {id : String} (IO : IntOp op id) {K : Frag} {x C f f' dx : Addr} {i : Int} {t : Tok} {od : Option Obj} {Q : Value → Shared → Prop} (Z : K.In s.heap) (I : InstAt s.heap x (instObj C dx) C od) (hc : selfFirst K C = true)
    (hs : findIn K (.ref C) (PySem.dunder op.info.2) = some (some (.ref f'))) (hr : findIn K (.ref C) (dunderR op.info.2) = some (some (.ref f))) (hf : isFn K (.ref f) = true) (hsub : subIn K (.ref C) (.type "int") = some false)
    (h : wpAny (model prog w) A (call (.ref f) [.ref x, .int i t]) (PySem.W.CmpBack Q) E s) : wpAny (model prog w) A (binaryOp op (.int i t) (.ref x)) Q E s := by
  obtain ⟨cd, rest, hcd, hm⟩ := ksp_first hc
  have one := ksp_try Z I hr hf h
  have dec : wpAny (model prog w) A (tryMethod (.int i t) (PySem.dunder op.info.2) (.ref x)) (fun r s' => r = none ∧ s' = s) E s := by
    obtain ⟨n, g, en⟩ := IO.entry
    refine wpAny_tryMethod_declines rfl IO.slot (wpAny_call (codeAny_call_builtin IO.slot.plain en (IO.slot.check _ _ _ _ _ _ _ _ rfl (IO.args _ _) ?_)))
    exact decl_body I.at_ ⟨rfl, rfl, rfl⟩
  have hfl := IO.fills
  rcases hi : op.info with ⟨sym, nm'⟩
  rw [hi] at hs hr dec one hfl
  dsimp only at hs hr dec one hfl
  obtain ⟨hh, g, d, tt, os⟩ := s
  have L1 : Looks (model prog w) hh (typeOf (.int i t)) (.type "int") := Looks.of_pure rfl
  have L2 : Looks (model prog w) hh (typeOf (.ref x)) (.ref C) := I.type
  have L3 : Looks (model prog w) hh (fillsNumberSlot (.type "int") nm') true := Looks.of_pure hfl
  have L4 : Looks (model prog w) hh (fillsNumberSlot (.ref C) nm') true := fills_K Z hcd hm hs
  have L5 : Looks (model prog w) hh (isSubtype (.ref C) (.type "int")) false := looks_subIn Z hsub
  have L7 : Looks (model prog w) hh (numberSlotInPython (.type "int") nm') false := Looks.of_pure rfl
  have hne : (Value.type "int" == Value.ref C) = false := Bool.eq_false_iff.mpr fun q => by cases beq_iff_eq.mp q
  simp only [binaryOp, hi]
  refine wpAny_holding (wpAny_bind ?_)
  unfold binaryOp1
  refine wpAny_bind (L1.at (wpAny_bind (L2.at (wpAny_bind (L3.at ?_)))))
  simp only [hne, Bool.false_eq_true, if_false]
  ksp_lk
  refine wpAny_mono dec (fun r s' hr' => ?_) fun _ _ e => e
  obtain ⟨rfl, rfl⟩ := hr'
  ksp_lk
  refine wpAny_mono one (fun r s' hr' => ?_) fun _ _ e => e
  obtain ⟨v, rfl, hq⟩ := hr'
  ksp_lk
  exact hq
end
end OQ
namespace OQ
open PySem L2 PySem.Spec PyProof.Rows
section
variable {X : Cx} {CX : CXT} {C f f' : Addr} {fd : FuncData} {ps : List Str} {sp : Sp} {E : XK} {k : Nat} {op : Operator}
/-- x op y by the method of x's class; y of the same class, or an int -/
def rOwnB (C : Addr) (sp : Sp) (E : XK) : R2 := fun x y H Q => ∃ a dx fs, x = .ref a ∧ H a = some (.ins C dx fs) ∧ ((∃ b dy gs, y = .ref b ∧ H b = some (.ins C dy gs)) ∨ ∃ i, y = .int i) ∧ sp [x, y] H Q E
theorem op_ownB {fo ro : Option Value} (F : FnOk X.prog X.w X.K X.mg X.base CX k f fd ps sp) (hr : Room k X.A) (hc : PySem.W.selfFirst X.K C = true) (hs : PySem.W.findIn X.K (.ref C) (PySem.dunder op.info.2) = some (some (.ref f))) (hf : PySem.W.isFn X.K (.ref f) = true)
    (hrr : PySem.W.findIn X.K (.ref C) (dunderR op.info.2) = some (some (.ref f'))) (h1 : PySem.W.findIn X.K (.type "int") (PySem.dunder op.info.2) = some fo) (h2 : PySem.W.findIn X.K (.type "int") (dunderR op.info.2) = some ro)
    (hsub : PySem.W.subIn X.K (.type "int") (.ref C) = some false) (hb : Binds X.K fd ps []) (hx : Passes CX X E) : OpR X (binaryOp op) (rOwnB C sp E) := by
  intro pins s σ H x y v u Q I rx ry hq
  obtain ⟨a, dx, fs, rfl, ha, hy, q⟩ := hq
  cases rx
  obtain ⟨_, J0, _⟩ := ins_get I.hok ha
  obtain ⟨_, J, _⟩ := J0.look
  obtain ⟨_, hF⟩ := I.fr
  have call := wpAny_mono (run_at (A := X.A) rfl hr F hb hx I (vs := [V.ref a, y]) (us := [Value.ref a, u]) (Paired.cons (show RelV (V.ref a) (Value.ref a) from rfl) (Paired.cons ry .nil)) q) (fun _ _ z => cmpBack_of z) fun _ _ z => z
  rcases hy with ⟨b, dy, gs, rfl, hbb⟩ | ⟨i, rfl⟩
  · cases ry
    obtain ⟨_, J1, _⟩ := ins_get I.hok hbb
    obtain ⟨_, J2, _⟩ := J1.look
    exact PySem.W.binop_K hF I.ok.mod.kin J J2.type hc hs hf call
  · obtain ⟨t, rfl⟩ := ry
    exact PySem.W.ksp_binT (T := "int") hF I.ok.mod.kin J rfl hc hs hf hrr (.inr ⟨f', rfl⟩) h1 h2 hsub call
/-- i op y, i an int, by the reflected method of y's class -/
def rReflB (C : Addr) (sp : Sp) (E : XK) : R2 := fun x y H Q => ∃ i a dx fs, x = .int i ∧ y = .ref a ∧ H a = some (.ins C dx fs) ∧ sp [y, x] H Q E
theorem op_reflB {id : String} (IO : IntOp op id) (F : FnOk X.prog X.w X.K X.mg X.base CX k f fd ps sp) (hr : Room k X.A) (hc : PySem.W.selfFirst X.K C = true) (hs : PySem.W.findIn X.K (.ref C) (PySem.dunder op.info.2) = some (some (.ref f')))
    (hrr : PySem.W.findIn X.K (.ref C) (dunderR op.info.2) = some (some (.ref f))) (hf : PySem.W.isFn X.K (.ref f) = true) (hsub : PySem.W.subIn X.K (.ref C) (.type "int") = some false) (hb : Binds X.K fd ps []) (hx : Passes CX X E) :
    OpR X (binaryOp op) (rReflB C sp E) := by
  intro pins s σ H x y v u Q I rx ry hq
  obtain ⟨i, a, dx, fs, rfl, rfl, ha, q⟩ := hq
  cases ry
  obtain ⟨t, rfl⟩ := rx
  obtain ⟨_, _, _, ob, _⟩ := (show ObjOk X.prog X.w H s.heap a (.ins C dx fs) from I.hok a _ ha)
  obtain ⟨_, J0, _⟩ := ins_get I.hok ha
  obtain ⟨od, J, _⟩ := J0.look
  have e := J.at_.symm.trans ob
  have call := wpAny_mono (run_at (A := X.A) rfl hr F hb hx I (vs := [V.ref a, .int i]) (us := [Value.ref a, .int i t]) (Paired.cons (show RelV (V.ref a) (Value.ref a) from rfl) (Paired.cons ⟨t, rfl⟩ .nil)) q) (fun _ _ z => cmpBack_of z) fun _ _ z => z
  cases e
  exact refl_run IO I.kIn J hc hs hrr hf hsub call
/-- -x by the own __neg__ -/
def rOwnU (C : Addr) (sp : Sp) (E : XK) : V → Hp → VK → Prop := fun x H Q => ∃ a dx fs, x = .ref a ∧ H a = some (.ins C dx fs) ∧ sp [x] H Q E
theorem un_ownNeg (F : FnOk X.prog X.w X.K X.mg X.base CX k f fd ps sp) (hr : Room k X.A) (hs : PySem.W.findIn X.K (.ref C) "__neg__" = some (some (.ref f))) (hf : PySem.W.isFn X.K (.ref f) = true) (hb : Binds X.K fd ps []) (hx : Passes CX X E) :
    UnR X (unaryOp .USub) (rOwnU C sp E) := by
  intro pins s σ H x v Q I rx hq
  obtain ⟨a, dx, fs, rfl, ha, q⟩ := hq
  cases rx
  obtain ⟨_, J0, _⟩ := ins_get I.hok ha
  obtain ⟨_, J, _⟩ := J0.look
  obtain ⟨_, hF⟩ := I.fr
  exact PySem.W.ksp_neg hF I.ok.mod.kin J hs hf (run_at (A := X.A) rfl hr F hb hx I (vs := [V.ref a]) (us := [Value.ref a]) (Paired.cons (show RelV (V.ref a) (Value.ref a) from rfl) .nil) q)
end
end OQ

/-! ### two tuples of the very same items -/
namespace OQ
open PySem L2 PySem.Spec PyProof.Rows
def SameIt (v : V) : Prop := flatB v = true ∨ ∃ r, v = .ref r
theorem eqAt_it {A : Around} {s : Shared} {v : V} {u u' : Value} (h : SameIt v) (r : RelV v u) (r' : RelV v u') : SeqAt.EqAt A s u u' true := by
  rcases h with h | ⟨a, rfl⟩
  · exact eqAt_same r r' h
  · cases r
    cases r'
    exact SeqAt.EqAt.same _
def rTupS (K : PySem.W.Frag) (ans : Bool) : R2 := fun x y H Q => ∃ a b xs, x = .ref a ∧ y = .ref b ∧ SqT K H a xs ∧ SqT K H b xs ∧ (∀ v ∈ xs, SameIt v) ∧ Q (.bl ans) H
theorem its_same {A : Around} {s : Shared} {xs : List V} {us ws : List Value} (h : ∀ v ∈ xs, SameIt v) (r1 : Vals xs us) (r2 : Vals xs ws) (j : Nat) (h1 : j < us.toArray.size) (h2 : j < ws.toArray.size) :
    SeqAt.EqAt A s us.toArray[j] ws.toArray[j] true := by
  have k1 : j < us.length := by simpa using h1
  have k2 : j < ws.length := by simpa using h2
  have kx : j < xs.length := by rw [r1.length]; exact k1
  obtain ⟨u, hu, ru⟩ := r1.get (List.getElem?_eq_getElem kx)
  obtain ⟨v, hv, rv⟩ := r2.get (List.getElem?_eq_getElem kx)
  rw [List.getElem?_eq_getElem k1] at hu
  rw [List.getElem?_eq_getElem k2] at hv
  have e1 : us.toArray[j] = u := by simpa using Option.some.inj hu
  have e2 : ws.toArray[j] = v := by simpa using Option.some.inj hv
  rw [e1, e2]
  exact eqAt_it (h _ (List.getElem_mem kx)) ru rv
theorem op_neTS {X : Cx} (hu : X.A.units < cLine) : OpR X (compareOp .NotEq) (rTupS X.K false) := by
  rintro pins s σ H x y v u Q I rx ry ⟨a, b, xs, rfl, rfl, ha, hb, hs, q⟩
  cases rx
  cases ry
  obtain ⟨us, r1, p1, _⟩ := I.tuple ha
  obtain ⟨ws, r2, p2, _⟩ := I.tuple hb
  have e := SeqAt.RcNeAt.tuples (e := fun _ => true) p1 p2 hu (fun j h1 h2 => its_same hs r1 r2 j h1 h2)
  refine e X.prog X.w X.xe _ ?_
  have sz : us.toArray.size = ws.toArray.size := by rw [List.size_toArray, List.size_toArray, ← r1.length, ← r2.length]
  have all : (!((List.range (min us.toArray.size ws.toArray.size)).all (fun _ => true) && us.toArray.size == ws.toArray.size)) = false := by rw [sz]; simp
  rw [all]
  exact ⟨.bl false, H, I, rfl, q⟩
section
variable {X : Cx} {CX : CXT} {C f : Addr} {fd : FuncData} {ps : List Str} {sp : Sp} {k : Nat} {ds : List Value} {dvs : List V} {E : L2.St → XK}
/-- o.m(e, ..), what is raised wished for at the slots -/
def tMethS (C : Addr) (m : Str) (sp : Sp) (dvs : List V) (E : L2.St → XK) (ta : TE) (t : TA) : TE := fun σ H Q => ta σ H fun x H1 => ∃ a dx fs, x = .ref a ∧ H1 a = some (.ins C dx fs) ∧ fs.lookup m = none ∧
  t σ H1 fun vs H2 => sp (x :: (vs ++ dvs)) H2 Q (E σ)
theorem d_methS {m : Str} {ta : TE} {t : TA} {σ : L2.St} {H : Hp} {Q : VK} (h : ta σ H fun x H1 => ∃ a dx fs, x = .ref a ∧ H1 a = some (.ins C dx fs) ∧ fs.lookup m = none ∧ t σ H1 fun vs H2 => sp (x :: (vs ++ dvs)) H2 Q (E σ)) :
    tMethS C m sp dvs E ta t σ H Q := h
theorem d_meth {E : XK} {m : Str} {ta : TE} {t : TA} {σ : L2.St} {H : Hp} {Q : VK} (h : ta σ H fun x H1 => ∃ a dx fs, x = .ref a ∧ H1 a = some (.ins C dx fs) ∧ fs.lookup m = none ∧ t σ H1 fun vs H2 => sp (x :: (vs ++ dvs)) H2 Q E) :
    tMeth C m sp dvs E ta t σ H Q := h
theorem pe_methX {o e : Expr} {m : Str} {es : List Expr} {ta : TE} {t : TA} {apos pos : Pos} {pl : Sem Bool} (he : PE X o ta) (c : Cls X.K C) (hm : Meth X.K C m f) (F : FnOk X.prog X.w X.K X.mg X.base CX k f fd ps sp) (hr : Room k X.A)
    (hb : Binds X.K fd ps ds) (hd : Vals dvs ds) (hx : ∀ σ, PassesAt CX X σ (E σ)) (ha : PA X (e :: es) t)
    (hst : starEach (e :: es) X.env = (false, eval e X.env) :: starEach es X.env := by rfl) (hpl : (backTo pos (starEach es X.env)).any (·.1) = false := by rfl)
    (ht : eval (.Call (.Attribute o m apos) (e :: es) [] pos) X.env = (eval o X.env >>= fun ov => standAt apos.atName >>= fun _ => holding [ov] (getMethod ov m pl) >>= fun z =>
      callWith pos z.1 z.2 (backTo pos (starEach (e :: es) X.env)) (backToKw pos (keywordEach [] X.env))) := by rfl) :
    PE X (.Call (.Attribute o m apos) (e :: es) [] pos) (tMethS C m sp dvs E ta t) := by
  refine ⟨fun pins s σ H Q I h => ?_⟩
  refine PySem.W.methodCall_KW (pl := pl) (thn (he.run pins s σ H _ I h) ?_) ht
  rintro u s1 ⟨x, H1, I1, rx, a, dx, fs, rfl, ea, l, q⟩
  cases rx
  refine getmeth_ok I1 ea c hm l ?_
  refine PySem.W.callWith_K (first := [.ref a]) (h₀ := X.base) I.ok.mod.kin hm.kp (thn (ha.run pos pins s1 σ H1 _ I1 q) ?_) hst hpl
  rintro us s2 ⟨vs, H2, I2, r, q2⟩
  exact ⟨I2.kIn, run_fnSD (us := Value.ref a :: us) (vs := V.ref a :: vs) F hr hb hd (hx σ) I2 (.cons rfl r) q2⟩
end
end OQ

open RD in
local macro_rules | `(tactic| walk_at "rd1") => `(tactic| with_reducible first
  | refine d_seq ?_ | refine d_asg ?_ | refine d_op ?_ | refine d_c ?_ | refine d_gname ?_ | refine d_ifS ?_ | refine d_test ?_ | refine d_bl ?_ | refine d_ret ?_ | refine d_next ?_ | refine d_drop ?_
  | refine d_and ?_ | refine d_or ?_ | refine d_not ?_ | refine d_andV ?_ | refine d_orV ?_ | refine d_notV ?_ | refine d_if ?_ | refine d_tB ?_
  | refine d_rI0 ?_ | refine d_rU ?_ | refine d_eqI ?_ | refine d_neI ?_ | refine d_eqS ?_ | refine d_neS ?_ | refine d_eqB ?_ | refine d_isN ?_ | refine d_notN ?_ | refine d_intB ?_ | refine d_un ?_ | refine d_cb ?_ | refine d_cons ?_ | refine d_nil ?_ | refine d_lst ?_ | refine d_tup ?_ | refine d_call ?_
  | refine d_iList ?_ | refine d_rng1 ?_ | refine d_lc ?_ | refine d_yes ?_ | refine d_iteT ?_ | refine d_iteF ?_ | refine d_sl ?_ | refine d_noPart ?_ | refine d_part ?_ | refine d_exI ?_ | refine d_fld ?_ | refine d_iteNF ?_ | refine d_iteNT ?_ | refine d_gcd ?_ | refine d_sfld ?_ | refine d_for ?_ | refine OQ.d_makeS ?_ | refine OQ.d_make ?_ | refine OQ.d_methS ?_ | refine OQ.d_meth ?_ | refine d_gsub ?_ | refine d_par ?_ | refine d_int ?_ | refine d_abs ?_)
local macro_rules | `(tactic| walk_at "rdH") => `(tactic| first | assumption | exact L2.upd_same | (simp only [L2.upd_same, L2.upd_ne, ne_eq, not_false_eq_true, *]; done))
local macro_rules | `(tactic| walk_at "rdC") => `(tactic| first | assumption | (refine Or.inr ⟨?_, ?_⟩ <;> first | decide | omega) | (refine Or.inl ⟨?_, ?_⟩ <;> first | decide | omega) | (show (0 : Int) < _; first | assumption | decide | omega) | exact ⟨by decide, by decide +kernel⟩ | exact ⟨by decide, by decide, by decide +kernel⟩ | exact ⟨by assumption, by assumption⟩)
local macro_rules | `(tactic| walk_at "rd2") => `(tactic| first
  | refine RD.d_var rfl ?_
  | ((with_reducible (refine' RD.d_ixL ?hs ?e ?k)); (case hs => exact L2.SqL.of (by walk_at "rdH")); (case e => rfl))
  | ((with_reducible (refine' RD.d_ixT ?hs ?e ?k)); (case hs => exact L2.SqT.of (by walk_at "rdH")); (case e => rfl))
  | ((with_reducible (refine' RD.d_lenL ?hs ?k)); (case hs => exact L2.SqL.of (by walk_at "rdH")))
  | ((with_reducible (refine' RD.d_wipe ?e ?k)); (case e => rfl))
  | ((with_reducible (refine' RD.d_refL ?hs ?k)); (case hs => exact L2.SqL.of (by walk_at "rdH")))
  | ((with_reducible (refine' RD.d_lenT ?hs ?k)); (case hs => exact L2.SqT.of (by walk_at "rdH")))
  | ((with_reducible (refine' RD.d_lenS ?hs ?k)); (case hs => first | assumption | omega))
  | ((with_reducible (refine' RD.d_rI ?c ?k)); (case c => walk_at "rdC"))
  | ((with_reducible (refine' RD.d_setL ?hs ?e ?k)); (case hs => walk_at "rdH"); (case e => rfl)))
local macro_rules | `(tactic| walk_at "rd") => `(tactic| repeat (first | walk_at "rd1" | walk_at "rd2"))

namespace Toy
open PySem L2
def top (i : Nat) : Stmt := PySem.Challenge.pw_watchedways_k23_operators_of_ratios.main.body.getD i (.Pass ⟨0, 0, 0, 0⟩)
abbrev s_WayError__init : Stmt := inClass (top 2) 0
theorem sc_WayError__init : FnScope ["self", "value"] ["self", "value"] (defScope s_WayError__init) := ⟨rfl, rfl, rfl, by decide +kernel, rfl, by decide +kernel, by decide +kernel⟩
abbrev s_is_integer : Stmt := top 5
theorem sc_is_integer : FnScope ["thing"] ["thing"] (defScope s_is_integer) := ⟨rfl, rfl, rfl, by decide +kernel, rfl, by decide +kernel, by decide +kernel⟩
abbrev s_Ratio__init : Stmt := inClass (top 7) 0
theorem sc_Ratio__init : FnScope ["self", "top", "bottom", "shared"] ["self", "top", "bottom"] (defScope s_Ratio__init) := ⟨rfl, rfl, rfl, by decide +kernel, rfl, by decide +kernel, by decide +kernel⟩
abbrev s_Ratio__eq : Stmt := inClass (top 7) 1
theorem sc_Ratio__eq : FnScope ["self", "other"] ["self", "other"] (defScope s_Ratio__eq) := ⟨rfl, rfl, rfl, by decide +kernel, rfl, by decide +kernel, by decide +kernel⟩
abbrev s_Ratio__add : Stmt := inClass (top 7) 2
theorem sc_Ratio__add : FnScope ["self", "other"] ["self", "other"] (defScope s_Ratio__add) := ⟨rfl, rfl, rfl, by decide +kernel, rfl, by decide +kernel, by decide +kernel⟩
abbrev s_Ratio__radd : Stmt := inClass (top 7) 3
theorem sc_Ratio__radd : FnScope ["self", "other"] ["self", "other"] (defScope s_Ratio__radd) := ⟨rfl, rfl, rfl, by decide +kernel, rfl, by decide +kernel, by decide +kernel⟩
abbrev s_Ratio__sub : Stmt := inClass (top 7) 4
theorem sc_Ratio__sub : FnScope ["self", "other"] ["self", "other"] (defScope s_Ratio__sub) := ⟨rfl, rfl, rfl, by decide +kernel, rfl, by decide +kernel, by decide +kernel⟩
abbrev s_Ratio__rsub : Stmt := inClass (top 7) 5
theorem sc_Ratio__rsub : FnScope ["self", "other"] ["self", "other"] (defScope s_Ratio__rsub) := ⟨rfl, rfl, rfl, by decide +kernel, rfl, by decide +kernel, by decide +kernel⟩
abbrev s_Ratio__mul : Stmt := inClass (top 7) 6
theorem sc_Ratio__mul : FnScope ["self", "other"] ["self", "other"] (defScope s_Ratio__mul) := ⟨rfl, rfl, rfl, by decide +kernel, rfl, by decide +kernel, by decide +kernel⟩
abbrev s_Ratio__rmul : Stmt := inClass (top 7) 7
theorem sc_Ratio__rmul : FnScope ["self", "other"] ["self", "other"] (defScope s_Ratio__rmul) := ⟨rfl, rfl, rfl, by decide +kernel, rfl, by decide +kernel, by decide +kernel⟩
abbrev s_Ratio__neg : Stmt := inClass (top 7) 8
theorem sc_Ratio__neg : FnScope ["self"] ["self"] (defScope s_Ratio__neg) := ⟨rfl, rfl, rfl, by decide +kernel, rfl, by decide +kernel, by decide +kernel⟩
abbrev s_Ratio_over : Stmt := inClass (top 7) 9
theorem sc_Ratio_over : FnScope ["self", "other", "mate"] ["self", "other"] (defScope s_Ratio_over) := ⟨rfl, rfl, rfl, by decide +kernel, rfl, by decide +kernel, by decide +kernel⟩
abbrev s_Ratio_less : Stmt := inClass (top 7) 10
theorem sc_Ratio_less : FnScope ["self", "other", "mate"] ["self", "other"] (defScope s_Ratio_less) := ⟨rfl, rfl, rfl, by decide +kernel, rfl, by decide +kernel, by decide +kernel⟩
abbrev s_is_number : Stmt := top 8
theorem sc_is_number : FnScope ["thing"] ["thing"] (defScope s_is_number) := ⟨rfl, rfl, rfl, by decide +kernel, rfl, by decide +kernel, by decide +kernel⟩
abbrev s_as_ratio : Stmt := top 9
theorem sc_as_ratio : FnScope ["thing"] ["thing"] (defScope s_as_ratio) := ⟨rfl, rfl, rfl, by decide +kernel, rfl, by decide +kernel, by decide +kernel⟩
abbrev s_sum_of : Stmt := top 10
theorem sc_sum_of : FnScope ["one", "other"] ["one", "other"] (defScope s_sum_of) := ⟨rfl, rfl, rfl, by decide +kernel, rfl, by decide +kernel, by decide +kernel⟩
abbrev s_product_of : Stmt := top 11
theorem sc_product_of : FnScope ["one", "other"] ["one", "other"] (defScope s_product_of) := ⟨rfl, rfl, rfl, by decide +kernel, rfl, by decide +kernel, by decide +kernel⟩
abbrev s_law_hand : Stmt := top 13
theorem sc_law_hand : FnScope ["script", "cells", "cell"] ["script"] (defScope s_law_hand) := ⟨rfl, rfl, rfl, by decide +kernel, rfl, by decide +kernel, by decide +kernel⟩
abbrev s_law_draw : Stmt := top 14
theorem sc_law_draw : FnScope ["hand", "many", "cell", "digit", "number"] ["hand", "many"] (defScope s_law_draw) := ⟨rfl, rfl, rfl, by decide +kernel, rfl, by decide +kernel, by decide +kernel⟩
abbrev s_law_number : Stmt := top 15
theorem sc_law_number : FnScope ["hand", "kind", "number"] ["hand"] (defScope s_law_number) := ⟨rfl, rfl, rfl, by decide +kernel, rfl, by decide +kernel, by decide +kernel⟩
abbrev s_law_pair : Stmt := top 16
theorem sc_law_pair : FnScope ["hand", "bottom"] ["hand"] (defScope s_law_pair) := ⟨rfl, rfl, rfl, by decide +kernel, rfl, by decide +kernel, by decide +kernel⟩
abbrev s_law_common : Stmt := top 17
theorem sc_law_common : FnScope ["one", "other", "turn"] ["one", "other"] (defScope s_law_common) := ⟨rfl, rfl, rfl, by decide +kernel, rfl, by decide +kernel, by decide +kernel⟩
abbrev s_law_is : Stmt := top 18
theorem sc_law_is : FnScope ["thing", "top", "bottom", "part"] ["thing", "top", "bottom"] (defScope s_law_is) := ⟨rfl, rfl, rfl, by decide +kernel, rfl, by decide +kernel, by decide +kernel⟩
abbrev s_law_refused : Stmt := top 19
theorem sc_law_refused : FnScope ["kind", "ratio", "other", "told", "e"] ["kind", "ratio", "other"] (defScope s_law_refused) := ⟨rfl, rfl, rfl, by decide +kernel, rfl, by decide +kernel, by decide +kernel⟩
abbrev s_law_right : Stmt := top 20
theorem sc_law_right : FnScope ["one", "other", "a", "b", "c", "d"] ["one", "other", "a", "b", "c", "d"] (defScope s_law_right) := ⟨rfl, rfl, rfl, by decide +kernel, rfl, by decide +kernel, by decide +kernel⟩
abbrev s_law : Stmt := top 21
theorem sc_law : FnScope ["script", "hand", "turn", "a", "b", "c", "d", "whole", "one", "other", "sign", "below", "zero", "told", "odd", "kind"] ["script"] (defScope s_law) := ⟨rfl, rfl, rfl, by decide +kernel, rfl, by decide +kernel, by decide +kernel⟩
structure Top (K : PySem.W.Frag) (mg : Str → Option Value) where
  C_Ratio : Addr
  cl_Ratio : Cls K C_Ratio
  g_Ratio : mg "Ratio" = some (.ref C_Ratio)
  na_Ratio_top : NoAttr K C_Ratio "top"
  na_Ratio_bottom : NoAttr K C_Ratio "bottom"
  f_WayError__init : Addr
  fd_WayError__init : FuncData
  F_WayError__init : Fun K "__init__" "WayError.__init__" s_WayError__init f_WayError__init fd_WayError__init
  b_WayError__init : Binds K fd_WayError__init ["self", "value"] []
  f_is_integer : Addr
  fd_is_integer : FuncData
  F_is_integer : Fun K "is_integer" "is_integer" s_is_integer f_is_integer fd_is_integer
  b_is_integer : Binds K fd_is_integer ["thing"] []
  g_is_integer : mg "is_integer" = some (.ref f_is_integer)
  f_Ratio__init : Addr
  fd_Ratio__init : FuncData
  F_Ratio__init : FunD K "__init__" "Ratio.__init__" (defArgs s_Ratio__init) (defBody s_Ratio__init) (defScope s_Ratio__init) [V.int 1] [] f_Ratio__init fd_Ratio__init
  b1_Ratio__init : ∃ ds, Vals [V.int 1] ds ∧ Binds K fd_Ratio__init ["self", "top", "bottom"] ds
  b_Ratio__init : Binds K fd_Ratio__init ["self", "top", "bottom"] []
  M_Ratio : Mk K C_Ratio f_Ratio__init
  f_Ratio__eq : Addr
  fd_Ratio__eq : FuncData
  F_Ratio__eq : Fun K "__eq__" "Ratio.__eq__" s_Ratio__eq f_Ratio__eq fd_Ratio__eq
  b_Ratio__eq : Binds K fd_Ratio__eq ["self", "other"] []
  m_Ratio__eq : Meth K C_Ratio "__eq__" f_Ratio__eq
  f_Ratio__add : Addr
  fd_Ratio__add : FuncData
  F_Ratio__add : Fun K "__add__" "Ratio.__add__" s_Ratio__add f_Ratio__add fd_Ratio__add
  b_Ratio__add : Binds K fd_Ratio__add ["self", "other"] []
  m_Ratio__add : Meth K C_Ratio "__add__" f_Ratio__add
  f_Ratio__radd : Addr
  fd_Ratio__radd : FuncData
  F_Ratio__radd : Fun K "__radd__" "Ratio.__radd__" s_Ratio__radd f_Ratio__radd fd_Ratio__radd
  b_Ratio__radd : Binds K fd_Ratio__radd ["self", "other"] []
  m_Ratio__radd : Meth K C_Ratio "__radd__" f_Ratio__radd
  f_Ratio__sub : Addr
  fd_Ratio__sub : FuncData
  F_Ratio__sub : Fun K "__sub__" "Ratio.__sub__" s_Ratio__sub f_Ratio__sub fd_Ratio__sub
  b_Ratio__sub : Binds K fd_Ratio__sub ["self", "other"] []
  m_Ratio__sub : Meth K C_Ratio "__sub__" f_Ratio__sub
  f_Ratio__rsub : Addr
  fd_Ratio__rsub : FuncData
  F_Ratio__rsub : Fun K "__rsub__" "Ratio.__rsub__" s_Ratio__rsub f_Ratio__rsub fd_Ratio__rsub
  b_Ratio__rsub : Binds K fd_Ratio__rsub ["self", "other"] []
  m_Ratio__rsub : Meth K C_Ratio "__rsub__" f_Ratio__rsub
  f_Ratio__mul : Addr
  fd_Ratio__mul : FuncData
  F_Ratio__mul : Fun K "__mul__" "Ratio.__mul__" s_Ratio__mul f_Ratio__mul fd_Ratio__mul
  b_Ratio__mul : Binds K fd_Ratio__mul ["self", "other"] []
  m_Ratio__mul : Meth K C_Ratio "__mul__" f_Ratio__mul
  f_Ratio__rmul : Addr
  fd_Ratio__rmul : FuncData
  F_Ratio__rmul : Fun K "__rmul__" "Ratio.__rmul__" s_Ratio__rmul f_Ratio__rmul fd_Ratio__rmul
  b_Ratio__rmul : Binds K fd_Ratio__rmul ["self", "other"] []
  m_Ratio__rmul : Meth K C_Ratio "__rmul__" f_Ratio__rmul
  f_Ratio__neg : Addr
  fd_Ratio__neg : FuncData
  F_Ratio__neg : Fun K "__neg__" "Ratio.__neg__" s_Ratio__neg f_Ratio__neg fd_Ratio__neg
  b_Ratio__neg : Binds K fd_Ratio__neg ["self"] []
  m_Ratio__neg : Meth K C_Ratio "__neg__" f_Ratio__neg
  f_Ratio_over : Addr
  fd_Ratio_over : FuncData
  F_Ratio_over : Fun K "over" "Ratio.over" s_Ratio_over f_Ratio_over fd_Ratio_over
  b_Ratio_over : Binds K fd_Ratio_over ["self", "other"] []
  m_Ratio_over : Meth K C_Ratio "over" f_Ratio_over
  f_Ratio_less : Addr
  fd_Ratio_less : FuncData
  F_Ratio_less : Fun K "less" "Ratio.less" s_Ratio_less f_Ratio_less fd_Ratio_less
  b_Ratio_less : Binds K fd_Ratio_less ["self", "other"] []
  m_Ratio_less : Meth K C_Ratio "less" f_Ratio_less
  f_is_number : Addr
  fd_is_number : FuncData
  F_is_number : Fun K "is_number" "is_number" s_is_number f_is_number fd_is_number
  b_is_number : Binds K fd_is_number ["thing"] []
  g_is_number : mg "is_number" = some (.ref f_is_number)
  f_as_ratio : Addr
  fd_as_ratio : FuncData
  F_as_ratio : Fun K "as_ratio" "as_ratio" s_as_ratio f_as_ratio fd_as_ratio
  b_as_ratio : Binds K fd_as_ratio ["thing"] []
  g_as_ratio : mg "as_ratio" = some (.ref f_as_ratio)
  f_sum_of : Addr
  fd_sum_of : FuncData
  F_sum_of : Fun K "sum_of" "sum_of" s_sum_of f_sum_of fd_sum_of
  b_sum_of : Binds K fd_sum_of ["one", "other"] []
  g_sum_of : mg "sum_of" = some (.ref f_sum_of)
  f_product_of : Addr
  fd_product_of : FuncData
  F_product_of : Fun K "product_of" "product_of" s_product_of f_product_of fd_product_of
  b_product_of : Binds K fd_product_of ["one", "other"] []
  g_product_of : mg "product_of" = some (.ref f_product_of)
  f_law_hand : Addr
  fd_law_hand : FuncData
  F_law_hand : Fun K "_law_hand" "_law_hand" s_law_hand f_law_hand fd_law_hand
  b_law_hand : Binds K fd_law_hand ["script"] []
  g_law_hand : mg "_law_hand" = some (.ref f_law_hand)
  f_law_draw : Addr
  fd_law_draw : FuncData
  F_law_draw : Fun K "_law_draw" "_law_draw" s_law_draw f_law_draw fd_law_draw
  b_law_draw : Binds K fd_law_draw ["hand", "many"] []
  g_law_draw : mg "_law_draw" = some (.ref f_law_draw)
  f_law_number : Addr
  fd_law_number : FuncData
  F_law_number : Fun K "_law_number" "_law_number" s_law_number f_law_number fd_law_number
  b_law_number : Binds K fd_law_number ["hand"] []
  g_law_number : mg "_law_number" = some (.ref f_law_number)
  f_law_pair : Addr
  fd_law_pair : FuncData
  F_law_pair : Fun K "_law_pair" "_law_pair" s_law_pair f_law_pair fd_law_pair
  b_law_pair : Binds K fd_law_pair ["hand"] []
  g_law_pair : mg "_law_pair" = some (.ref f_law_pair)
  f_law_common : Addr
  fd_law_common : FuncData
  F_law_common : Fun K "_law_common" "_law_common" s_law_common f_law_common fd_law_common
  b_law_common : Binds K fd_law_common ["one", "other"] []
  g_law_common : mg "_law_common" = some (.ref f_law_common)
  f_law_is : Addr
  fd_law_is : FuncData
  F_law_is : Fun K "_law_is" "_law_is" s_law_is f_law_is fd_law_is
  b_law_is : Binds K fd_law_is ["thing", "top", "bottom"] []
  g_law_is : mg "_law_is" = some (.ref f_law_is)
  f_law_refused : Addr
  fd_law_refused : FuncData
  F_law_refused : Fun K "_law_refused" "_law_refused" s_law_refused f_law_refused fd_law_refused
  b_law_refused : Binds K fd_law_refused ["kind", "ratio", "other"] []
  g_law_refused : mg "_law_refused" = some (.ref f_law_refused)
  f_law_right : Addr
  fd_law_right : FuncData
  F_law_right : Fun K "_law_right" "_law_right" s_law_right f_law_right fd_law_right
  b_law_right : Binds K fd_law_right ["one", "other", "a", "b", "c", "d"] []
  g_law_right : mg "_law_right" = some (.ref f_law_right)
  f_law : Addr
  fd_law : FuncData
  F_law : Fun K "law" "law" s_law f_law fd_law
  b_law : Binds K fd_law ["script"] []
  g_law : mg "law" = some (.ref f_law)
  n_abs : mg "abs" = none
  n_int : mg "int" = none
  n_len : mg "len" = none
  n_range : mg "range" = none
  n_isinstance : mg "isinstance" = none
  n_bool : mg "bool" = none
  C_BN : Addr
  g_BadNumber : mg "BadNumber" = some (.ref C_BN)
  g_gcd : mg "gcd" = some (.builtin "math.gcd")
  haR : PySem.W.findIn K (.ref C_Ratio) "__class__" = some (some (.builtin "object.__class__"))
  hnO : PySem.W.specialIn K (.builtin "object.__class__") "__get__" = some (some (.builtin "getset_descriptor.__get__"))
  htO : PySem.W.takesIn K (.builtin "object.__class__") = some true
  hmR : PySem.W.mroIn K C_Ratio (.type "object") = some true
  neR : PySem.W.findIn K (.ref C_Ratio) "__ne__" = some (some (.builtin "object.__ne__"))
  oex_BadNumber : OexC K C_BN
  i_BadNumber : PySem.W.findIn K (.ref C_BN) "__init__" = some (some (.ref f_WayError__init))
  tI : PySem.W.typeIn K (.ref f_WayError__init) = some (.type "function")
  v_BadNumber : PySem.W.findIn K (.ref C_BN) "value" = some none
  xf_BadNumber : XfC K C_BN
  exI_BadNumber : ExcC K C_BN
  exm : PySem.W.exmOne K (.ref C_BN) (.ref C_BN) = some true
  kBN : PySem.W.kitOne K (.ref C_BN) (.ref C_BN) = some true
  kRR : PySem.W.kitOne K (.ref C_Ratio) (.ref C_Ratio) = some true
  kRi : PySem.W.kitOne K (.ref C_Ratio) (.type "int") = some false
  kRb : PySem.W.kitOne K (.ref C_Ratio) (.type "bool") = some false
  nfR : PySem.W.notFirst K C_Ratio (.ref C_Ratio) = true
  kT : ∀ t : String, t ∈ ["NoneType", "bool", "int", "str", "list", "tuple", "dict"] → PySem.W.kitOne K (.type t) (.ref C_Ratio) = some false ∧ PySem.W.notFirst K C_Ratio (.type t) = true
  sfR : PySem.W.selfFirst K C_Ratio = true
  subIR : PySem.W.subIn K (.type "int") (.ref C_Ratio) = some false
  subRI : PySem.W.subIn K (.ref C_Ratio) (.type "int") = some false
  fo_add : Option Value
  ro_add : Option Value
  at_add : PySem.W.findIn K (.ref C_Ratio) (PySem.dunder Operator.Add.info.2) = some (some (.ref f_Ratio__add))
  at_radd : PySem.W.findIn K (.ref C_Ratio) (dunderR Operator.Add.info.2) = some (some (.ref f_Ratio__radd))
  ia_add : PySem.W.findIn K (.type "int") (PySem.dunder Operator.Add.info.2) = some fo_add
  ib_add : PySem.W.findIn K (.type "int") (dunderR Operator.Add.info.2) = some ro_add
  fo_sub : Option Value
  ro_sub : Option Value
  at_sub : PySem.W.findIn K (.ref C_Ratio) (PySem.dunder Operator.Sub.info.2) = some (some (.ref f_Ratio__sub))
  at_rsub : PySem.W.findIn K (.ref C_Ratio) (dunderR Operator.Sub.info.2) = some (some (.ref f_Ratio__rsub))
  ia_sub : PySem.W.findIn K (.type "int") (PySem.dunder Operator.Sub.info.2) = some fo_sub
  ib_sub : PySem.W.findIn K (.type "int") (dunderR Operator.Sub.info.2) = some ro_sub
  fo_mul : Option Value
  ro_mul : Option Value
  at_mul : PySem.W.findIn K (.ref C_Ratio) (PySem.dunder Operator.Mult.info.2) = some (some (.ref f_Ratio__mul))
  at_rmul : PySem.W.findIn K (.ref C_Ratio) (dunderR Operator.Mult.info.2) = some (some (.ref f_Ratio__rmul))
  ia_mul : PySem.W.findIn K (.type "int") (PySem.dunder Operator.Mult.info.2) = some fo_mul
  ib_mul : PySem.W.findIn K (.type "int") (dunderR Operator.Mult.info.2) = some ro_mul
/-! ### the law's draws -/
def handV (c : Addr) (p q m n : Int) : List V := [.ref c, .int p, .int q, .int m, .int n]
/-- the hand at h -/
def HandAt (H : Hp) (h : Addr) : Prop := ∃ (c : Addr) (cs : List Int) (p q m n : Int), H h = some (.lst (handV c p q m n)) ∧ H c = some (.lst (cs.map V.int)) ∧ c ≠ h ∧ 0 ≤ p
/-- all but what stands at h is as it was -/
def But (h : Addr) (H H' : Hp) : Prop := ∀ b, b ≠ h → H' b = H b
def spDraw : Sp := fun vs H Q _ => ∃ (h : Addr) (many : Int), vs = [.ref h, .int many] ∧ HandAt H h ∧ 0 < many ∧ many.natAbs.log2 < 9000 ∧
  ∀ (r : Int) (H' : Hp), 0 ≤ r → r < many → HandAt H' h → But h H H' → Q (.int r) H'
def spHand (K : PySem.W.Frag) : Sp := fun vs H Q _ => ∃ (a : Addr) (ns : List Int), vs = [.ref a] ∧ SqL K H a (ns.map V.int) ∧ ns.length ≤ 63 ∧
  ∀ (h : Addr) (H' : Hp), HandAt H' h → Same H H' → H h = none → Q (.ref h) H'
theorem upd_upd {H : Hp} {p : Addr} {o u : HO} : upd (upd H p o) p u = upd H p u := by
  funext b
  by_cases e : b = p
  · subst e; rw [upd_same, upd_same]
  · rw [upd_ne e, upd_ne e, upd_ne e]
theorem upd_id {H : Hp} {p : Addr} {o : HO} (e : H p = some o) : upd H p o = H := by
  funext b
  by_cases h : b = p
  · subst h; rw [upd_same, e]
  · rw [upd_ne h]
theorem upd_none {H : Hp} {p q : Addr} {o : HO} (e : upd H p o q = none) : q ≠ p ∧ H q = none := by
  by_cases h : q = p
  · subst h; rw [upd_same] at e; cases e
  · rw [upd_ne h] at e; exact ⟨h, e⟩
theorem ne_of_free {H : Hp} {p q : Addr} {o : HO} (e : upd H p o q = none) : q ≠ p := (upd_none e).1

/-! ### integers -/
/-- whether x is an integer (a flag is none) -/
def IsI (K : PySem.W.Frag) (H : Hp) (x : V) (b : Bool) : Prop := ∃ (t : Value) (b1 b2 : Bool), TyX K H x t ∧ PySem.W.kitOne K t (.type "int") = some b1 ∧ PySem.W.kitOne K t (.type "bool") = some b2 ∧ b = (b1 && !b2)
theorem isI_int {K : PySem.W.Frag} {H : Hp} (i : Int) : IsI K H (.int i) true := ⟨.type "int", true, false, .base (.int i), kit_ty (by decide +kernel), kit_ty (by decide +kernel), rfl⟩
theorem isI_bl {K : PySem.W.Frag} {H : Hp} (i : Bool) : IsI K H (.bl i) false := ⟨.type "bool", true, true, .base (.bl i), kit_ty (by decide +kernel), kit_ty (by decide +kernel), rfl⟩
theorem isI_non {K : PySem.W.Frag} {H : Hp} : IsI K H .non false := ⟨.type "NoneType", false, false, .base .non, kit_ty (by decide +kernel), kit_ty (by decide +kernel), rfl⟩
theorem isI_str {K : PySem.W.Frag} {H : Hp} (z : Str) : IsI K H (.str z) false := ⟨.type "str", false, false, .base (.str z), kit_ty (by decide +kernel), kit_ty (by decide +kernel), rfl⟩
theorem isI_lst {K : PySem.W.Frag} {H : Hp} {a : Addr} {xs : List V} (e : H a = some (.lst xs)) : IsI K H (.ref a) false := ⟨.type "list", false, false, .base (.lst e), kit_ty (by decide +kernel), kit_ty (by decide +kernel), rfl⟩
theorem isI_tup {K : PySem.W.Frag} {H : Hp} {a : Addr} {xs : List V} (e : H a = some (.tup xs)) : IsI K H (.ref a) false := ⟨.type "tuple", false, false, .base (.tup e), kit_ty (by decide +kernel), kit_ty (by decide +kernel), rfl⟩
theorem isI_dK {K : PySem.W.Frag} {H : Hp} {a : Addr} {xs : List (Key × V)} (e : H a = some (.dK xs)) : IsI K H (.ref a) false := ⟨.type "dict", false, false, .base (.dK e), kit_ty (by decide +kernel), kit_ty (by decide +kernel), rfl⟩
def spIsInt (K : PySem.W.Frag) : Sp := fun vs H Q _ => ∃ (x : V) (b : Bool), vs = [x] ∧ IsI K H x b ∧ Q (.bl b) H
section
variable {P : Program} {w : World} {K : PySem.W.Frag} {mg : Str → Option Value} {base : Heap}
theorem ok_is_integer (T : Top K mg) : FnOk P w K mg base CX0 1 T.f_is_integer T.fd_is_integer ["thing"] (spIsInt K) := by
  refine T.F_is_integer.ok sc_is_integer (fun vs H Q E h => ?_) (fun cdv A outer s H vs Q E hr h => ?_)
  · obtain ⟨x, b, rfl, _⟩ := h; rfl
  · obtain ⟨x, b, rfl, ⟨t, b1, b2, ty, e1, e2, eb⟩, q⟩ := h
    refine ⟨_, (pss_one (ps_ret (pe_and (pe_callB call_isi (by rfl) T.n_isinstance (by decide +kernel) (pa_cons (pv 0) (pa_cons (pe_bltn (v := V.ty "int") (by rfl) T.n_int (by decide +kernel) rfl) pa_nil))) (pe_one (pe_not (pe_callB call_isi (by rfl) T.n_isinstance (by decide +kernel) (pa_cons (pv 0) (pa_cons (pe_bltn (v := V.ty "bool") (by rfl) T.n_bool (by decide +kernel) rfl) pa_nil)))))))), ?_⟩
    walk_at "rd"
    refine RD.d_isi (.ty _) ty e1 ?_
    walk_at "rd"
    cases b1 with
    | false =>
      walk_at "rd"
      rw [eb] at q; exact q
    | true =>
      walk_at "rd"
      refine RD.d_isi (.ty _) ty e2 ?_
      walk_at "rd"
      rw [eb] at q
      simpa using q
end

/-! ### errors with a value -/
def spWE (K : PySem.W.Frag) : Sp := fun vs H Q _ => ∃ (a C : Addr) (v : V), vs = [.ref a, v] ∧ OexC K C ∧ PySem.W.findIn K (.ref C) "value" = some none ∧ H a = some (exo a C none) ∧
  ∀ d, H d = none → d ≠ a → Q .non (upd (upd H d (exd d [("value", v)])) a (exo a C (some d)))
/-- an error's own dict, with its value -/
def ErrD (v : V) : HO := .xd [(("value" : Str), v)]
theorem errD_v (v : V) : List.lookup ("value" : Str) [(("value" : Str), v)] = some v := by simp [List.lookup]
section
variable {P : Program} {w : World} {K : PySem.W.Frag} {mg : Str → Option Value} {base : Heap}
theorem ok_WayError__init (T : Top K mg) : FnOk P w K mg base CX0 1 T.f_WayError__init T.fd_WayError__init ["self", "value"] (spWE K) := by
  refine T.F_WayError__init.ok sc_WayError__init (fun vs H Q E h => ?_) (fun cdv A outer s H vs Q E hr h => ?_)
  · obtain ⟨a, C, v, rfl, _⟩ := h; rfl
  · obtain ⟨a, C, v, rfl, oc, nv, ha, q⟩ := h
    refine ⟨_, (pss_one (ps_ost (pv 0) (pv 1))), ?_⟩
    exact ⟨_, rfl, _, rfl, a, C, rfl, oc, nv, .inl ⟨ha, fun d hd ne => q d hd ne⟩⟩
end
/-- what is asked where such an error is raised -/
theorem d_mkO {K : PySem.W.Frag} {H : Hp} {C : Addr} {v : V} {R : XK} (oc : OexC K C) (nv : PySem.W.findIn K (.ref C) "value" = some none) (k : ∀ d, H d = none → R (.ref C) (some d) (upd H d (ErrD v))) :
    [v].length ≤ 1000 ∧ ∀ a, H a = none → spWE K (.ref a :: ([v] ++ [])) (upd H a (exo a C none))
      (fun u H2 => u = .non ∧ ∃ (d : Addr) (fs : List (Str × V)), H2 a = some (exo a C (some d)) ∧ H2 d = some (exd d fs) ∧ H d = none ∧ R (.ref C) (some d) (upd (del H2 a) d (.xd fs))) (fun _ _ _ => False) := by
  refine ⟨by simp, fun a ha => ⟨a, C, v, rfl, oc, nv, upd_same, fun d hd ne => ⟨rfl, d, [(("value" : Str), v)], upd_same, ?_, ?_, ?_⟩⟩⟩
  · rw [upd_ne ne, upd_same]
  · rw [upd_ne ne] at hd; exact hd
  · have hd0 : H d = none := by rw [upd_ne ne] at hd; exact hd
    have e : upd (del (upd (upd (upd H a (exo a C none)) d (exd d [("value", v)])) a (exo a C (some d))) a) d (.xd [("value", v)]) = upd H d (ErrD v) := by
      funext b
      by_cases hb : b = d
      · subst hb; rw [upd_same, upd_same]; rfl
      · rw [upd_ne hb, upd_ne hb]
        by_cases hba : b = a
        · subst hba; rw [del_same, ha]
        · rw [del_ne hba, upd_ne hba, upd_ne hb, upd_ne hba]
    rw [e]; exact k d hd0
theorem d_raise {K : PySem.W.Frag} {σ : L2.St} {H : Hp} {C : Addr} {ta : TA} {R : XK} (h : ta σ H fun vs H1 => vs.length ≤ 1000 ∧ ∀ a, H1 a = none → spWE K (.ref a :: (vs ++ [])) (upd H1 a (exo a C none))
      (fun u H2 => u = .non ∧ ∃ (d : Addr) (fs : List (Str × V)), H2 a = some (exo a C (some d)) ∧ H2 d = some (exd d fs) ∧ H1 d = none ∧ R (.ref C) (some d) (upd (del H2 a) d (.xd fs))) (fun _ _ _ => False)) :
    tMkO C (spWE K) [] ta σ H R := h

/-! ### the class Ratio -/
def ratF (q : Rat) : List (Str × V) := [(("top" : Str), V.int q.num), (("bottom" : Str), V.int (q.den : Int))]
def RatAt (C : Addr) (H : Hp) (a : Addr) (q : Rat) : Prop := ∃ dx, H a = some (.ins C dx (ratF q))
def spRat (K : PySem.W.Frag) (C BN : Addr) : Sp := fun vs H Q E => ∃ (x dx : Addr) (t b : V), vs = [.ref x, t, b] ∧ H x = some (.ins C dx []) ∧
  ((IsI K H t false ∧ ∀ d, H d = none → E (.ref BN) (some d) (upd H d (ErrD t))) ∨
   (∃ i : Int, t = .int i ∧ (IsI K H b false ∨ b = .int 0) ∧ ∀ d, H d = none → E (.ref BN) (some d) (upd H d (ErrD b))) ∨
   ∃ i j : Int, t = .int i ∧ b = .int j ∧ j ≠ 0 ∧ j.natAbs.log2 < 9000 ∧ Q .non (upd H x (.ins C dx (ratF (Rat.divInt i j)))))
theorem ratF_put (u v : V) : putF "bottom" v (putF "top" u []) = [(("top" : Str), u), (("bottom" : Str), v)] := by
  show (if ("top" : Str) = "bottom" then [(("top" : Str), v)] else (("top" : Str), u) :: putF "bottom" v []) = _
  rw [if_neg (by decide +kernel)]; rfl
theorem ratF_top (q : Rat) : (ratF q).lookup ("top" : Str) = some (.int q.num) := by unfold ratF; simp [List.lookup]
theorem tb_ne : (("bottom" : Str) == ("top" : Str)) = false := by decide +kernel
theorem ratF_bottom (q : Rat) : (ratF q).lookup ("bottom" : Str) = some (.int (q.den : Int)) := by unfold ratF; simp [List.lookup, tb_ne]
theorem log2_mono {a b : Nat} (h : a ≤ b) : a.log2 ≤ b.log2 := by
  by_cases ha : a = 0
  · subst ha; simp
  · exact (Nat.le_log2 (by omega)).mpr (Nat.le_trans (Nat.log2_self_le ha) h)
section
variable {P : Program} {w : World} {K : PySem.W.Frag} {mg : Str → Option Value} {base : Heap}
theorem ok_Ratio__init (T : Top K mg) : FnOk P w K mg base (L2.CX P w) 3 T.f_Ratio__init T.fd_Ratio__init ["self", "top", "bottom"] (spRat K T.C_Ratio T.C_BN) := by
  refine T.F_Ratio__init.ok sc_Ratio__init (fun vs H Q E h => ?_) (fun cdv A outer s H vs Q E hr h => ?_)
  · obtain ⟨x, dx, t, b, rfl, _⟩ := h; rfl
  · obtain ⟨x, dx, t, b, rfl, hx, h⟩ := h
    refine ⟨_, (pss_cons (ps_if (pt_not (pt_val (pe_call (ok_is_integer T) (hr.mono (by decide)) (by rfl) T.g_is_integer T.F_is_integer.kp T.b_is_integer .nil pass0 (pa_cons (pv 1) pa_nil))))
 (pss_one (ps_raise rfl (takes_of rfl rfl rfl rfl) (pmk_oex T.oex_BadNumber T.i_BadNumber T.tI (ok_WayError__init T) (hr.mono (by decide)) T.b_WayError__init .nil pass0 (by rfl) T.g_BadNumber (pa_cons (pv 1) pa_nil))))
 pss_nil)
 (pss_cons (ps_if (PW.pt (pw_or (pt_not (pt_val (pe_call (ok_is_integer T) (hr.mono (by decide)) (by rfl) T.g_is_integer T.F_is_integer.kp T.b_is_integer .nil pass0 (pa_cons (pv 2) pa_nil)))) (pw_or1 (pt_cmpR op_eq (pv 2) pe_int (nomark _)))))
 (pss_one (ps_raise rfl (takes_of rfl rfl rfl rfl) (pmk_oex T.oex_BadNumber T.i_BadNumber T.tI (ok_WayError__init T) (hr.mono (by decide)) T.b_WayError__init .nil pass0 (by rfl) T.g_BadNumber (pa_cons (pv 2) pa_nil))))
 pss_nil)
 (pss_cons (ps_set (i := 3) sc_Ratio__init.nd rfl (Or.inl rfl) (pe_callBfun cr_gcd (by rfl) T.g_gcd (pa_cons (pv 1) (pa_cons (pv 2) pa_nil))))
 (C8.pss_cut (ps_if (pt_cmpR op_lt (pv 2) pe_int (nomark _))
 (pss_one (ps_set (i := 3) sc_Ratio__init.nd rfl (Or.inl rfl) (pe_un un_neg (pv 3))))
 pss_nil)
 (pss_cons (ps_fld (pv 0) (pe_op OQ.op_fdivX (pv 1) (pv 3)) rfl)
 (pss_one (ps_fld (pv 0) (pe_op OQ.op_fdivX (pv 2) (pv 3)) rfl))))))), ?_⟩
    walk_at "rd"
    rcases h with ⟨ni, k⟩ | ⟨i, rfl, nb, k⟩ | ⟨i, j, rfl, rfl, nz, hl, k⟩
    · refine ⟨t, false, rfl, ni, ?_⟩
      walk_at "rd"
      exact d_mkO T.oex_BadNumber T.v_BadNumber k
    · refine ⟨.int i, true, rfl, isI_int i, ?_⟩
      walk_at "rd"
      rcases nb with nb | rfl
      · refine ⟨b, false, rfl, nb, ?_⟩
        walk_at "rd"
        exact d_mkO T.oex_BadNumber T.v_BadNumber k
      · refine ⟨.int 0, true, rfl, isI_int 0, ?_⟩
        walk_at "rd"
        exact d_mkO T.oex_BadNumber T.v_BadNumber k
    · refine ⟨.int i, true, rfl, isI_int i, ?_⟩
      walk_at "rd"
      refine ⟨.int j, true, rfl, isI_int j, ?_⟩
      walk_at "rd"
      refine RD.d_iteDF nz ?_
      walk_at "rd"
      have hs := RM.shr_ne (i := i) nz
      have hb : (RM.shr i j).natAbs.log2 < 9000 := Nat.lt_of_le_of_lt (log2_mono (RM.shr_le nz)) hl
      refine RD.d_cut (fun σ' H' => σ' = [some (.ref x), some (.int i), some (.int j), some (.int (RM.shr i j))] ∧ H' = H) ?_ ?_
      · walk_at "rd"
        refine RD.iteD (fun c => ?_) (fun c => ?_)
        · walk_at "rd"
          exact ⟨by unfold RM.shr; rw [if_pos c]; rfl, rfl⟩
        · walk_at "rd"
          exact ⟨by unfold RM.shr; rw [if_neg c]; rfl, rfl⟩
      · rintro σ' H' ⟨rfl, rfl⟩
        walk_at "rd"
        refine ⟨x, T.C_Ratio, dx, [], rfl, hx, T.cl_Ratio, T.na_Ratio_top, by show 0 < 1000; decide, ?_⟩
        walk_at "rd"
        refine ⟨x, T.C_Ratio, dx, _, rfl, upd_same, T.cl_Ratio, T.na_Ratio_bottom, by show 1 < 1000; decide, ?_⟩
        rw [upd_upd, RM.num_eq nz, RM.den_eq nz, ratF_put]
        exact k
end

section
variable {P : Program} {w : World} {K : PySem.W.Frag} {mg : Str → Option Value} {base : Heap} {H : Hp} {R : V → Prop}
theorem ratTop (T : Top K mg) {a : Addr} {q : Rat} (h : RatAt T.C_Ratio H a q) (k : R (.int q.num)) : ∃ a' C dx fs v, V.ref a = .ref a' ∧ H a' = some (.ins C dx fs) ∧ Cls K C ∧ NoAttr K C "top" ∧ fs.lookup ("top" : Str) = some v ∧ R v := by
  obtain ⟨dx, e⟩ := h
  exact ⟨a, _, dx, _, _, rfl, e, T.cl_Ratio, T.na_Ratio_top, ratF_top q, k⟩
theorem ratBottom (T : Top K mg) {a : Addr} {q : Rat} (h : RatAt T.C_Ratio H a q) (k : R (.int (q.den : Int))) : ∃ a' C dx fs v, V.ref a = .ref a' ∧ H a' = some (.ins C dx fs) ∧ Cls K C ∧ NoAttr K C "bottom" ∧ fs.lookup ("bottom" : Str) = some v ∧ R v := by
  obtain ⟨dx, e⟩ := h
  exact ⟨a, _, dx, _, _, rfl, e, T.cl_Ratio, T.na_Ratio_bottom, ratF_bottom q, k⟩
theorem tyR (T : Top K mg) {a : Addr} {q : Rat} (h : RatAt T.C_Ratio H a q) : TyX K H (.ref a) (.ref T.C_Ratio) := by
  obtain ⟨dx, e⟩ := h
  exact .base (.ins e T.cl_Ratio T.haR T.hnO T.htO T.hmR)
theorem isI_rat (T : Top K mg) {a : Addr} {q : Rat} (h : RatAt T.C_Ratio H a q) : IsI K H (.ref a) false := ⟨_, false, false, tyR T h, T.kRi, T.kRb, rfl⟩
def spEq (K : PySem.W.Frag) (C : Addr) : Sp := fun vs H Q _ => ∃ (a : Addr) (p : Rat) (y : V), vs = [.ref a, y] ∧ RatAt C H a p ∧
  ((∃ b q, y = .ref b ∧ RatAt C H b q ∧ Q (.bl (decide (p = q))) H) ∨ (∃ i : Int, y = .int i ∧ Q (.bl (decide (p = (i : Rat)))) H) ∨
   (∃ t, TyX K H y t ∧ PySem.W.kitOne K t (.ref C) = some false ∧ IsI K H y false ∧ Q (.bl false) H))
theorem ok_Ratio__eq (T : Top K mg) : FnOk P w K mg base CX0 2 T.f_Ratio__eq T.fd_Ratio__eq ["self", "other"] (spEq K T.C_Ratio) := by
  refine T.F_Ratio__eq.ok sc_Ratio__eq (fun vs H Q E h => ?_) (fun cdv A outer s H vs Q E hr h => ?_)
  · obtain ⟨a, p, y, rfl, _⟩ := h; rfl
  · obtain ⟨a, p, y, rfl, ha, h⟩ := h
    refine ⟨_, (pss_cons (ps_if (pt_val (pe_callB call_isi (by rfl) T.n_isinstance (by decide +kernel) (pa_cons (pv 1) (pa_cons (pe_glob (v := V.ref T.C_Ratio) (by rfl) T.g_Ratio rfl) pa_nil))))
 (pss_one (ps_ret (pe_and (pe_cmpR op_eq (pe_fld (pv 0) rfl) (pe_fld (pv 1) rfl) (nomark _)) (pe_one (pe_cmpR op_eq (pe_fld (pv 0) rfl) (pe_fld (pv 1) rfl) (nomark _))))))
 pss_nil)
 (pss_one (ps_ret (pe_and (pe_call (ok_is_integer T) (hr.mono (by decide)) (by rfl) T.g_is_integer T.F_is_integer.kp T.b_is_integer .nil pass0 (pa_cons (pv 1) pa_nil)) (pe_and (pe_cmpR op_eq (pe_fld (pv 0) rfl) pe_int (nomark _)) (pe_one (pe_cmpR op_eq (pe_fld (pv 0) rfl) (pv 1) (nomark _)))))))), ?_⟩
    walk_at "rd"
    rcases h with ⟨b, q, rfl, hb, k⟩ | ⟨i, rfl, k⟩ | ⟨t, ty, kt, ni, k⟩
    · refine RD.d_isi (.own _) (tyR T hb) T.kRR ?_
      walk_at "rd"
      refine ratTop T ha ?_
      walk_at "rd"
      refine ratTop T hb ?_
      walk_at "rd"
      refine RD.iteD (fun c => ?_) (fun c => ?_)
      · walk_at "rd"
        refine ratBottom T ha ?_
        walk_at "rd"
        refine ratBottom T hb ?_
        walk_at "rd"
        have e : decide ((p.den : Int) = (q.den : Int)) = decide (p = q) := by
          rw [decide_eq_decide]
          exact ⟨fun z => Rat.ext c (by omega), fun z => by rw [z]⟩
        rw [e]; exact k
      · walk_at "rd"
        have e : false = decide (p = q) := by
          symm; exact decide_eq_false (fun z => c (by rw [z]))
        rw [e]; exact k
    · refine RD.d_isi (.own _) (.base (.int i)) (T.kT "int" (by simp)).1 ?_
      walk_at "rd"
      refine ⟨.int i, true, rfl, isI_int i, ?_⟩
      walk_at "rd"
      refine ratBottom T ha ?_
      walk_at "rd"
      refine RD.iteD (fun c => ?_) (fun c => ?_)
      · walk_at "rd"
        refine ratTop T ha ?_
        walk_at "rd"
        have e : decide (p.num = i) = decide (p = (i : Rat)) := by
          rw [decide_eq_decide]
          exact ⟨fun z => Rat.ext (by rw [Rat.num_intCast]; exact z) (by rw [Rat.den_intCast]; omega), fun z => by rw [z, Rat.num_intCast]⟩
        rw [e]; exact k
      · walk_at "rd"
        have e : false = decide (p = (i : Rat)) := by
          symm; exact decide_eq_false (fun z => c (by rw [z, Rat.den_intCast]; rfl))
        rw [e]; exact k
    · refine RD.d_isi (.own _) ty kt ?_
      walk_at "rd"
      refine ⟨y, false, rfl, ni, ?_⟩
      walk_at "rd"
      exact k
end

/-! ### what the law asks of a Ratio, and of refusals -/
theorem tyX_same {K : PySem.W.Frag} {H H' : Hp} {x : V} {t : Value} (h : TyX K H x t) (s : Same H H') : TyX K H' x t := by
  cases h with
  | base b =>
    refine .base ?_
    cases b with
    | non => exact .non
    | bl x => exact .bl x
    | int i => exact .int i
    | str x => exact .str x
    | flt x => exact .flt x
    | lst e => exact .lst (s _ _ e)
    | frz e => exact .frz (s _ _ e)
    | tup e => exact .tup (s _ _ e)
    | dK e => exact .dK (s _ _ e)
    | dT e => exact .dT (s _ _ e)
    | ins e cl a n k m => exact .ins (s _ _ e) cl a n k m
  | byt b => exact .byt b
  | set e => exact .set (s _ _ e)
  | kList e c => exact .kList e c
  | kTuple e c => exact .kTuple e c
  | kDict e c => exact .kDict e c
  | fTuple e => exact .fTuple (s _ _ e)
  | fDict e => exact .fDict (s _ _ e)
theorem IsI.same {K : PySem.W.Frag} {H H' : Hp} {x : V} {b : Bool} (h : IsI K H x b) (s : Same H H') : IsI K H' x b := by
  obtain ⟨t, b1, b2, ty, e1, e2, e⟩ := h
  exact ⟨t, b1, b2, tyX_same ty s, e1, e2, e⟩
theorem RatAt.same {C : Addr} {H H' : Hp} {a : Addr} {q : Rat} (h : RatAt C H a q) (s : Same H H') : RatAt C H' a q := by
  obtain ⟨dx, e⟩ := h
  exact ⟨dx, s _ _ e⟩
theorem HandAt.same {H H' : Hp} {h : Addr} (x : HandAt H h) (s : Same H H') : HandAt H' h := by
  obtain ⟨c, cs, p, q, m, n, e1, e2, ne, hp⟩ := x
  exact ⟨c, cs, p, q, m, n, s _ _ e1, s _ _ e2, ne, hp⟩
theorem same_upd {H : Hp} {p : Addr} {o : HO} (h : H p = none) : Same H (upd H p o) := fun b u e => by
  rw [upd_ne (ne_of_none e h)]; exact e
theorem same_made {H : Hp} {x dx C : Addr} (nx : H x = none) (ndx : H dx = none) (ne : dx ≠ x) : Same H (upd (upd H dx (.own x)) x (.ins C dx [])) := fun b u e => by
  rw [upd_ne (ne_of_none e nx), upd_ne (ne_of_none e ndx)]; exact e

section
variable {P : Program} {w : World} {K : PySem.W.Frag} {mg : Str → Option Value} {base : Heap}
theorem ok_law_draw (T : Top K mg) : FnOk P w K mg base CX0 1 T.f_law_draw T.fd_law_draw ["hand", "many"] spDraw := by
  refine T.F_law_draw.ok sc_law_draw (fun vs H Q E h => ?_) (fun cdv A outer s H vs Q E hr h => ?_)
  · obtain ⟨h, many, rfl, _⟩ := h; rfl
  · obtain ⟨h, many, rfl, ⟨c, cs, p, q, m, n, e1, e2, ne, hp⟩, m0, ml, k⟩ := h
    refine ⟨_, (C8.pss_cut (ps_if (PW.pt (pw_and (pt_cmpR op_eq (pe_ix ix_list (pv 0) pe_int (fun _ _ => rfl)) pe_int (nomark _)) (pw_and1 (pt_cmpR op_lt (pe_ix ix_list (pv 0) pe_int (fun _ _ => rfl)) (pe_callB RD.c_len (by rfl) T.n_len (by decide +kernel) (pa_cons (pe_ix ix_list (pv 0) pe_int (fun _ _ => rfl)) pa_nil)) (nomark _)))))
 (pss_cons (ps_set (i := 2) sc_law_draw.nd rfl (Or.inl rfl) (pe_ix ix_list (pe_ix ix_list (pv 0) pe_int (fun _ _ => rfl)) (pe_ix ix_list (pv 0) pe_int (fun _ _ => rfl)) (fun _ _ => rfl)))
 (pss_cons (ps_asg (pe_op op_add (pe_ix ix_list (pv 0) pe_int (fun _ _ => rfl)) pe_int) (pg_sub (pv 0) pe_int set_list))
 (pss_cons (ps_asg (pe_op op_mod (pe_callTy RD.c_int (by rfl) T.n_int (by decide +kernel) (pa_cons (pe_op op_add (pe_op op_add (pe_op op_mul (pe_ix ix_list (pv 0) pe_int (fun _ _ => rfl)) pe_int) (pv 2)) pe_int) pa_nil)) pe_int) (pg_sub (pv 0) pe_int set_list))
 (pss_one (ps_if (pt_cmpR op_ge (pv 2) (pe_op op_pow pe_int pe_int) (nomark _))
 (pss_one (ps_asg (pv 2) (pg_sub (pv 0) pe_int set_list)))
 pss_nil)))))
 pss_nil)
 (pss_cons (ps_if (pt_cmpR op_gt (pe_ix ix_list (pv 0) pe_int (fun _ _ => rfl)) pe_int (nomark _))
 (pss_cons (ps_set (i := 3) sc_law_draw.nd rfl (Or.inl rfl) (pe_op op_mod (pe_callTy RD.c_int (by rfl) T.n_int (by decide +kernel) (pa_cons (pe_ix ix_list (pv 0) pe_int (fun _ _ => rfl)) pa_nil)) (pv 1)))
 (pss_cons (ps_asg (pe_op op_fdivW (pe_ix ix_list (pv 0) pe_int (fun _ _ => rfl)) (pv 1)) (pg_sub (pv 0) pe_int set_list))
 (pss_one (ps_ret (pv 3)))))
 pss_nil)
 (pss_cons (ps_asg (pe_op op_add (pe_ix ix_list (pv 0) pe_int (fun _ _ => rfl)) pe_int) (pg_sub (pv 0) pe_int set_list))
 (pss_cons (ps_set (i := 4) sc_law_draw.nd rfl (Or.inl rfl) (pe_op op_mod (pe_callTy RD.c_int (by rfl) T.n_int (by decide +kernel) (pa_cons (pe_op op_mul (pe_callTy RD.c_int (by rfl) T.n_int (by decide +kernel) (pa_cons (pe_op op_add (pe_ix ix_list (pv 0) pe_int (fun _ _ => rfl)) (pe_op op_mul pe_int (pe_ix ix_list (pv 0) pe_int (fun _ _ => rfl)))) pa_nil)) pe_int) pa_nil)) pe_int))
 (pss_cons (ps_set (i := 4) sc_law_draw.nd rfl (Or.inl rfl) (pe_op op_mod (pe_callTy RD.c_int (by rfl) T.n_int (by decide +kernel) (pa_cons (pe_op op_mul (pv 4) (pe_op op_add (pe_op op_fdivW (pv 4) pe_int) pe_int)) pa_nil)) pe_int))
 (pss_cons (ps_set (i := 4) sc_law_draw.nd rfl (Or.inl rfl) (pe_op op_mod (pe_callTy RD.c_int (by rfl) T.n_int (by decide +kernel) (pa_cons (pe_op op_mul (pv 4) (pe_op op_add (pe_op op_fdivW (pv 4) pe_int) pe_int)) pa_nil)) pe_int))
 (pss_one (ps_ret (pe_op op_mod (pe_callTy RD.c_int (by rfl) T.n_int (by decide +kernel) (pa_cons (pe_op op_fdivW (pv 4) pe_int) pa_nil)) (pv 1)))))))))), ?_⟩
    unfold handV at e1
    refine RD.d_cut (fun σ' H' => ∃ x p' q' m', σ' = [some (.ref h), some (.int many), x, none, none] ∧ H' = upd H h (.lst [.ref c, .int p', .int q', .int m', .int n]) ∧ 0 ≤ p') ?_ ?_
    · walk_at "rd"
      refine RD.iteD (fun c1 => ?_) (fun c1 => ?_)
      · walk_at "rd"
        refine RD.iteD (fun c2 => ?_) (fun c2 => ?_)
        · have hl : p.toNat < cs.length := by rw [List.length_map] at c2; omega
          have hg : (cs.map V.int)[p.toNat]? = some (V.int cs[p.toNat]) := by simp [hl]
          have ha : atI (cs.map V.int) p = some (V.int cs[p.toNat]) := by
            have z := atI_nat hg
            rwa [Int.toNat_of_nonneg hp] at z
          walk_at "rd"
          refine RD.d_ixL (SqL.of e2) ha ?_
          walk_at "rd"
          refine RD.iteD (fun c3 => ?_) (fun c3 => ?_)
          · walk_at "rd"
            exact ⟨_, p + 1, cs[p.toNat], (m * 69621 + cs[p.toNat] + 11) % 2147483629, rfl, (by rw [upd_upd, upd_upd]; rfl), by omega⟩
          · walk_at "rd"
            exact ⟨_, p + 1, q, (m * 69621 + cs[p.toNat] + 11) % 2147483629, rfl, (by rw [upd_upd]; rfl), by omega⟩
        · walk_at "rd"
          exact ⟨none, p, q, m, rfl, (upd_id e1).symm, hp⟩
      · walk_at "rd"
        exact ⟨none, p, q, m, rfl, (upd_id e1).symm, hp⟩
    · rintro σ' H' ⟨x, p', q', m', rfl, rfl, hp'⟩
      have fin : ∀ q2 n2 : Int, HandAt (upd H h (.lst [.ref c, .int p', .int q2, .int m', .int n2])) h ∧ But h H (upd H h (.lst [.ref c, .int p', .int q2, .int m', .int n2])) := fun q2 n2 =>
        ⟨⟨c, cs, p', q2, m', n2, upd_same, (by rw [upd_ne ne]; exact e2), ne, hp'⟩, fun b hb => upd_ne hb⟩
      walk_at "rd"
      refine RD.iteD (fun c1 => ?_) (fun c1 => ?_)
      · walk_at "rd"
        rw [upd_upd]
        exact k _ _ (Int.emod_nonneg _ (by omega)) (Int.emod_lt_of_pos _ m0) (fin _ _).1 (fin _ _).2
      · walk_at "rd"
        rw [upd_upd]
        exact k _ _ (Int.emod_nonneg _ (by omega)) (Int.emod_lt_of_pos _ m0) (fin _ _).1 (fin _ _).2
end
section
variable {P : Program} {w : World} {K : PySem.W.Frag} {mg : Str → Option Value} {base : Heap}
theorem ok_law_hand (T : Top K mg) : FnOk P w K mg base CX0 1 T.f_law_hand T.fd_law_hand ["script"] (spHand K) := by
  refine T.F_law_hand.ok sc_law_hand (fun vs H Q E h => ?_) (fun cdv A outer s H vs Q E hr h => ?_)
  · obtain ⟨a, ns, rfl, _⟩ := h; rfl
  · obtain ⟨a, ns, rfl, hS, hl, k⟩ := h
    refine ⟨_, (pss_cons (ps_setLc (i := 1) (own := [("cell", 2)]) (g := gName 2) (tt := tYes) rfl sc_law_hand.nd rfl rfl (sw_true rfl rfl rfl (by decide +kernel)) (pi_list (pe_slice sl_list (pv 0) po_none (po_some pe_int))) (blkOk_by (own := [("cell", 2)]) (N := ["script", "cells", "cell"]) (sc := defScope s_law_hand) (by decide +kernel)) (fun _ _ _ _ _ => (pg_name (i := 2) sc_law_hand.nd rfl (Or.inl rfl))) (fun _ _ _ _ _ => pts_nil) (fun _ _ _ _ _ => (pe_callB RD.c_abs (by rfl) T.n_abs (by decide +kernel) (pa_cons (pe_callTy RD.c_int (by rfl) T.n_int (by decide +kernel) (pa_cons (pv 2) pa_nil)) pa_nil))))
 (pss_one (ps_ret (pe_lst (pa_cons (pv 1) (pa_cons pe_int (pa_cons pe_int (pa_cons (pe_op op_add pe_int (pe_callB RD.c_len (by rfl) T.n_len (by decide +kernel) (pa_cons (pv 1) pa_nil))) (pa_cons pe_int pa_nil))))))))), ?_⟩
    walk_at "rd"
    refine ⟨a, ns.map V.int, rfl, hS, fun p hp => ?_⟩
    walk_at "rd"
    intro D hD
    have nD : D ≠ p := ne_of_free hD
    have hz : ∀ v ∈ cutV (ns.map V.int) none (some 63), ∃ z : Int, v = V.int z := fun v hv => by
      have q := List.mem_of_mem_take hv
      have q2 := List.mem_of_mem_drop q
      obtain ⟨z, _, rfl⟩ := List.mem_map.mp q2
      exact ⟨z, rfl⟩
    have hlen : (cutV (ns.map V.int) none (some 63)).length ≤ 63 := Nat.le_trans (cutV_length _ _ _) (by rw [List.length_map]; exact hl)
    refine lc_list (K := K) (a := p) (xs := cutV (ns.map V.int) none (some 63)) (fun i H' => Same H H' ∧ H D = none ∧ H' p = some (.lst (cutV (ns.map V.int) none (some 63))) ∧ ∃ cs : List Int, H' D = some (.lst (cs.map V.int)) ∧ cs.length ≤ i) ?_ ?_ ?_ ?_
    · refine ⟨fun b o e => ?_, (upd_none hD).2, by rw [upd_ne nD.symm, upd_same], [], upd_same, Nat.le_refl _⟩
      rw [upd_ne (ne_of_none e (upd_none hD).2), upd_ne (ne_of_none e hp)]; exact e
    · exact fun i H' _ q => SqL.of q.2.2.1
    · rintro i x H' hi ⟨s0, d0, hp', cs, hc, hcl⟩
      obtain ⟨z, rfl⟩ := hz x (List.mem_of_getElem? hi)
      have hi' : i < 63 := Nat.lt_of_lt_of_le (List.getElem?_eq_some_iff.mp hi).1 hlen
      walk_at "rd"
      refine ⟨_, hc, Nat.lt_of_le_of_lt (by rw [List.length_map]; exact hcl) (Nat.lt_of_lt_of_le hi' (by decide)), fun b o e => ?_, d0, by rw [upd_ne nD.symm]; exact hp', cs ++ [_], by rw [upd_same, List.map_append]; rfl, by simp; omega⟩
      rw [upd_ne (ne_of_none e d0)]; exact s0 b o e
    · rintro H' ⟨s0, d0, hp', cs, hc, hcl⟩
      walk_at "rd"
      refine ⟨by show 5 ≤ sizeLine; decide, fun h hh => ?_⟩
      refine k h _ ⟨D, cs, 0, 0, _, 0, upd_same, by rw [upd_ne (ne_of_none hc hh)]; exact hc, ne_of_none hc hh, Int.le_refl _⟩ (fun b o e => ?_) (s0.free hh)
      rw [upd_ne (ne_of_none (s0 b o e) hh)]; exact s0 b o e
end

def Kp (h : Addr) (H H' : Hp) : Prop := ∀ b o, b ≠ h → H b = some o → H' b = some o
theorem Kp.rfl' {h : Addr} {H : Hp} : Kp h H H := fun _ _ _ e => e
theorem Kp.trans {h : Addr} {H H1 H2 : Hp} (a : Kp h H H1) (b : Kp h H1 H2) : Kp h H H2 := fun c o n e => b c o n (a c o n e)
theorem But.kp {h : Addr} {H H' : Hp} (b : But h H H') : Kp h H H' := fun c o n e => by rw [b c n]; exact e
theorem But.trans {h : Addr} {H H1 H2 : Hp} (a : But h H H1) (b : But h H1 H2) : But h H H2 := fun c n => (b c n).trans (a c n)
theorem But.rfl' {h : Addr} {H : Hp} : But h H H := fun _ _ => rfl
/-- a drawn number -/
def Small (i : Int) : Prop := i.natAbs < 2 ^ 210
def spNum : Sp := fun vs H Q _ => ∃ (h : Addr), vs = [.ref h] ∧ HandAt H h ∧ ∀ (r : Int) (H' : Hp), Small r → HandAt H' h → But h H H' → Q (.int r) H'
section
variable {P : Program} {w : World} {K : PySem.W.Frag} {mg : Str → Option Value} {base : Heap}
theorem ok_law_number (T : Top K mg) : FnOk P w K mg base CX0 2 T.f_law_number T.fd_law_number ["hand"] spNum := by
  refine T.F_law_number.ok sc_law_number (fun vs H Q E h => ?_) (fun cdv A outer s H vs Q E hr h => ?_)
  · obtain ⟨h, rfl, _⟩ := h; rfl
  · obtain ⟨h, rfl, hd, k⟩ := h
    have e6 : (10 : Int) ^ Int.toNat 6 = 1000000 := by decide
    have e9 : (10 : Int) ^ Int.toNat 9 = 1000000000 := by decide
    refine ⟨_, (pss_cons (ps_set (i := 1) sc_law_number.nd rfl (Or.inl rfl) (pe_call (ok_law_draw T) (hr.mono (by decide)) (by rfl) T.g_law_draw T.F_law_draw.kp T.b_law_draw .nil pass0 (pa_cons (pv 0) (pa_cons pe_int pa_nil))))
 (pss_cons (ps_set (i := 2) sc_law_number.nd rfl (Or.inl rfl) (pe_call (ok_law_draw T) (hr.mono (by decide)) (by rfl) T.g_law_draw T.F_law_draw.kp T.b_law_draw .nil pass0 (pa_cons (pv 0) (pa_cons pe_int pa_nil))))
 (C8.pss_cut (ps_if (pt_cmpR op_gt (pv 1) pe_int (nomark _))
 (pss_one (ps_set (i := 2) sc_law_number.nd rfl (Or.inl rfl) (pe_call (ok_law_draw T) (hr.mono (by decide)) (by rfl) T.g_law_draw T.F_law_draw.kp T.b_law_draw .nil pass0 (pa_cons (pv 0) (pa_cons (pe_op op_pow pe_int pe_int) pa_nil)))))
 pss_nil)
 (C8.pss_cut (ps_if (pt_cmpR op_eq (pv 1) pe_int (nomark _))
 (pss_one (ps_set (i := 2) sc_law_number.nd rfl (Or.inl rfl) (pe_op op_add (pe_op op_mul (pv 2) (pe_op op_pow pe_int pe_int)) (pe_call (ok_law_draw T) (hr.mono (by decide)) (by rfl) T.g_law_draw T.F_law_draw.kp T.b_law_draw .nil pass0 (pa_cons (pv 0) (pa_cons (pe_op op_pow pe_int pe_int) pa_nil))))))
 pss_nil)
 (pss_cons (ps_if (pt_cmpR op_eq (pe_call (ok_law_draw T) (hr.mono (by decide)) (by rfl) T.g_law_draw T.F_law_draw.kp T.b_law_draw .nil pass0 (pa_cons (pv 0) (pa_cons pe_int pa_nil))) pe_int (nomark _))
 (pss_one (ps_ret (pe_op op_sub pe_int (pv 2))))
 pss_nil)
 (pss_one (ps_ret (pv 2)))))))), ?_⟩
    walk_at "rd"
    refine ⟨h, 5, rfl, hd, by decide, by decide +kernel, fun kind H1 k0 k1 hd1 b1 => ?_⟩
    walk_at "rd"
    refine ⟨h, 10, rfl, hd1, by decide, by decide +kernel, fun n1 H2 n0 n1' hd2 b2 => ?_⟩
    walk_at "rd"
    refine RD.d_cut (fun σ' H' => ∃ n : Int, σ' = [some (.ref h), some (.int kind), some (.int n)] ∧ 0 ≤ n ∧ n < 1000000 ∧ HandAt H' h ∧ But h H H') ?_ ?_
    · walk_at "rd"
      refine RD.iteD (fun c => ?_) (fun c => ?_)
      · walk_at "rd"
        refine ⟨h, _, rfl, hd2, by decide, by decide +kernel, fun n H3 m0 m1 hd3 b3 => ?_⟩
        walk_at "rd"
        rw [e6] at m1
        exact ⟨n, rfl, m0, m1, hd3, (b1.trans b2).trans b3⟩
      · walk_at "rd"
        exact ⟨n1, rfl, n0, by omega, hd2, b1.trans b2⟩
    · rintro σ' H3 ⟨n, rfl, m0, m1, hd3, b3⟩
      refine RD.d_cut (fun σ' H' => ∃ n : Int, σ' = [some (.ref h), some (.int kind), some (.int n)] ∧ Small n ∧ Small (0 - n) ∧ HandAt H' h ∧ But h H H') ?_ ?_
      · walk_at "rd"
        refine RD.iteD (fun c => ?_) (fun c => ?_)
        · walk_at "rd"
          refine ⟨h, _, rfl, hd3, by decide, by decide +kernel, fun u H4 u0 u1 hd4 b4 => ?_⟩
          walk_at "rd"
          rw [e9] at u1
          have e54 : (10 : Int) ^ Int.toNat 54 = 1000000000000000000000000000000000000000000000000000000 := by decide
          refine ⟨_, rfl, ?_, ?_, hd4, b3.trans b4⟩
          · unfold Small; rw [e54]; omega
          · unfold Small; rw [e54]; omega
        · walk_at "rd"
          exact ⟨n, rfl, by unfold Small; omega, by unfold Small; omega, hd3, b3⟩
      · rintro σ' H4 ⟨n, rfl, sm, sn, hd4, b4⟩
        walk_at "rd"
        refine ⟨h, 2, rfl, hd4, by decide, by decide +kernel, fun u H5 u0 u1 hd5 b5 => ?_⟩
        walk_at "rd"
        refine RD.iteD (fun c => ?_) (fun c => ?_)
        · walk_at "rd"
          exact k _ _ sn hd5 (b4.trans b5)
        · walk_at "rd"
          exact k _ _ sm hd5 (b4.trans b5)
end

/-! ### the greatest common divisor by the law's own turns -/
namespace EU
/-- behind k turns -/
def Inv (g k a b : Nat) : Prop := Nat.gcd a b = g ∧ ((k = 0 ∧ a < 2 ^ 480 ∧ b < 2 ^ 480) ∨ (b ≤ a ∧ a * b * 2 ^ k < 2 ^ 970))
theorem step {g k a b : Nat} (h : Inv g k a b) (hb : b ≠ 0) : Inv g (k + 1) b (a % b) := by
  obtain ⟨e, h⟩ := h
  have hlt := Nat.mod_lt a (Nat.pos_of_ne_zero hb)
  refine ⟨by rw [Nat.gcd_comm, ← Nat.gcd_rec, Nat.gcd_comm]; exact e, .inr ⟨Nat.le_of_lt hlt, ?_⟩⟩
  rcases h with ⟨rfl, ha, hb'⟩ | ⟨hle, h⟩
  · have h1 : b * (a % b) ≤ 2 ^ 480 * 2 ^ 480 := Nat.mul_le_mul (Nat.le_of_lt hb') (Nat.le_of_lt (Nat.lt_trans hlt hb'))
    omega
  · have h2 : a % b * 2 ≤ a := by
      have d := Nat.div_add_mod a b
      have q : 1 ≤ a / b := (Nat.one_le_div_iff (Nat.pos_of_ne_zero hb)).mpr hle
      have z : b * 1 ≤ b * (a / b) := Nat.mul_le_mul_left b q
      omega
    have h3 : b * (a % b) * 2 ^ (k + 1) ≤ a * b * 2 ^ k := by
      have e1 : b * (a % b) * 2 ^ (k + 1) = b * (a % b * 2) * 2 ^ k := by rw [Nat.pow_succ]; ac_rfl
      rw [e1, Nat.mul_comm a b]
      exact Nat.mul_le_mul_right _ (Nat.mul_le_mul_left _ h2)
    omega
theorem zero {g k a : Nat} (h : Inv g k a 0) : g = a := by rw [← h.1, Nat.gcd_zero_right]
theorem done {g a b : Nat} (h : Inv g 1000 a b) : g = a := by
  obtain ⟨e, ⟨k0, _⟩ | ⟨hle, h⟩⟩ := h
  · cases k0
  · have hb : b = 0 := by
      rcases Nat.eq_zero_or_pos b with z | z
      · exact z
      · exfalso
        have : 1 * 1 ≤ a * b := Nat.mul_le_mul (by omega) z
        have h2 : 1 * 2 ^ 1000 ≤ a * b * 2 ^ 1000 := Nat.mul_le_mul_right _ (by omega)
        omega
    subst hb; rw [← e, Nat.gcd_zero_right]
end EU
def spCommon : Sp := fun vs H Q _ => ∃ i j : Int, vs = [.int i, .int j] ∧ i.natAbs < 2 ^ 480 ∧ j.natAbs < 2 ^ 480 ∧ Q (.int ((Nat.gcd i.natAbs j.natAbs : Nat) : Int)) H
theorem abs_nat (i : Int) : (if i < 0 then -i else i) = ((i.natAbs : Nat) : Int) := by split <;> omega
section
variable {P : Program} {w : World} {K : PySem.W.Frag} {mg : Str → Option Value} {base : Heap}
theorem ok_law_common (T : Top K mg) : FnOk P w K mg base CX0 1 T.f_law_common T.fd_law_common ["one", "other"] spCommon := by
  refine T.F_law_common.ok sc_law_common (fun vs H Q E h => ?_) (fun cdv A outer s H vs Q E hr h => ?_)
  · obtain ⟨i, j, rfl, _⟩ := h; rfl
  · obtain ⟨i, j, rfl, hi, hj, k⟩ := h
    refine ⟨_, (pss_cons (ps_set (i := 0) sc_law_common.nd rfl (Or.inl rfl) (pe_callB RD.c_abs (by rfl) T.n_abs (by decide +kernel) (pa_cons (pv 0) pa_nil)))
 (pss_cons (ps_set (i := 1) sc_law_common.nd rfl (Or.inl rfl) (pe_callB RD.c_abs (by rfl) T.n_abs (by decide +kernel) (pa_cons (pv 1) pa_nil)))
 (pss_cons (ps_for PassesOwn.never rfl (pi_range1 (by rfl) T.n_range (pa_cons pe_int pa_nil)) (pg_name (i := 2) sc_law_common.nd rfl (Or.inl rfl))
 (pss_cons (ps_if (pt_cmpR op_eq (pv 1) pe_int (nomark _))
 (pss_one (ps_ret (pv 0)))
 pss_nil)
 (pss_one (ps_par (i := 0) (j := 1) (by rfl) sc_law_common.nd rfl rfl (by decide) rfl rfl (pa_cons (pv 1) (pa_cons (pe_op op_mod (pe_callTy RD.c_int (by rfl) T.n_int (by decide +kernel) (pa_cons (pv 0) pa_nil)) (pv 1)) pa_nil)) (by rfl)))))
 (pss_one (ps_ret (pv 0)))))), ?_⟩
    walk_at "rd"
    rw [abs_nat, abs_nat]
    refine ⟨1000, rfl, by decide, by decide, ?_⟩
    refine RD.f_range (lo := 0) (n := 1000) (fun t σ' H' => ∃ (a b : Nat) (v : Option V), σ' = [some (.int a), some (.int b), v] ∧ H' = H ∧ EU.Inv (Nat.gcd i.natAbs j.natAbs) t a b)
      ⟨_, _, none, rfl, rfl, rfl, .inl ⟨rfl, hi, hj⟩⟩ ?_ ?_
    · rintro t σ' H' ht ⟨a, b, v, rfl, rfl, inv⟩
      walk_at "rd"
      refine RD.iteD (fun c => ?_) (fun c => ?_)
      · have hb : b = 0 := by omega
        subst hb
        walk_at "rd"
        have e := EU.zero inv
        rw [e] at k; exact k
      · walk_at "rd"
        exact ⟨_, _, rfl, b, a % b, _, rfl, rfl, EU.step inv (by omega)⟩
    · rintro σ' H' ⟨a, b, v, rfl, rfl, inv⟩
      walk_at "rd"
      have e := EU.done inv
      rw [e] at k; exact k
end

theorem small_log {i : Int} (h : Small i) : i.natAbs.log2 < 9000 := Nat.lt_of_le_of_lt (log2_mono (Nat.le_of_lt h)) (by decide +kernel)
theorem rat_one (i : Int) : Rat.divInt i 1 = (i : Rat) := by
  have := Rat.num_divInt_den (i : Rat)
  rw [Rat.num_intCast, Rat.den_intCast] at this
  exact this

/-! ### the operators of Ratios -/
/-- a Ratio, or an integer -/
def Num (C : Addr) (H : Hp) (v : V) (q : Rat) : Prop := (∃ a, v = .ref a ∧ RatAt C H a q) ∨ ∃ i : Int, v = .int i ∧ q = (i : Rat)
theorem Num.same {C : Addr} {H H' : Hp} {v : V} {q : Rat} (n : Num C H v q) (s : Same H H') : Num C H' v q := n.imp (fun ⟨a, e, h⟩ => ⟨a, e, h.same s⟩) id
/-- both parts below 2 ^ n -/
def Bd (n : Nat) (q : Rat) : Prop := q.num.natAbs < 2 ^ n ∧ q.den < 2 ^ n
theorem Bd.mono {m n : Nat} {q : Rat} (b : Bd m q) (h : m ≤ n) : Bd n q := ⟨Nat.lt_of_lt_of_le b.1 (Nat.pow_le_pow_right (by decide) h), Nat.lt_of_lt_of_le b.2 (Nat.pow_le_pow_right (by decide) h)⟩
theorem den_pos (q : Rat) : (0 : Int) < (q.den : Int) := by have := q.den_nz; omega
theorem log_of {j : Int} {n : Nat} (h : j.natAbs < 2 ^ n) (hn : n ≤ 8000) : j.natAbs.log2 < 9000 := by
  by_cases z : j.natAbs = 0
  · rw [z]; decide +kernel
  · exact Nat.lt_of_lt_of_le ((Nat.log2_lt z).mpr (Nat.lt_of_lt_of_le h (Nat.pow_le_pow_right (by decide) (by omega : n ≤ 9000)))) (Nat.le_refl _)
theorem den_bd {q : Rat} {n : Nat} (b : Bd n q) : ((q.den : Int)).natAbs < 2 ^ n := by rw [Int.natAbs_natCast]; exact b.2
theorem rat_add (p q : Rat) : Rat.divInt (p.num * q.den + q.num * p.den) (p.den * q.den) = p + q := by
  conv => rhs; rw [← Rat.num_divInt_den p, ← Rat.num_divInt_den q]
  rw [Rat.divInt_add_divInt _ _ (by have := p.den_nz; omega) (by have := q.den_nz; omega)]
theorem rat_mul (p q : Rat) : Rat.divInt (p.num * q.num) (p.den * q.den) = p * q := by
  conv => rhs; rw [← Rat.num_divInt_den p, ← Rat.num_divInt_den q]
  rw [Rat.divInt_mul_divInt]
theorem rat_neg (p : Rat) : Rat.divInt (-p.num) p.den = -p := by
  conv => rhs; rw [← Rat.num_divInt_den p]
  rw [Rat.neg_divInt]
theorem spare {p q : Rat} : (p.den : Int) * (q.den : Int) ≠ 0 := by
  have h1 := den_pos p
  have h2 := den_pos q
  exact Int.mul_ne_zero (by omega) (by omega)
def spNum1 (C : Addr) : Sp := fun vs H Q _ => ∃ (v : V) (q : Rat), vs = [v] ∧ Num C H v q ∧ Q (.bl true) H
/-- what is no number -/
def NoNum (K : PySem.W.Frag) (C : Addr) (H : Hp) (y : V) : Prop := ∃ t, TyX K H y t ∧ PySem.W.kitOne K t (.ref C) = some false ∧ IsI K H y false
theorem NoNum.same {K : PySem.W.Frag} {C : Addr} {H H' : Hp} {y : V} (n : NoNum K C H y) (s : Same H H') : NoNum K C H' y := by
  obtain ⟨t, ty, e, i⟩ := n
  exact ⟨t, tyX_same ty s, e, i.same s⟩
def spAs (K : PySem.W.Frag) (C BN : Addr) : Sp := fun vs H Q E => ∃ v : V, vs = [v] ∧
  ((∃ q, Num C H v q ∧ ∀ a H', Same H H' → RatAt C H' a q → Q (.ref a) H') ∨ (NoNum K C H v ∧ ∀ d H', Same H H' → H d = none → H' d = some (ErrD v) → E (.ref BN) (some d) H'))
def spTwo (C : Addr) (g : Rat → Rat → Rat) : Sp := fun vs H Q _ => ∃ (a b : Addr) (p q : Rat), vs = [.ref a, .ref b] ∧ RatAt C H a p ∧ RatAt C H b q ∧ Bd 2000 p ∧ Bd 2000 q ∧ ∀ c H', Same H H' → RatAt C H' c (g p q) → Q (.ref c) H'
def spNeg (C : Addr) : Sp := fun vs H Q _ => ∃ (a : Addr) (p : Rat), vs = [.ref a] ∧ RatAt C H a p ∧ Bd 8000 p ∧ ∀ c H', Same H H' → RatAt C H' c (-p) → Q (.ref c) H'
def spOp (C : Addr) (g : Rat → Rat → Rat) : Sp := fun vs H Q _ => ∃ (a : Addr) (y : V) (p q : Rat), vs = [.ref a, y] ∧ RatAt C H a p ∧ Num C H y q ∧ Bd 2000 p ∧ Bd 2000 q ∧ ∀ c H', Same H H' → RatAt C H' c (g p q) → Q (.ref c) H'
section
variable {P : Program} {w : World} {K : PySem.W.Frag} {mg : Str → Option Value} {base : Heap} {H : Hp} {Q : VK} {E : XK}
theorem mk_rat (T : Top K mg) {i j : Int} {R : Addr → Hp → Prop} (nz : j ≠ 0) (hl : j.natAbs.log2 < 9000) (k : ∀ x H', Same H H' → H x = none → RatAt T.C_Ratio H' x (Rat.divInt i j) → R x H') :
    ∀ x dx, H x = none → H dx = none → dx ≠ x → spRat K T.C_Ratio T.C_BN (.ref x :: ([V.int i, V.int j] ++ [])) (upd (upd H dx (.own x)) x (.ins T.C_Ratio dx [])) (fun v H2 => v = .non ∧ R x H2) E := by
  intro x dx nx ndx ne
  refine ⟨x, dx, .int i, .int j, rfl, upd_same, .inr (.inr ⟨i, j, rfl, rfl, nz, hl, rfl, ?_⟩)⟩
  refine k x _ (fun b o e => ?_) nx ⟨dx, upd_same⟩
  rw [upd_ne (ne_of_none e nx), upd_ne (ne_of_none e nx), upd_ne (ne_of_none e ndx)]; exact e
theorem num_of (T : Top K mg) {v : V} {q : Rat} (n : Num T.C_Ratio H v q) : ∃ t b, TyX K H v t ∧ PySem.W.kitOne K t (.ref T.C_Ratio) = some b ∧ (b = false → ∃ i : Int, v = .int i ∧ q = (i : Rat)) ∧ (b = true → ∃ a, v = .ref a ∧ RatAt T.C_Ratio H a q) := by
  rcases n with ⟨a, rfl, h⟩ | ⟨i, rfl, e⟩
  · exact ⟨_, true, tyR T h, T.kRR, (fun z => Bool.noConfusion z), fun _ => ⟨a, rfl, h⟩⟩
  · exact ⟨_, false, .base (.int i), (T.kT "int" (by simp)).1, (fun _ => ⟨i, rfl, e⟩), fun z => Bool.noConfusion z⟩
theorem ok_is_number (T : Top K mg) : FnOk P w K mg base CX0 2 T.f_is_number T.fd_is_number ["thing"] (spNum1 T.C_Ratio) := by
  refine T.F_is_number.ok sc_is_number (fun vs H Q E h => ?_) (fun cdv A outer s H vs Q E hr h => ?_)
  · obtain ⟨v, q, rfl, _⟩ := h; rfl
  · obtain ⟨v, q, rfl, n, k⟩ := h
    obtain ⟨t, b, ty, e, hi, _⟩ := num_of T n
    refine ⟨_, (pss_one (ps_ret (pe_or (pe_callB call_isi (by rfl) T.n_isinstance (by decide +kernel) (pa_cons (pv 0) (pa_cons (pe_glob (v := V.ref T.C_Ratio) (by rfl) T.g_Ratio rfl) pa_nil))) (pe_one (pe_call (ok_is_integer T) (hr.mono (by decide)) (by rfl) T.g_is_integer T.F_is_integer.kp T.b_is_integer .nil pass0 (pa_cons (pv 0) pa_nil)))))), ?_⟩
    walk_at "rd"
    refine RD.d_isi (.own _) ty e ?_
    walk_at "rd"
    cases b with
    | true => walk_at "rd"; exact k
    | false =>
      obtain ⟨i, rfl, _⟩ := hi rfl
      walk_at "rd"
      exact ⟨.int i, true, rfl, isI_int i, k⟩
theorem ok_as_ratio (T : Top K mg) : FnOk P w K mg base (L2.CX P w) 5 T.f_as_ratio T.fd_as_ratio ["thing"] (spAs K T.C_Ratio T.C_BN) := by
  refine T.F_as_ratio.okX sc_as_ratio (fun vs H Q E h => ?_) (fun cdv A outer s H vs Q E hr h => ?_)
  · obtain ⟨v, rfl, _⟩ := h; rfl
  · obtain ⟨v, rfl, h⟩ := h
    obtain ⟨ds1, hv_Ratio__init, hb_Ratio__init⟩ := T.b1_Ratio__init
    refine ⟨_, (pss_one (ps_ret (pe_ifExp (pt_val (pe_callB call_isi (by rfl) T.n_isinstance (by decide +kernel) (pa_cons (pv 0) (pa_cons (pe_glob (v := V.ref T.C_Ratio) (by rfl) T.g_Ratio rfl) pa_nil)))) (pv 0) (pe_make T.M_Ratio (ok_Ratio__init T) (hr.mono (by decide)) (by rfl) T.g_Ratio hb_Ratio__init hv_Ratio__init (passes_call (takes_of rfl rfl rfl rfl) (fun _ _ _ _ h => h)) (pa_cons (pv 0) pa_nil))))), ?_⟩
    walk_at "rd"
    rcases h with ⟨q, n, k⟩ | ⟨⟨t, ty, e, ni⟩, k⟩
    · obtain ⟨t, b, ty, e, hi, hr'⟩ := num_of T n
      refine RD.d_isi (.own _) ty e ?_
      walk_at "rd"
      cases b with
      | true =>
        obtain ⟨a, rfl, h⟩ := hr' rfl
        walk_at "rd"
        exact k a _ (Same.refl _) h
      | false =>
        obtain ⟨i, rfl, rfl⟩ := hi rfl
        walk_at "rd"
        refine mk_rat T (i := i) (j := 1) (by decide) (by decide +kernel) (fun x H6 s6 nx hx => ?_)
        exact k x _ s6 (by rw [rat_one] at hx; exact hx)
    · refine RD.d_isi (.own _) ty e ?_
      walk_at "rd"
      intro x dx nx ndx ne
      refine ⟨x, dx, v, .int 1, rfl, upd_same, .inl ⟨ni.same (same_made nx ndx ne), fun d hd => ?_⟩⟩
      have s1 := (same_made (C := T.C_Ratio) nx ndx ne)
      exact k d _ (s1.trans (same_upd hd)) (s1.free hd) upd_same
end

theorem wm {i j : Int} {m n : Nat} (h1 : i.natAbs < 2 ^ m) (h2 : j.natAbs < 2 ^ n) (h0 : 0 < m) (h3 : 0 < n) (h : m + n ≤ 1000000) : CMulW i j := wide_mul h1 h2 h0 h3 h
section
variable {P : Program} {w : World} {K : PySem.W.Frag} {mg : Str → Option Value} {base : Heap}
theorem ok_sum_of (T : Top K mg) : FnOk P w K mg base CX0 5 T.f_sum_of T.fd_sum_of ["one", "other"] (spTwo T.C_Ratio (· + ·)) := by
  refine T.F_sum_of.ok sc_sum_of (fun vs H Q E h => ?_) (fun cdv A outer s H vs Q E hr h => ?_)
  · obtain ⟨a, b, p, q, rfl, _⟩ := h; rfl
  · obtain ⟨a, b, p, q, rfl, ha, hb, bp, bq, k⟩ := h
    refine ⟨_, (pss_one (ps_ret (pe_make T.M_Ratio (ok_Ratio__init T) (hr.mono (by decide)) (by rfl) T.g_Ratio T.b_Ratio__init .nil OQ.passN (pa_cons (pe_op op_add (pe_op op_mulW (pe_fld (pv 0) rfl) (pe_fld (pv 1) rfl)) (pe_op op_mulW (pe_fld (pv 1) rfl) (pe_fld (pv 0) rfl))) (pa_cons (pe_op op_mulW (pe_fld (pv 0) rfl) (pe_fld (pv 1) rfl)) pa_nil))))), ?_⟩
    walk_at "rd"
    refine ratTop T ha ?_
    walk_at "rd"
    refine ratBottom T hb ?_
    walk_at "rd"
    refine RD.d_rI (wm bp.1 (den_bd bq) (by decide) (by decide) (by decide)) ?_
    walk_at "rd"
    refine ratTop T hb ?_
    walk_at "rd"
    refine ratBottom T ha ?_
    walk_at "rd"
    refine RD.d_rI (wm bq.1 (den_bd bp) (by decide) (by decide) (by decide)) ?_
    walk_at "rd"
    refine ratBottom T ha ?_
    walk_at "rd"
    refine ratBottom T hb ?_
    walk_at "rd"
    refine RD.d_rI (wm (den_bd bp) (den_bd bq) (by decide) (by decide) (by decide)) ?_
    walk_at "rd"
    refine mk_rat T spare (log_of (wide_lt (den_bd bp) (den_bd bq)) (by decide)) (fun x H6 s6 nx hx => ?_)
    rw [rat_add] at hx
    exact k x _ s6 hx
theorem ok_product_of (T : Top K mg) : FnOk P w K mg base CX0 5 T.f_product_of T.fd_product_of ["one", "other"] (spTwo T.C_Ratio (· * ·)) := by
  refine T.F_product_of.ok sc_product_of (fun vs H Q E h => ?_) (fun cdv A outer s H vs Q E hr h => ?_)
  · obtain ⟨a, b, p, q, rfl, _⟩ := h; rfl
  · obtain ⟨a, b, p, q, rfl, ha, hb, bp, bq, k⟩ := h
    refine ⟨_, (pss_one (ps_ret (pe_make T.M_Ratio (ok_Ratio__init T) (hr.mono (by decide)) (by rfl) T.g_Ratio T.b_Ratio__init .nil OQ.passN (pa_cons (pe_op op_mulW (pe_fld (pv 0) rfl) (pe_fld (pv 1) rfl)) (pa_cons (pe_op op_mulW (pe_fld (pv 0) rfl) (pe_fld (pv 1) rfl)) pa_nil))))), ?_⟩
    walk_at "rd"
    refine ratTop T ha ?_
    walk_at "rd"
    refine ratTop T hb ?_
    walk_at "rd"
    refine RD.d_rI (wm bp.1 bq.1 (by decide) (by decide) (by decide)) ?_
    walk_at "rd"
    refine ratBottom T ha ?_
    walk_at "rd"
    refine ratBottom T hb ?_
    walk_at "rd"
    refine RD.d_rI (wm (den_bd bp) (den_bd bq) (by decide) (by decide) (by decide)) ?_
    walk_at "rd"
    refine mk_rat T spare (log_of (wide_lt (den_bd bp) (den_bd bq)) (by decide)) (fun x H6 s6 nx hx => ?_)
    rw [rat_mul] at hx
    exact k x _ s6 hx
theorem ok_Ratio__neg (T : Top K mg) : FnOk P w K mg base CX0 5 T.f_Ratio__neg T.fd_Ratio__neg ["self"] (spNeg T.C_Ratio) := by
  refine T.F_Ratio__neg.ok sc_Ratio__neg (fun vs H Q E h => ?_) (fun cdv A outer s H vs Q E hr h => ?_)
  · obtain ⟨a, p, rfl, _⟩ := h; rfl
  · obtain ⟨a, p, rfl, ha, bp, k⟩ := h
    refine ⟨_, (pss_one (ps_ret (pe_make T.M_Ratio (ok_Ratio__init T) (hr.mono (by decide)) (by rfl) T.g_Ratio T.b_Ratio__init .nil OQ.passN (pa_cons (pe_un un_neg (pe_fld (pv 0) rfl)) (pa_cons (pe_fld (pv 0) rfl) pa_nil))))), ?_⟩
    walk_at "rd"
    refine ratTop T ha ?_
    walk_at "rd"
    refine ratBottom T ha ?_
    walk_at "rd"
    have hp := den_pos p
    refine mk_rat T (by omega) (log_of (den_bd bp) (by decide)) (fun x H6 s6 nx hx => ?_)
    rw [rat_neg] at hx
    exact k x _ s6 hx
/-- -x of a Ratio -/
theorem neg_r (T : Top K mg) {H : Hp} {Q : VK} {E : XK} {a : Addr} {p : Rat} (ha : RatAt T.C_Ratio H a p) (bp : Bd 8000 p) (k : ∀ c H', Same H H' → RatAt T.C_Ratio H' c (-p) → Q (.ref c) H') : OQ.rOwnU T.C_Ratio (spNeg T.C_Ratio) E (.ref a) H Q := by
  obtain ⟨dx, e⟩ := id ha
  exact ⟨a, dx, _, rfl, e, a, p, rfl, ha, bp, k⟩
theorem bd_neg {n : Nat} {p : Rat} (b : Bd n p) : Bd n (-p) := ⟨by show (-p.num).natAbs < _; rw [Int.natAbs_neg]; exact b.1, b.2⟩
theorem ok_Ratio__add (T : Top K mg) : FnOk P w K mg base CX0 7 T.f_Ratio__add T.fd_Ratio__add ["self", "other"] (spOp T.C_Ratio (fun p q => p + q)) := by
  refine T.F_Ratio__add.ok sc_Ratio__add (fun vs H Q E h => ?_) (fun cdv A outer s H vs Q E hr h => ?_)
  · obtain ⟨a, y, p, q, rfl, _⟩ := h; rfl
  · obtain ⟨a, y, p, q, rfl, ha, n, bp, bq, k⟩ := h
    refine ⟨_, (pss_cons (ps_if (pt_not (pt_val (pe_call (ok_is_number T) (hr.mono (by decide)) (by rfl) T.g_is_number T.F_is_number.kp T.b_is_number .nil pass0 (pa_cons (pv 1) pa_nil))))
 (pss_one ps_never)
 pss_nil)
 (pss_one (ps_ret (pe_call (ok_sum_of T) (hr.mono (by decide)) (by rfl) T.g_sum_of T.F_sum_of.kp T.b_sum_of .nil pass0 (pa_cons (pv 0) (pa_cons (pe_call (ok_as_ratio T) (hr.mono (by decide)) (by rfl) T.g_as_ratio T.F_as_ratio.kp T.b_as_ratio .nil OQ.passN (pa_cons (pv 1) pa_nil)) pa_nil)))))), ?_⟩
    walk_at "rd"
    refine ⟨y, q, rfl, n, ?_⟩
    walk_at "rd"
    refine ⟨y, rfl, .inl ⟨q, n, fun b H6 s6 hb => ?_⟩⟩
    walk_at "rd"
    refine ⟨a, b, p, q, rfl, ha.same s6, hb, bp, bq, fun z H8 s8 hz => ?_⟩
    walk_at "rd"
    exact k z _ (s6.trans s8) hz
theorem ok_Ratio__radd (T : Top K mg) : FnOk P w K mg base CX0 7 T.f_Ratio__radd T.fd_Ratio__radd ["self", "other"] (spOp T.C_Ratio (fun p q => q + p)) := by
  refine T.F_Ratio__radd.ok sc_Ratio__radd (fun vs H Q E h => ?_) (fun cdv A outer s H vs Q E hr h => ?_)
  · obtain ⟨a, y, p, q, rfl, _⟩ := h; rfl
  · obtain ⟨a, y, p, q, rfl, ha, n, bp, bq, k⟩ := h
    refine ⟨_, (pss_cons (ps_if (pt_not (pt_val (pe_call (ok_is_number T) (hr.mono (by decide)) (by rfl) T.g_is_number T.F_is_number.kp T.b_is_number .nil pass0 (pa_cons (pv 1) pa_nil))))
 (pss_one ps_never)
 pss_nil)
 (pss_one (ps_ret (pe_call (ok_sum_of T) (hr.mono (by decide)) (by rfl) T.g_sum_of T.F_sum_of.kp T.b_sum_of .nil pass0 (pa_cons (pe_call (ok_as_ratio T) (hr.mono (by decide)) (by rfl) T.g_as_ratio T.F_as_ratio.kp T.b_as_ratio .nil OQ.passN (pa_cons (pv 1) pa_nil)) (pa_cons (pv 0) pa_nil)))))), ?_⟩
    walk_at "rd"
    refine ⟨y, q, rfl, n, ?_⟩
    walk_at "rd"
    refine ⟨y, rfl, .inl ⟨q, n, fun b H6 s6 hb => ?_⟩⟩
    walk_at "rd"
    refine ⟨b, a, q, p, rfl, hb, ha.same s6, bq, bp, fun z H8 s8 hz => ?_⟩
    walk_at "rd"
    exact k z _ (s6.trans s8) hz
theorem ok_Ratio__sub (T : Top K mg) : FnOk P w K mg base CX0 7 T.f_Ratio__sub T.fd_Ratio__sub ["self", "other"] (spOp T.C_Ratio (fun p q => p - q)) := by
  refine T.F_Ratio__sub.ok sc_Ratio__sub (fun vs H Q E h => ?_) (fun cdv A outer s H vs Q E hr h => ?_)
  · obtain ⟨a, y, p, q, rfl, _⟩ := h; rfl
  · obtain ⟨a, y, p, q, rfl, ha, n, bp, bq, k⟩ := h
    refine ⟨_, (pss_cons (ps_if (pt_not (pt_val (pe_call (ok_is_number T) (hr.mono (by decide)) (by rfl) T.g_is_number T.F_is_number.kp T.b_is_number .nil pass0 (pa_cons (pv 1) pa_nil))))
 (pss_one ps_never)
 pss_nil)
 (pss_one (ps_ret (pe_call (ok_sum_of T) (hr.mono (by decide)) (by rfl) T.g_sum_of T.F_sum_of.kp T.b_sum_of .nil pass0 (pa_cons (pv 0) (pa_cons (pe_un (OQ.un_ownNeg (ok_Ratio__neg T) (hr.mono (by decide)) T.m_Ratio__neg.at_ T.m_Ratio__neg.fn T.b_Ratio__neg pass0) (pe_call (ok_as_ratio T) (hr.mono (by decide)) (by rfl) T.g_as_ratio T.F_as_ratio.kp T.b_as_ratio .nil OQ.passN (pa_cons (pv 1) pa_nil))) pa_nil)))))), ?_⟩
    walk_at "rd"
    refine ⟨y, q, rfl, n, ?_⟩
    walk_at "rd"
    refine ⟨y, rfl, .inl ⟨q, n, fun b H6 s6 hb => ?_⟩⟩
    walk_at "rd"
    refine neg_r T hb (bq.mono (by decide)) (fun c H7 s7 hc => ?_)
    walk_at "rd"
    refine ⟨a, c, p, -q, rfl, (ha.same s6).same s7, hc, bp, bd_neg bq, fun z H8 s8 hz => ?_⟩
    walk_at "rd"
    exact k z _ ((s6.trans s7).trans s8) (by have hz' : RatAt T.C_Ratio H8 z (p + -q) := hz; rw [← Rat.sub_eq_add_neg] at hz'; exact hz')
theorem ok_Ratio__rsub (T : Top K mg) : FnOk P w K mg base CX0 7 T.f_Ratio__rsub T.fd_Ratio__rsub ["self", "other"] (spOp T.C_Ratio (fun p q => q - p)) := by
  refine T.F_Ratio__rsub.ok sc_Ratio__rsub (fun vs H Q E h => ?_) (fun cdv A outer s H vs Q E hr h => ?_)
  · obtain ⟨a, y, p, q, rfl, _⟩ := h; rfl
  · obtain ⟨a, y, p, q, rfl, ha, n, bp, bq, k⟩ := h
    refine ⟨_, (pss_cons (ps_if (pt_not (pt_val (pe_call (ok_is_number T) (hr.mono (by decide)) (by rfl) T.g_is_number T.F_is_number.kp T.b_is_number .nil pass0 (pa_cons (pv 1) pa_nil))))
 (pss_one ps_never)
 pss_nil)
 (pss_one (ps_ret (pe_call (ok_sum_of T) (hr.mono (by decide)) (by rfl) T.g_sum_of T.F_sum_of.kp T.b_sum_of .nil pass0 (pa_cons (pe_call (ok_as_ratio T) (hr.mono (by decide)) (by rfl) T.g_as_ratio T.F_as_ratio.kp T.b_as_ratio .nil OQ.passN (pa_cons (pv 1) pa_nil)) (pa_cons (pe_un (OQ.un_ownNeg (ok_Ratio__neg T) (hr.mono (by decide)) T.m_Ratio__neg.at_ T.m_Ratio__neg.fn T.b_Ratio__neg pass0) (pv 0)) pa_nil)))))), ?_⟩
    walk_at "rd"
    refine ⟨y, q, rfl, n, ?_⟩
    walk_at "rd"
    refine ⟨y, rfl, .inl ⟨q, n, fun b H6 s6 hb => ?_⟩⟩
    walk_at "rd"
    refine neg_r T (ha.same s6) (bp.mono (by decide)) (fun c H7 s7 hc => ?_)
    walk_at "rd"
    refine ⟨b, c, q, -p, rfl, hb.same s7, hc, bq, bd_neg bp, fun z H8 s8 hz => ?_⟩
    walk_at "rd"
    exact k z _ ((s6.trans s7).trans s8) (by have hz' : RatAt T.C_Ratio H8 z (q + -p) := hz; rw [← Rat.sub_eq_add_neg] at hz'; exact hz')
theorem ok_Ratio__mul (T : Top K mg) : FnOk P w K mg base CX0 7 T.f_Ratio__mul T.fd_Ratio__mul ["self", "other"] (spOp T.C_Ratio (fun p q => p * q)) := by
  refine T.F_Ratio__mul.ok sc_Ratio__mul (fun vs H Q E h => ?_) (fun cdv A outer s H vs Q E hr h => ?_)
  · obtain ⟨a, y, p, q, rfl, _⟩ := h; rfl
  · obtain ⟨a, y, p, q, rfl, ha, n, bp, bq, k⟩ := h
    refine ⟨_, (pss_cons (ps_if (pt_not (pt_val (pe_call (ok_is_number T) (hr.mono (by decide)) (by rfl) T.g_is_number T.F_is_number.kp T.b_is_number .nil pass0 (pa_cons (pv 1) pa_nil))))
 (pss_one ps_never)
 pss_nil)
 (pss_one (ps_ret (pe_call (ok_product_of T) (hr.mono (by decide)) (by rfl) T.g_product_of T.F_product_of.kp T.b_product_of .nil pass0 (pa_cons (pv 0) (pa_cons (pe_call (ok_as_ratio T) (hr.mono (by decide)) (by rfl) T.g_as_ratio T.F_as_ratio.kp T.b_as_ratio .nil OQ.passN (pa_cons (pv 1) pa_nil)) pa_nil)))))), ?_⟩
    walk_at "rd"
    refine ⟨y, q, rfl, n, ?_⟩
    walk_at "rd"
    refine ⟨y, rfl, .inl ⟨q, n, fun b H6 s6 hb => ?_⟩⟩
    walk_at "rd"
    refine ⟨a, b, p, q, rfl, ha.same s6, hb, bp, bq, fun z H8 s8 hz => ?_⟩
    walk_at "rd"
    exact k z _ (s6.trans s8) hz
theorem ok_Ratio__rmul (T : Top K mg) : FnOk P w K mg base CX0 7 T.f_Ratio__rmul T.fd_Ratio__rmul ["self", "other"] (spOp T.C_Ratio (fun p q => q * p)) := by
  refine T.F_Ratio__rmul.ok sc_Ratio__rmul (fun vs H Q E h => ?_) (fun cdv A outer s H vs Q E hr h => ?_)
  · obtain ⟨a, y, p, q, rfl, _⟩ := h; rfl
  · obtain ⟨a, y, p, q, rfl, ha, n, bp, bq, k⟩ := h
    refine ⟨_, (pss_cons (ps_if (pt_not (pt_val (pe_call (ok_is_number T) (hr.mono (by decide)) (by rfl) T.g_is_number T.F_is_number.kp T.b_is_number .nil pass0 (pa_cons (pv 1) pa_nil))))
 (pss_one ps_never)
 pss_nil)
 (pss_one (ps_ret (pe_call (ok_product_of T) (hr.mono (by decide)) (by rfl) T.g_product_of T.F_product_of.kp T.b_product_of .nil pass0 (pa_cons (pe_call (ok_as_ratio T) (hr.mono (by decide)) (by rfl) T.g_as_ratio T.F_as_ratio.kp T.b_as_ratio .nil OQ.passN (pa_cons (pv 1) pa_nil)) (pa_cons (pv 0) pa_nil)))))), ?_⟩
    walk_at "rd"
    refine ⟨y, q, rfl, n, ?_⟩
    walk_at "rd"
    refine ⟨y, rfl, .inl ⟨q, n, fun b H6 s6 hb => ?_⟩⟩
    walk_at "rd"
    refine ⟨b, a, q, p, rfl, hb, ha.same s6, bq, bp, fun z H8 s8 hz => ?_⟩
    walk_at "rd"
    exact k z _ (s6.trans s8) hz
end

def spOver (K : PySem.W.Frag) (C BN : Addr) : Sp := fun vs H Q E => ∃ (a : Addr) (y : V) (p : Rat), vs = [.ref a, y] ∧ RatAt C H a p ∧ Bd 2000 p ∧
  ((∃ q, Num C H y q ∧ Bd 2000 q ∧ q ≠ 0 ∧ ∀ c H', Same H H' → RatAt C H' c (p / q) → Q (.ref c) H') ∨
   ((Num C H y 0 ∨ NoNum K C H y) ∧ ∀ d H', Same H H' → H d = none → H' d = some (ErrD y) → E (.ref BN) (some d) H'))
def spLess (K : PySem.W.Frag) (C BN : Addr) : Sp := fun vs H Q E => ∃ (a : Addr) (y : V) (p : Rat), vs = [.ref a, y] ∧ RatAt C H a p ∧ Bd 2000 p ∧
  ((∃ q, Num C H y q ∧ Bd 2000 q ∧ ∀ H', Same H H' → Q (.bl (decide (p < q))) H') ∨
   (NoNum K C H y ∧ ∀ d H', Same H H' → H d = none → H' d = some (ErrD y) → E (.ref BN) (some d) H'))
theorem rat_div (p q : Rat) : Rat.divInt (p.num * q.den) (p.den * q.num) = p / q := by
  rw [Rat.div_def, Rat.inv_def]
  conv => rhs; rw [← Rat.num_divInt_den p]
  rw [Rat.divInt_mul_divInt]
theorem num_ne {q : Rat} (h : q ≠ 0) : q.num ≠ 0 := fun z => h (Rat.ext z (by
  have r := q.reduced
  rw [z] at r
  have e : q.den = 1 := by simpa [Nat.Coprime] using r
  exact e))
section
variable {P : Program} {w : World} {K : PySem.W.Frag} {mg : Str → Option Value} {base : Heap}
theorem ok_Ratio_over (T : Top K mg) : FnOk P w K mg base (L2.CX P w) 7 T.f_Ratio_over T.fd_Ratio_over ["self", "other"] (spOver K T.C_Ratio T.C_BN) := by
  refine T.F_Ratio_over.okX sc_Ratio_over (fun vs H Q E h => ?_) (fun cdv A outer s H vs Q E hr h => ?_)
  · obtain ⟨a, y, p, rfl, _⟩ := h; rfl
  · obtain ⟨a, y, p, rfl, ha, bp, h⟩ := h
    refine ⟨_, (pss_cons (ps_set (i := 2) sc_Ratio_over.nd rfl (Or.inl rfl) (pe_call (ok_as_ratio T) (hr.mono (by decide)) (by rfl) T.g_as_ratio T.F_as_ratio.kp T.b_as_ratio .nil (passes_call (takes_of rfl rfl rfl rfl) (fun _ _ _ _ h => h)) (pa_cons (pv 1) pa_nil)))
 (pss_cons (ps_if (pt_cmpR op_eq (pe_fld (pv 2) rfl) pe_int (nomark _))
 (pss_one (ps_raise rfl (takes_of rfl rfl rfl rfl) (pmk_oex T.oex_BadNumber T.i_BadNumber T.tI (ok_WayError__init T) (hr.mono (by decide)) T.b_WayError__init .nil pass0 (by rfl) T.g_BadNumber (pa_cons (pv 1) pa_nil))))
 pss_nil)
 (pss_one (ps_ret (pe_make T.M_Ratio (ok_Ratio__init T) (hr.mono (by decide)) (by rfl) T.g_Ratio T.b_Ratio__init .nil (passes_call (takes_of rfl rfl rfl rfl) (fun _ _ _ _ h => h)) (pa_cons (pe_op op_mulW (pe_fld (pv 0) rfl) (pe_fld (pv 2) rfl)) (pa_cons (pe_op op_mulW (pe_fld (pv 0) rfl) (pe_fld (pv 2) rfl)) pa_nil))))))), ?_⟩
    walk_at "rd"
    rcases h with ⟨q, n, bq, nz, k⟩ | ⟨n | n, k⟩
    · refine ⟨y, rfl, .inl ⟨q, n, fun b H6 s6 hb => ?_⟩⟩
      walk_at "rd"
      refine ratTop T hb ?_
      walk_at "rd"
      refine RD.d_iteDF (num_ne nz) ?_
      walk_at "rd"
      refine ratTop T (ha.same s6) ?_
      walk_at "rd"
      refine ratBottom T hb ?_
      walk_at "rd"
      refine RD.d_rI (wm bp.1 (den_bd bq) (by decide) (by decide) (by decide)) ?_
      walk_at "rd"
      refine ratBottom T (ha.same s6) ?_
      walk_at "rd"
      refine ratTop T hb ?_
      walk_at "rd"
      refine RD.d_rI (wm (den_bd bp) bq.1 (by decide) (by decide) (by decide)) ?_
      walk_at "rd"
      have hp := den_pos p
      refine mk_rat T (Int.mul_ne_zero (by omega) (num_ne nz)) (log_of (wide_lt (den_bd bp) bq.1) (by decide)) (fun x H7 s7 nx hx => ?_)
      rw [rat_div] at hx
      exact k x _ (s6.trans s7) hx
    · refine ⟨y, rfl, .inl ⟨0, n, fun b H6 s6 hb => ?_⟩⟩
      walk_at "rd"
      refine ratTop T hb ?_
      walk_at "rd"
      exact d_mkO T.oex_BadNumber T.v_BadNumber (fun d hd => k d _ (s6.trans (same_upd hd)) (s6.free hd) upd_same)
    · exact ⟨y, rfl, .inr ⟨n, fun d H' s6 hd e => k d H' s6 hd e⟩⟩
theorem ok_Ratio_less (T : Top K mg) : FnOk P w K mg base (L2.CX P w) 7 T.f_Ratio_less T.fd_Ratio_less ["self", "other"] (spLess K T.C_Ratio T.C_BN) := by
  refine T.F_Ratio_less.okX sc_Ratio_less (fun vs H Q E h => ?_) (fun cdv A outer s H vs Q E hr h => ?_)
  · obtain ⟨a, y, p, rfl, _⟩ := h; rfl
  · obtain ⟨a, y, p, rfl, ha, bp, h⟩ := h
    refine ⟨_, (pss_cons (ps_set (i := 2) sc_Ratio_less.nd rfl (Or.inl rfl) (pe_call (ok_as_ratio T) (hr.mono (by decide)) (by rfl) T.g_as_ratio T.F_as_ratio.kp T.b_as_ratio .nil (passes_call (takes_of rfl rfl rfl rfl) (fun _ _ _ _ h => h)) (pa_cons (pv 1) pa_nil)))
 (pss_one (ps_ret (pe_cmpR op_lt (pe_op op_mulW (pe_fld (pv 0) rfl) (pe_fld (pv 2) rfl)) (pe_op op_mulW (pe_fld (pv 2) rfl) (pe_fld (pv 0) rfl)) (nomark _))))), ?_⟩
    walk_at "rd"
    rcases h with ⟨q, n, bq, k⟩ | ⟨n, k⟩
    · refine ⟨y, rfl, .inl ⟨q, n, fun b H6 s6 hb => ?_⟩⟩
      walk_at "rd"
      refine ratTop T (ha.same s6) ?_
      walk_at "rd"
      refine ratBottom T hb ?_
      walk_at "rd"
      refine RD.d_rI (wm bp.1 (den_bd bq) (by decide) (by decide) (by decide)) ?_
      walk_at "rd"
      refine ratTop T hb ?_
      walk_at "rd"
      refine ratBottom T (ha.same s6) ?_
      walk_at "rd"
      refine RD.d_rI (wm bq.1 (den_bd bp) (by decide) (by decide) (by decide)) ?_
      walk_at "rd"
      have e : decide (p.num * (q.den : Int) < q.num * (p.den : Int)) = decide (p < q) := by rw [decide_eq_decide]; exact (Rat.lt_iff p q).symm
      rw [e]
      exact k _ s6
    · exact ⟨y, rfl, .inr ⟨n, fun d H' s6 hd e => k d H' s6 hd e⟩⟩
end

/-- two drawn numbers, the second not 0 -/
def spPair : Sp := fun vs H Q _ => ∃ (h : Addr), vs = [.ref h] ∧ HandAt H h ∧ ∀ (i j : Int) (p : Addr) (H' : Hp), Small i → Small j → j ≠ 0 → HandAt H' h → H' p = some (.tup [.int i, .int j]) → p ≠ h → Kp h H H' → Q (.ref p) H'
theorem kp_upd {h p : Addr} {H : Hp} {o : HO} (hp : H p = none) : Kp h H (upd H p o) := fun b u _ e => by rw [upd_ne (ne_of_none e hp)]; exact e
section
variable {P : Program} {w : World} {K : PySem.W.Frag} {mg : Str → Option Value} {base : Heap}
theorem ok_law_pair (T : Top K mg) : FnOk P w K mg base CX0 3 T.f_law_pair T.fd_law_pair ["hand"] spPair := by
  refine T.F_law_pair.ok sc_law_pair (fun vs H Q E h => ?_) (fun cdv A outer s H vs Q E hr h => ?_)
  · obtain ⟨h, rfl, _⟩ := h; rfl
  · obtain ⟨h, rfl, hd, k⟩ := h
    refine ⟨_, (pss_cons (ps_set (i := 1) sc_law_pair.nd rfl (Or.inl rfl) (pe_call (ok_law_number T) (hr.mono (by decide)) (by rfl) T.g_law_number T.F_law_number.kp T.b_law_number .nil pass0 (pa_cons (pv 0) pa_nil)))
 (C8.pss_cut (ps_if (PW.pt (pw_or (pt_cmpR op_eq (pv 1) pe_int (nomark _)) (pw_or1 (pt_cmpR op_eq (pe_call (ok_law_draw T) (hr.mono (by decide)) (by rfl) T.g_law_draw T.F_law_draw.kp T.b_law_draw .nil pass0 (pa_cons (pv 0) (pa_cons pe_int pa_nil))) pe_int (nomark _)))))
 (pss_one (ps_set (i := 1) sc_law_pair.nd rfl (Or.inl rfl) pe_int))
 pss_nil)
 (pss_one (ps_ret (pe_tup (pa_cons (pe_call (ok_law_number T) (hr.mono (by decide)) (by rfl) T.g_law_number T.F_law_number.kp T.b_law_number .nil pass0 (pa_cons (pv 0) pa_nil)) (pa_cons (pv 1) pa_nil))))))), ?_⟩
    walk_at "rd"
    refine ⟨h, rfl, hd, fun j0 H1 sj hd1 b1 => ?_⟩
    walk_at "rd"
    refine RD.d_cut (fun σ' H' => ∃ j : Int, σ' = [some (.ref h), some (.int j)] ∧ Small j ∧ j ≠ 0 ∧ HandAt H' h ∧ But h H H') ?_ ?_
    · walk_at "rd"
      refine RD.iteD (fun c => ?_) (fun c => ?_)
      · walk_at "rd"
        exact ⟨1, rfl, by unfold Small; decide, by decide, hd1, b1⟩
      · walk_at "rd"
        refine ⟨h, 4, rfl, hd1, by decide, by decide +kernel, fun r H2 r0 r1 hd2 b2 => ?_⟩
        walk_at "rd"
        refine RD.iteD (fun c2 => ?_) (fun c2 => ?_)
        · walk_at "rd"
          exact ⟨1, rfl, by unfold Small; decide, by decide, hd2, b1.trans b2⟩
        · walk_at "rd"
          exact ⟨j0, rfl, sj, c, hd2, b1.trans b2⟩
    · rintro σ' H2 ⟨j, rfl, sj, nz, hd2, b2⟩
      walk_at "rd"
      refine ⟨h, rfl, hd2, fun i H3 si hd3 b3 => ?_⟩
      walk_at "rd"
      refine ⟨by show 2 ≤ sizeLine; decide, fun p hp => ?_⟩
      have hd4 := hd3.same (same_upd (o := HO.tup [.int i, .int j]) hp)
      have np : p ≠ h := fun z => by
        obtain ⟨c, cs, p', q, m, n, e1, _⟩ := hd3
        rw [z, e1] at hp; cases hp
      exact k i j p _ si sj nz hd4 upd_same np ((b2.trans b3).kp.trans (kp_upd hp))
end

/-! ### what the law asks of a Ratio -/
def spIs (C : Addr) : Sp := fun vs H Q _ => ∃ (a : Addr) (t b : Int) (q : Rat), vs = [.ref a, .int t, .int b] ∧ RatAt C H a q ∧ Bd 480 q ∧ b ≠ 0 ∧ t.natAbs < 2 ^ 2000 ∧ b.natAbs < 2 ^ 2000 ∧ q = Rat.divInt t b ∧ ∀ H', Same H H' → Q (.bl true) H'
section
variable {P : Program} {w : World} {K : PySem.W.Frag} {mg : Str → Option Value} {base : Heap}
theorem ok_law_is (T : Top K mg) : FnOk P w K mg base CX0 3 T.f_law_is T.fd_law_is ["thing", "top", "bottom"] (spIs T.C_Ratio) := by
  refine T.F_law_is.ok sc_law_is (fun vs H Q E h => ?_) (fun cdv A outer s H vs Q E hr h => ?_)
  · obtain ⟨a, t, b, q, rfl, _⟩ := h; rfl
  · obtain ⟨a, t, b, q, rfl, ha, bq, nz, ht, hb, eq, k⟩ := h
    refine ⟨_, (pss_cons (ps_if (pt_not (pt_val (pe_callB call_isi (by rfl) T.n_isinstance (by decide +kernel) (pa_cons (pv 0) (pa_cons (pe_glob (v := V.ref T.C_Ratio) (by rfl) T.g_Ratio rfl) pa_nil)))))
 (pss_one (ps_ret pe_bl))
 pss_nil)
 (pss_cons (ps_for PassesOwn.never rfl (pi_list (pe_lst (pa_cons (pe_fld (pv 0) rfl) (pa_cons (pe_fld (pv 0) rfl) pa_nil)))) (pg_name (i := 3) sc_law_is.nd rfl (Or.inl rfl))
 (pss_one (ps_if (PW.pt (pw_or (pt_not (pt_val (pe_callB call_isi (by rfl) T.n_isinstance (by decide +kernel) (pa_cons (pv 3) (pa_cons (pe_bltn (v := V.ty "int") (by rfl) T.n_int (by decide +kernel) rfl) pa_nil))))) (pw_or1 (pt_val (pe_callB call_isi (by rfl) T.n_isinstance (by decide +kernel) (pa_cons (pv 3) (pa_cons (pe_bltn (v := V.ty "bool") (by rfl) T.n_bool (by decide +kernel) rfl) pa_nil)))))))
 (pss_one (ps_ret pe_bl))
 pss_nil)))
 (pss_cons (ps_if (PW.pt (pw_or (pt_cmpR op_lt (pe_fld (pv 0) rfl) pe_int (nomark _)) (pw_or1 (pt_cmpR op_ne (pe_op op_mulW (pe_fld (pv 0) rfl) (pv 2)) (pe_op op_mulW (pv 1) (pe_fld (pv 0) rfl)) (nomark _)))))
 (pss_one (ps_ret pe_bl))
 pss_nil)
 (pss_one (ps_ret (pe_cmpR op_eq (pe_call (ok_law_common T) (hr.mono (by decide)) (by rfl) T.g_law_common T.F_law_common.kp T.b_law_common .nil pass0 (pa_cons (pe_fld (pv 0) rfl) (pa_cons (pe_fld (pv 0) rfl) pa_nil))) pe_int (nomark _))))))), ?_⟩
    walk_at "rd"
    refine RD.d_isi (.own _) (tyR T ha) T.kRR ?_
    walk_at "rd"
    refine ratTop T ha ?_
    walk_at "rd"
    refine ratBottom T ha ?_
    walk_at "rd"
    refine ⟨by show 2 ≤ sizeLine; decide, fun p hp => ?_⟩
    have s1 : Same H (upd H p (.lst [.int q.num, .int (q.den : Int)])) := same_upd hp
    walk_at "rd"
    refine RD.f_list (K := K) (a := p) (xs := [.int q.num, .int (q.den : Int)]) (fun i σ' H' => ∃ v, σ' = [some (.ref a), some (.int t), some (.int b), v] ∧ H' = upd H p (.lst [.int q.num, .int (q.den : Int)]))
      ⟨none, rfl, rfl⟩ (fun i σ' H' _ z => by obtain ⟨v, _, rfl⟩ := z; exact SqL.of upd_same) ?_ ?_
    · rintro i x σ' H' hx ⟨v, rfl, rfl⟩
      obtain ⟨z, rfl⟩ : ∃ z, x = V.int z := by
        match i, hx with
        | 0, e => exact ⟨_, (Option.some.inj e).symm⟩
        | 1, e => exact ⟨_, (Option.some.inj e).symm⟩
        | n + 2, e => simp at e
      walk_at "rd"
      refine RD.d_isi (.ty _) (.base (.int z)) (kit_ty (r := true) (by decide +kernel)) ?_
      walk_at "rd"
      refine RD.d_isi (.ty _) (.base (.int z)) (kit_ty (r := false) (by decide +kernel)) ?_
      walk_at "rd"
      exact ⟨_, rfl, rfl⟩
    · rintro σ' H' ⟨v, rfl, rfl⟩
      have h1 := ha.same s1
      have dp := den_pos q
      walk_at "rd"
      refine ratBottom T h1 ?_
      walk_at "rd"
      refine RD.d_iteDF (by omega) ?_
      walk_at "rd"
      refine ratTop T h1 ?_
      walk_at "rd"
      refine RD.d_rI (wm bq.1 hb (by decide) (by decide) (by decide)) ?_
      walk_at "rd"
      refine ratBottom T h1 ?_
      walk_at "rd"
      refine RD.d_rI (wm ht (den_bd bq) (by decide) (by decide) (by decide)) ?_
      walk_at "rd"
      have e : q.num * b = t * (q.den : Int) := by
        have z : Rat.divInt q.num q.den = Rat.divInt t b := by rw [Rat.num_divInt_den]; exact eq
        exact (Rat.divInt_eq_divInt_iff (by omega) nz).mp z
      refine RD.iteN (fun c => absurd e c) (fun _ => ?_)
      walk_at "rd"
      refine ratTop T h1 ?_
      walk_at "rd"
      refine ratBottom T h1 ?_
      walk_at "rd"
      refine ⟨q.num, q.den, rfl, bq.1, den_bd bq, ?_⟩
      walk_at "rd"
      have g1 : Nat.gcd q.num.natAbs ((q.den : Int)).natAbs = 1 := by rw [Int.natAbs_natCast]; exact q.reduced
      have e2 : decide (((Nat.gcd q.num.natAbs ((q.den : Int)).natAbs : Nat) : Int) = 1) = true := decide_eq_true (by rw [g1]; rfl)
      rw [e2]
      exact k _ s1
end

theorem bd_div {n : Nat} {t b : Int} (nz : b ≠ 0) (ht : t.natAbs < 2 ^ n) (hb : b.natAbs < 2 ^ n) : Bd n (Rat.divInt t b) := by
  refine ⟨Nat.lt_of_le_of_lt ?_ ht, Nat.lt_of_le_of_lt ?_ hb⟩
  · rw [Rat.num_divInt]
    refine Nat.le_trans (Int.natAbs_ediv_le_natAbs _ _) ?_
    rw [Int.natAbs_mul]
    rcases Int.lt_trichotomy b 0 with h | h | h
    · rw [Int.sign_eq_neg_one_of_neg h]; simp
    · subst h; simp
    · rw [Int.sign_eq_one_of_pos h]; simp
  · rw [Rat.den_divInt, if_neg nz]; exact Nat.div_le_self _ _
section
variable {K : PySem.W.Frag} {mg : Str → Option Value} {H : Hp} {Q : VK} {E E' : XK}
theorem bin2 (T : Top K mg) {g g' : Rat → Rat → Rat} {x y : V} {p q : Rat} (hg : g' q p = g p q) (hx : Num T.C_Ratio H x p) (hy : Num T.C_Ratio H y q) (hr : (∃ a, x = .ref a) ∨ ∃ b, y = .ref b) (bp : Bd 2000 p) (bq : Bd 2000 q)
    (k : ∀ c H', Same H H' → RatAt T.C_Ratio H' c (g p q) → Q (.ref c) H') : OQ.rOwnB T.C_Ratio (spOp T.C_Ratio g) E x y H Q ∨ OQ.rReflB T.C_Ratio (spOp T.C_Ratio g') E' x y H Q := by
  rcases hx with ⟨a, rfl, ha⟩ | ⟨i, rfl, e⟩
  · obtain ⟨dx, ea⟩ := id ha
    refine .inl ⟨a, dx, _, rfl, ea, ?_, a, y, p, q, rfl, ha, hy, bp, bq, k⟩
    rcases hy with ⟨b, rfl, dy, eb⟩ | ⟨j, rfl, _⟩
    · exact .inl ⟨b, dy, _, rfl, eb⟩
    · exact .inr ⟨j, rfl⟩
  · rcases hy with ⟨b, rfl, hb⟩ | ⟨j, rfl, _⟩
    · obtain ⟨dy, eb⟩ := id hb
      exact .inr ⟨i, b, dy, _, rfl, rfl, eb, b, .int i, q, p, rfl, hb, .inr ⟨i, rfl, e⟩, bq, bp, fun c H' s h => k c H' s (by rw [hg] at h; exact h)⟩
    · rcases hr with ⟨a, z⟩ | ⟨a, z⟩ <;> cases z
end
def spRight (C : Addr) : Sp := fun vs H Q _ => ∃ (x y : V) (a b c d : Int), vs = [x, y, .int a, .int b, .int c, .int d] ∧ Num C H x (Rat.divInt a b) ∧ Num C H y (Rat.divInt c d) ∧ ((∃ a, x = .ref a) ∨ ∃ b, y = .ref b) ∧ b ≠ 0 ∧ d ≠ 0 ∧
  Small a ∧ Small b ∧ Small c ∧ Small d ∧ ∀ H', Same H H' → Q (.bl true) H'
theorem two_add {i j : Int} {n : Nat} (h1 : i.natAbs < 2 ^ n) (h2 : j.natAbs < 2 ^ n) : (i + j).natAbs < 2 ^ (n + 1) := by
  have := Int.natAbs_add_le i j
  rw [Nat.pow_succ]; omega
theorem two_sub {i j : Int} {n : Nat} (h1 : i.natAbs < 2 ^ n) (h2 : j.natAbs < 2 ^ n) : (i - j).natAbs < 2 ^ (n + 1) := by
  have := Int.natAbs_sub_le i j
  rw [Nat.pow_succ]; omega
theorem up2 {i : Int} {m n : Nat} (h : i.natAbs < 2 ^ m) (hn : m ≤ n) : i.natAbs < 2 ^ n := Nat.lt_of_lt_of_le h (Nat.pow_le_pow_right (by decide) hn)
section
variable {P : Program} {w : World} {K : PySem.W.Frag} {mg : Str → Option Value} {base : Heap}
theorem ok_law_right (T : Top K mg) : FnOk P w K mg base CX0 9 T.f_law_right T.fd_law_right ["one", "other", "a", "b", "c", "d"] (spRight T.C_Ratio) := by
  refine T.F_law_right.ok sc_law_right (fun vs H Q E h => ?_) (fun cdv A outer s H vs Q E hr h => ?_)
  · obtain ⟨x, y, a, b, c, d, rfl, _⟩ := h; rfl
  · obtain ⟨x, y, a, b, c, d, rfl, hx, hy, hxy, nb, nd, sa, sb, sc, sd, k⟩ := h
    have bp : Bd 2000 (Rat.divInt a b) := (bd_div nb sa sb).mono (by decide)
    have bq : Bd 2000 (Rat.divInt c d) := (bd_div nd sc sd).mono (by decide)
    have ad := wide_lt sa sd
    have cb := wide_lt sc sb
    have bd := wide_lt sb sd
    have ac := wide_lt sa sc
    have nbd : b * d ≠ 0 := Int.mul_ne_zero nb nd
    have s1 := two_add ad cb
    have s2 := two_sub ad cb
    refine ⟨_, (pss_cons (ps_if (PW.pt (pw_or (pt_not (pt_val (pe_call (ok_law_is T) (hr.mono (by decide)) (by rfl) T.g_law_is T.F_law_is.kp T.b_law_is .nil pass0 (pa_cons (pe_op (OQ.op_or (OQ.op_ownB (ok_Ratio__add T) (hr.mono (by decide)) T.sfR (T.at_add) T.m_Ratio__add.fn T.at_radd T.ia_add T.ib_add T.subIR T.b_Ratio__add pass0) (OQ.op_reflB OQ.int_add (ok_Ratio__radd T) (hr.mono (by decide)) T.sfR T.at_add T.at_radd T.m_Ratio__radd.fn T.subRI T.b_Ratio__radd pass0)) (pv 0) (pv 1)) (pa_cons (pe_op op_add (pe_op op_mulW (pv 2) (pv 5)) (pe_op op_mulW (pv 4) (pv 3))) (pa_cons (pe_op op_mulW (pv 3) (pv 5)) pa_nil)))))) (pw_or1 (pt_not (pt_val (pe_call (ok_law_is T) (hr.mono (by decide)) (by rfl) T.g_law_is T.F_law_is.kp T.b_law_is .nil pass0 (pa_cons (pe_op (OQ.op_or (OQ.op_ownB (ok_Ratio__sub T) (hr.mono (by decide)) T.sfR (T.at_sub) T.m_Ratio__sub.fn T.at_rsub T.ia_sub T.ib_sub T.subIR T.b_Ratio__sub pass0) (OQ.op_reflB OQ.int_sub (ok_Ratio__rsub T) (hr.mono (by decide)) T.sfR T.at_sub T.at_rsub T.m_Ratio__rsub.fn T.subRI T.b_Ratio__rsub pass0)) (pv 0) (pv 1)) (pa_cons (pe_op op_sub (pe_op op_mulW (pv 2) (pv 5)) (pe_op op_mulW (pv 4) (pv 3))) (pa_cons (pe_op op_mulW (pv 3) (pv 5)) pa_nil)))))))))
 (pss_one (ps_ret pe_bl))
 pss_nil)
 (pss_one (ps_ret (pe_call (ok_law_is T) (hr.mono (by decide)) (by rfl) T.g_law_is T.F_law_is.kp T.b_law_is .nil pass0 (pa_cons (pe_op (OQ.op_or (OQ.op_ownB (ok_Ratio__mul T) (hr.mono (by decide)) T.sfR (T.at_mul) T.m_Ratio__mul.fn T.at_rmul T.ia_mul T.ib_mul T.subIR T.b_Ratio__mul pass0) (OQ.op_reflB OQ.int_mul (ok_Ratio__rmul T) (hr.mono (by decide)) T.sfR T.at_mul T.at_rmul T.m_Ratio__rmul.fn T.subRI T.b_Ratio__rmul pass0)) (pv 0) (pv 1)) (pa_cons (pe_op op_mulW (pv 2) (pv 4)) (pa_cons (pe_op op_mulW (pv 3) (pv 5)) pa_nil))))))), ?_⟩
    walk_at "rd"
    refine bin2 T (g := fun p q => p + q) (g' := fun p q => q + p) rfl hx hy hxy bp bq (fun z H1 t1 hz => ?_)
    replace hz : RatAt T.C_Ratio H1 z (Rat.divInt a b + Rat.divInt c d) := hz
    rw [Rat.divInt_add_divInt _ _ nb nd] at hz
    walk_at "rd"
    refine RD.d_rI (wm sa sd (by decide) (by decide) (by decide)) ?_
    walk_at "rd"
    refine RD.d_rI (wm sc sb (by decide) (by decide) (by decide)) ?_
    walk_at "rd"
    refine RD.d_rI (wm sb sd (by decide) (by decide) (by decide)) ?_
    walk_at "rd"
    refine ⟨z, _, _, _, rfl, hz, bd_div nbd (up2 s1 (by decide)) (up2 bd (by decide)), nbd, up2 s1 (by decide), up2 bd (by decide), rfl, fun H2 t2 => ?_⟩
    walk_at "rd"
    have t12 := t1.trans t2
    refine bin2 T (g := fun p q => p - q) (g' := fun p q => q - p) rfl (hx.same t12) (hy.same t12) hxy bp bq (fun z H3 t3 hz => ?_)
    have hz' : RatAt T.C_Ratio H3 z (Rat.divInt a b - Rat.divInt c d) := hz
    rw [Rat.divInt_sub_divInt _ _ nb nd] at hz'
    walk_at "rd"
    refine RD.d_rI (wm sa sd (by decide) (by decide) (by decide)) ?_
    walk_at "rd"
    refine RD.d_rI (wm sc sb (by decide) (by decide) (by decide)) ?_
    walk_at "rd"
    refine RD.d_rI (wm sb sd (by decide) (by decide) (by decide)) ?_
    walk_at "rd"
    refine ⟨z, _, _, _, rfl, hz', bd_div nbd (up2 s2 (by decide)) (up2 bd (by decide)), nbd, up2 s2 (by decide), up2 bd (by decide), rfl, fun H4 t4 => ?_⟩
    walk_at "rd"
    have t14 := (t12.trans t3).trans t4
    refine bin2 T (g := fun p q => p * q) (g' := fun p q => q * p) rfl (hx.same t14) (hy.same t14) hxy bp bq (fun z H5 t5 hz => ?_)
    have hz' : RatAt T.C_Ratio H5 z (Rat.divInt a b * Rat.divInt c d) := hz
    rw [Rat.divInt_mul_divInt] at hz'
    walk_at "rd"
    refine RD.d_rI (wm sa sc (by decide) (by decide) (by decide)) ?_
    walk_at "rd"
    refine RD.d_rI (wm sb sd (by decide) (by decide) (by decide)) ?_
    walk_at "rd"
    exact ⟨z, _, _, _, rfl, hz', bd_div nbd (up2 ac (by decide)) (up2 bd (by decide)), nbd, up2 ac (by decide), up2 bd (by decide), rfl, fun H6 t6 => k H6 ((t14.trans t5).trans t6)⟩
end

def spRefused (K : PySem.W.Frag) (C : Addr) : Sp := fun vs H Q _ => ∃ (kind : Int) (a : Addr) (y : V) (p : Rat), vs = [.int kind, .ref a, y] ∧ RatAt C H a p ∧ Bd 2000 p ∧ ((kind = 0 ∧ Num C H y 0) ∨ NoNum K C H y) ∧
  ∀ (H' : Hp) (pt : Addr), Same H H' → H pt = none → H' pt = some (.tup [.str "number", y]) → Q (.ref pt) H'
section
variable {P : Program} {w : World} {K : PySem.W.Frag} {mg : Str → Option Value} {base : Heap}
theorem lk_no {q : Rat} {m : Str} (h1 : (m == ("top" : Str)) = false) (h2 : (m == ("bottom" : Str)) = false) : (ratF q).lookup m = none := by unfold ratF; simp [List.lookup, h1, h2]
theorem ok_law_refused (T : Top K mg) : FnOk P w K mg base CX0 9 T.f_law_refused T.fd_law_refused ["kind", "ratio", "other"] (spRefused K T.C_Ratio) := by
  refine T.F_law_refused.ok sc_law_refused (fun vs H Q E h => ?_) (fun cdv A outer s H vs Q E hr h => ?_)
  · obtain ⟨kind, a, y, p, rfl, _⟩ := h; rfl
  · obtain ⟨kind, a, y, p, rfl, ha, bp, hy, k⟩ := h
    refine ⟨_, (pss_cons (ps_set (i := 3) sc_law_refused.nd rfl (Or.inl rfl) (pe_tup (pa_cons pe_str (pa_cons pe_int pa_nil))))
 (pss_cons (ps_try_as (i := 4) (Wout := fun _ _ _ _ => False) rfl rfl sc_law_refused.nd rfl rfl ⟨rfl, by decide, Or.inl T.g_BadNumber⟩ takes0 (fun W pn xe tk _ => (pss_one (ps_if (pt_cmpR op_eq (pv 0) pe_int (nomark _))
 (pss_one (ps_expr (OQ.pe_methX (pv 1) T.cl_Ratio T.m_Ratio_over (ok_Ratio_over T) (hr.mono (by decide)) T.b_Ratio_over .nil (fun σ => passAt tk σ) (pa_cons (pv 2) pa_nil))))
 (pss_one (ps_expr (OQ.pe_methX (pv 1) T.cl_Ratio T.m_Ratio_less (ok_Ratio_less T) (hr.mono (by decide)) T.b_Ratio_less .nil (fun σ => passAt tk σ) (pa_cons (pv 2) pa_nil))))))) (fun a oe cls d pn hz hf => (pss_one (ps_set (i := 3) sc_law_refused.nd rfl (Or.inl rfl) (pe_tup (pa_cons pe_str (pa_cons (pe_xf T.xf_BadNumber T.v_BadNumber hz hf (pv 4)) pa_nil)))))))
 (pss_one (ps_ret (pv 3))))), ?_⟩
    walk_at "rd"
    refine ⟨by show 2 ≤ sizeLine; decide, fun p0 hp0 => ?_⟩
    have s0 : Same H (upd H p0 (.tup [.str "none", .int 0])) := same_upd hp0
    walk_at "rd"
    obtain ⟨dx, ea⟩ := ha.same s0
    refine RD.iteD (fun c => ?_) (fun c => ?_)
    · walk_at "rd"
      refine ⟨a, dx, _, rfl, ea, lk_no (by decide +kernel) (by decide +kernel), ?_⟩
      walk_at "rd"
      refine ⟨a, y, p, rfl, ⟨dx, ea⟩, bp, .inr ⟨hy.imp (fun z => z.2.same s0) (fun z => z.same s0), fun d H1 s1 hd ed => ?_⟩⟩
      have s01 := s0.trans s1
      refine ⟨true, T.exm, fun _ u hu => ?_, fun q => Bool.noConfusion q⟩
      walk_at "rd"
      refine ⟨rfl, rfl, d, _, _, rfl, ed, errD_v _, ?_⟩
      walk_at "rd"
      refine ⟨by show 2 ≤ sizeLine; decide, fun p2 hp2 => ?_⟩
      walk_at "rd"
      exact k _ p2 (s01.trans (same_upd hp2)) (s01.free hp2) upd_same
    · rcases hy with ⟨z, _⟩ | hy
      · exact absurd z c
      walk_at "rd"
      refine ⟨a, dx, _, rfl, ea, lk_no (by decide +kernel) (by decide +kernel), ?_⟩
      walk_at "rd"
      refine ⟨a, y, p, rfl, ⟨dx, ea⟩, bp, .inr ⟨hy.same s0, fun d H1 s1 hd ed => ?_⟩⟩
      have s01 := s0.trans s1
      refine ⟨true, T.exm, fun _ u hu => ?_, fun q => Bool.noConfusion q⟩
      walk_at "rd"
      refine ⟨rfl, rfl, d, _, _, rfl, ed, errD_v _, ?_⟩
      walk_at "rd"
      refine ⟨by show 2 ≤ sizeLine; decide, fun p2 hp2 => ?_⟩
      walk_at "rd"
      exact k _ p2 (s01.trans (same_upd hp2)) (s01.free hp2) upd_same
end

theorem lt_sign {a b c d : Int} (nb : b ≠ 0) (nd : d ≠ 0) (sg : Int) (hs : sg = if b * d < 0 then -1 else 1) : (Rat.divInt a b < Rat.divInt c d) ↔ a * d * sg < c * b * sg := by
  have h1 : (Rat.divInt a b).num * b = a * ((Rat.divInt a b).den : Int) := (Rat.divInt_eq_divInt_iff (by have := den_pos (Rat.divInt a b); omega) nb).mp (Rat.num_divInt_den _)
  have h2 : (Rat.divInt c d).num * d = c * ((Rat.divInt c d).den : Int) := (Rat.divInt_eq_divInt_iff (by have := den_pos (Rat.divInt c d); omega) nd).mp (Rat.num_divInt_den _)
  have u0 := den_pos (Rat.divInt a b)
  have v0 := den_pos (Rat.divInt c d)
  rw [Rat.lt_iff]
  generalize (Rat.divInt a b).num = P at *
  generalize (Rat.divInt c d).num = Q at *
  generalize ((Rat.divInt a b).den : Int) = u at *
  generalize ((Rat.divInt c d).den : Int) = v at *
  have nbd : b * d ≠ 0 := Int.mul_ne_zero nb nd
  have hm : 0 < b * d * sg := by rw [hs]; split <;> omega
  have huv : 0 < u * v := Int.mul_pos u0 v0
  have e1 : (P * v) * (b * d * sg) = (a * d * sg) * (u * v) := by
    have : (P * v) * (b * d * sg) = (P * b) * (v * d * sg) := by ac_rfl
    rw [this, h1]; ac_rfl
  have e2 : (Q * u) * (b * d * sg) = (c * b * sg) * (u * v) := by
    have : (Q * u) * (b * d * sg) = (Q * d) * (u * b * sg) := by ac_rfl
    rw [this, h2]; ac_rfl
  constructor
  · intro h
    have := Int.mul_lt_mul_of_pos_right h hm
    rw [e1, e2] at this
    exact Int.lt_of_mul_lt_mul_right this (Int.le_of_lt huv)
  · intro h
    have := Int.mul_lt_mul_of_pos_right h huv
    rw [← e1, ← e2] at this
    exact Int.lt_of_mul_lt_mul_right this (Int.le_of_lt hm)
theorem lt_whole {a b w : Int} (nb : b ≠ 0) : (Rat.divInt a b < (w : Rat)) ↔ (a - w * b) * b < 0 := by
  rw [← rat_one w, lt_sign (c := w) nb (d := 1) (by decide) _ rfl, Int.mul_one, Int.mul_one]
  have e : (a - w * b) * b = a * b - w * b * b := Int.sub_mul _ _ _
  rw [e]
  split
  · rename_i h
    have e1 : a * b - w * b * b = (a - w * b) * b := (Int.sub_mul _ _ _).symm
    rw [e1]
    constructor
    · intro q
      have : 0 < a - w * b := by omega
      exact Int.mul_neg_of_pos_of_neg this h
    · intro q
      rcases Int.lt_or_le 0 (a - w * b) with z | z
      · omega
      · have := Int.mul_nonneg_of_nonpos_of_nonpos z (Int.le_of_lt h)
        omega
  · rename_i h
    have hb : 0 < b := by omega
    have e1 : a * b - w * b * b = (a - w * b) * b := (Int.sub_mul _ _ _).symm
    rw [e1]
    constructor
    · intro q
      have : a - w * b < 0 := by omega
      exact Int.mul_neg_of_neg_of_pos this hb
    · intro q
      rcases Int.lt_or_le (a - w * b) 0 with z | z
      · omega
      · have := Int.mul_nonneg z (Int.le_of_lt hb)
        omega
theorem div_two {a b c d : Int} : Rat.divInt a b / Rat.divInt c d = Rat.divInt (a * d) (b * c) := by
  rw [Rat.div_def, Rat.inv_divInt, Rat.divInt_mul_divInt]
theorem divInt_ne {c d : Int} (nc : c ≠ 0) (nd : d ≠ 0) : Rat.divInt c d ≠ 0 := fun z => by
  have e : Rat.divInt c d = Rat.divInt 0 1 := by rw [z]; rfl
  rw [Rat.divInt_eq_divInt_iff nd (by decide)] at e
  omega
theorem divInt_zero {d : Int} (nd : d ≠ 0) : Rat.divInt 0 d = 0 := by
  have e : Rat.divInt 0 d = Rat.divInt 0 1 := by rw [Rat.divInt_eq_divInt_iff nd (by decide)]; omega
  rw [e]; rfl
theorem tyX_but {K : PySem.W.Frag} {H H' : Hp} {h : Addr} {x : V} {t : Value} (ty : TyX K H x t) (hd : HandAt H h) (hd' : HandAt H' h) (b : But h H H') : TyX K H' x t := by
  obtain ⟨c, cs, p, q, m, n, e1, _⟩ := hd
  obtain ⟨c', cs', p', q', m', n', e1', _⟩ := hd'
  have mv : ∀ {a : Addr} {u : HO}, H a = some u → u ≠ .lst (handV c p q m n) → H' a = some u := fun {a u} e d => by
    rw [b a (fun z => by subst z; rw [e1] at e; exact d (Option.some.inj e).symm)]; exact e
  cases ty with
  | base y =>
    refine .base ?_
    cases y with
    | non => exact .non
    | bl x => exact .bl x
    | int i => exact .int i
    | str x => exact .str x
    | flt x => exact .flt x
    | @lst a xs e =>
      by_cases z : a = h
      · subst z; exact .lst e1'
      · exact .lst (by rw [b a z]; exact e)
    | frz e => exact .frz (mv e (by intro z; cases z))
    | tup e => exact .tup (mv e (by intro z; cases z))
    | dK e => exact .dK (mv e (by intro z; cases z))
    | dT e => exact .dT (mv e (by intro z; cases z))
    | ins e cl a n k m => exact .ins (mv e (by intro z; cases z)) cl a n k m
  | byt b => exact .byt b
  | set e => exact .set (mv e (by intro z; cases z))
  | kList e c => exact .kList e c
  | kTuple e c => exact .kTuple e c
  | kDict e c => exact .kDict e c
  | fTuple e => exact .fTuple (mv e (by intro z; cases z))
  | fDict e => exact .fDict (mv e (by intro z; cases z))
theorem NoNum.but {K : PySem.W.Frag} {C h : Addr} {H H' : Hp} {y : V} (n : NoNum K C H y) (hd : HandAt H h) (hd' : HandAt H' h) (b : But h H H') : NoNum K C H' y := by
  obtain ⟨t, ty, e, t', b1, b2, ty', e1, e2, e3⟩ := n
  exact ⟨t, tyX_but ty hd hd' b, e, t', b1, b2, tyX_but ty' hd hd' b, e1, e2, e3⟩
theorem ratAt_but {C h : Addr} {H H' : Hp} {a : Addr} {q : Rat} (r : RatAt C H a q) (hd : HandAt H h) (b : But h H H') : RatAt C H' a q := by
  obtain ⟨c, cs, p, q', m, n, e1, _⟩ := hd
  obtain ⟨dx, e⟩ := r
  exact ⟨dx, by rw [b a (fun z => by subst z; rw [e1] at e; cases e)]; exact e⟩
section
variable {K : PySem.W.Frag} {mg : Str → Option Value} {H : Hp} {Q : VK} {E : XK}
theorem eq_rr (T : Top K mg) {x y : Addr} {p q : Rat} (hx : RatAt T.C_Ratio H x p) (hy : RatAt T.C_Ratio H y q) (k : Q (.bl (decide (p = q))) H) : OQ.rOwnEq K T.C_Ratio (spEq K T.C_Ratio) E (.ref x) (.ref y) H Q := by
  obtain ⟨dx, e⟩ := id hx
  exact ⟨x, dx, _, _, rfl, e, tyR T hy, T.nfR, x, p, .ref y, rfl, hx, .inl ⟨y, q, rfl, hy, k⟩⟩
theorem eq_ri (T : Top K mg) {x : Addr} {p : Rat} {i : Int} (hx : RatAt T.C_Ratio H x p) (k : Q (.bl (decide (p = (i : Rat)))) H) : OQ.rOwnEq K T.C_Ratio (spEq K T.C_Ratio) E (.ref x) (.int i) H Q := by
  obtain ⟨dx, e⟩ := id hx
  exact ⟨x, dx, _, _, rfl, e, .base (.int i), (T.kT "int" (by simp)).2, x, p, .int i, rfl, hx, .inr (.inl ⟨i, rfl, k⟩)⟩
end
theorem d_neB {H : Hp} {Q : VK} {i j : Bool} (h : Q (.bl (!decide (i = j))) H) : rNe (.bl i) (.bl j) H Q := ⟨rfl, by
  have e : decide (V.bl i = V.bl j) = decide (i = j) := by rw [dec_bl, Bool.eq_iff_iff]; simp
  rw [e]; exact h⟩
theorem d_gtupN {K : PySem.W.Frag} {p : Addr} {v w : V} {i j : Nat} {σ : L2.St} {H : Hp} {R : L2.St → Hp → Prop} (hs : SqT K H p [v, w]) (h : R ((σ.set i (some v)).set j (some w)) H) :
    gTup K 2 (gCons (gName i) (gCons (gName j) gNil)) (.ref p) σ H R := ⟨p, [v, w], rfl, hs, rfl, v, [w], rfl, w, [], rfl, rfl, h⟩
/-- what stands between the law's questions -/
def Fx2 (C : Addr) (H : Hp) (h x y : Addr) (p q : Rat) : Prop := HandAt H h ∧ RatAt C H x p ∧ RatAt C H y q
theorem Fx2.same {C : Addr} {H H' : Hp} {h x y : Addr} {p q : Rat} (f : Fx2 C H h x y p q) (s : Same H H') : Fx2 C H' h x y p q := ⟨f.1.same s, f.2.1.same s, f.2.2.same s⟩
theorem Fx2.but {C : Addr} {H H' : Hp} {h x y : Addr} {p q : Rat} (f : Fx2 C H h x y p q) (hd : HandAt H' h) (b : But h H H') : Fx2 C H' h x y p q := ⟨hd, ratAt_but f.2.1 f.1 b, ratAt_but f.2.2 f.1 b⟩
def spLaw (K : PySem.W.Frag) : Sp := fun vs H Q _ => ∃ (a : Addr) (ns : List Int), vs = [.ref a] ∧ SqL K H a (ns.map V.int) ∧ ns.length ≤ 63 ∧ ∀ H', Q (.bl true) H'
def OddN (K : PySem.W.Frag) (C : Addr) (H : Hp) (x : V) : Prop := NoNum K C H x ∧ OQ.SameIt x

section
variable {P : Program} {w : World} {K : PySem.W.Frag} {mg : Str → Option Value} {base : Heap}
theorem ok_law (T : Top K mg) : FnOk P w K mg base CX0 12 T.f_law T.fd_law ["script"] (spLaw K) := by
  refine T.F_law.ok sc_law (fun vs H Q E h => ?_) (fun cdv A outer s H vs Q E hr h => ?_)
  · obtain ⟨a, ns, rfl, _⟩ := h; rfl
  · obtain ⟨ad, ns, rfl, hS, hl, k⟩ := h
    obtain ⟨ds1, hv_Ratio__init, hb_Ratio__init⟩ := T.b1_Ratio__init
    refine ⟨_, (pss_cons (ps_set (i := 1) sc_law.nd rfl (Or.inl rfl) (pe_call (ok_law_hand T) (hr.mono (by decide)) (by rfl) T.g_law_hand T.F_law_hand.kp T.b_law_hand .nil pass0 (pa_cons (pv 0) pa_nil)))
 (pss_cons (ps_for PassesOwn.never rfl (pi_range1 (by rfl) T.n_range (pa_cons pe_int pa_nil)) (pg_name (i := 2) sc_law.nd rfl (Or.inl rfl))
 (pss_cons (ps_asg (pe_call (ok_law_pair T) (hr.mono (by decide)) (by rfl) T.g_law_pair T.F_law_pair.kp T.b_law_pair .nil pass0 (pa_cons (pv 1) pa_nil)) (pg_tup (by rfl) (pgs_cons (pg_name (i := 3) sc_law.nd rfl (Or.inl rfl)) (pgs_cons (pg_name (i := 4) sc_law.nd rfl (Or.inl rfl)) pgs_nil))))
 (pss_cons (ps_asg (pe_call (ok_law_pair T) (hr.mono (by decide)) (by rfl) T.g_law_pair T.F_law_pair.kp T.b_law_pair .nil pass0 (pa_cons (pv 1) pa_nil)) (pg_tup (by rfl) (pgs_cons (pg_name (i := 5) sc_law.nd rfl (Or.inl rfl)) (pgs_cons (pg_name (i := 6) sc_law.nd rfl (Or.inl rfl)) pgs_nil))))
 (pss_cons (ps_set (i := 7) sc_law.nd rfl (Or.inl rfl) (pe_call (ok_law_number T) (hr.mono (by decide)) (by rfl) T.g_law_number T.F_law_number.kp T.b_law_number .nil pass0 (pa_cons (pv 1) pa_nil)))
 (pss_cons (ps_set (i := 8) sc_law.nd rfl (Or.inl rfl) (pe_make T.M_Ratio (ok_Ratio__init T) (hr.mono (by decide)) (by rfl) T.g_Ratio T.b_Ratio__init .nil OQ.passN (pa_cons (pv 3) (pa_cons (pv 4) pa_nil))))
 (C8.pss_cut (ps_set (i := 9) sc_law.nd rfl (Or.inl rfl) (pe_make T.M_Ratio (ok_Ratio__init T) (hr.mono (by decide)) (by rfl) T.g_Ratio T.b_Ratio__init .nil OQ.passN (pa_cons (pv 5) (pa_cons (pv 6) pa_nil))))
 (C8.pss_cut (ps_if (PW.pt (pw_or (pt_not (pt_val (pe_call (ok_law_right T) (hr.mono (by decide)) (by rfl) T.g_law_right T.F_law_right.kp T.b_law_right .nil pass0 (pa_cons (pv 8) (pa_cons (pv 9) (pa_cons (pv 3) (pa_cons (pv 4) (pa_cons (pv 5) (pa_cons (pv 6) pa_nil))))))))) (pw_or1 (pt_not (pt_val (pe_call (ok_law_right T) (hr.mono (by decide)) (by rfl) T.g_law_right T.F_law_right.kp T.b_law_right .nil pass0 (pa_cons (pv 8) (pa_cons (pv 8) (pa_cons (pv 3) (pa_cons (pv 4) (pa_cons (pv 3) (pa_cons (pv 4) pa_nil))))))))))))
 (pss_one (ps_ret pe_bl))
 pss_nil)
 (C8.pss_cut (ps_if (PW.pt (pw_or (pt_not (pt_val (pe_call (ok_law_right T) (hr.mono (by decide)) (by rfl) T.g_law_right T.F_law_right.kp T.b_law_right .nil pass0 (pa_cons (pv 8) (pa_cons (pv 7) (pa_cons (pv 3) (pa_cons (pv 4) (pa_cons (pv 7) (pa_cons pe_int pa_nil))))))))) (pw_or1 (pt_not (pt_val (pe_call (ok_law_right T) (hr.mono (by decide)) (by rfl) T.g_law_right T.F_law_right.kp T.b_law_right .nil pass0 (pa_cons (pv 7) (pa_cons (pv 9) (pa_cons (pv 7) (pa_cons pe_int (pa_cons (pv 5) (pa_cons (pv 6) pa_nil))))))))))))
 (pss_one (ps_ret pe_bl))
 pss_nil)
 (C8.pss_cut (ps_if (PW.pt (pw_or (pt_not (pt_val (pe_call (ok_law_is T) (hr.mono (by decide)) (by rfl) T.g_law_is T.F_law_is.kp T.b_law_is .nil pass0 (pa_cons (pe_un (OQ.un_ownNeg (ok_Ratio__neg T) (hr.mono (by decide)) T.m_Ratio__neg.at_ T.m_Ratio__neg.fn T.b_Ratio__neg pass0) (pv 8)) (pa_cons (pe_op op_sub pe_int (pv 3)) (pa_cons (pv 4) pa_nil)))))) (pw_or1 (pt_not (pt_val (pe_call (ok_law_is T) (hr.mono (by decide)) (by rfl) T.g_law_is T.F_law_is.kp T.b_law_is .nil pass0 (pa_cons (pe_un (OQ.un_ownNeg (ok_Ratio__neg T) (hr.mono (by decide)) T.m_Ratio__neg.at_ T.m_Ratio__neg.fn T.b_Ratio__neg pass0) (pe_un (OQ.un_ownNeg (ok_Ratio__neg T) (hr.mono (by decide)) T.m_Ratio__neg.at_ T.m_Ratio__neg.fn T.b_Ratio__neg pass0) (pv 8))) (pa_cons (pv 3) (pa_cons (pv 4) pa_nil)))))))))
 (pss_one (ps_ret pe_bl))
 pss_nil)
 (pss_cons (ps_set (i := 10) sc_law.nd rfl (Or.inl rfl) pe_int)
 (C8.pss_cut (ps_if (pt_cmpR op_lt (pe_op op_mulW (pv 4) (pv 6)) pe_int (nomark _))
 (pss_one (ps_set (i := 10) sc_law.nd rfl (Or.inl rfl) (pe_un un_neg pe_int)))
 pss_nil)
 (pss_cons (ps_set (i := 11) sc_law.nd rfl (Or.inl rfl) (pe_meth (pv 8) T.cl_Ratio T.m_Ratio_less (ok_Ratio_less T) (hr.mono (by decide)) T.b_Ratio_less .nil OQ.passN (pa_cons (pv 9) pa_nil)))
 (C8.pss_cut (ps_if (PW.pt (pw_or (pt_not (pt_val (pe_callB call_isi (by rfl) T.n_isinstance (by decide +kernel) (pa_cons (pv 11) (pa_cons (pe_bltn (v := V.ty "bool") (by rfl) T.n_bool (by decide +kernel) rfl) pa_nil))))) (pw_or1 (pt_cmpR op_ne (pv 11) (pe_cmpR op_lt (pe_op op_mulW (pe_op op_mulW (pv 3) (pv 6)) (pv 10)) (pe_op op_mulW (pe_op op_mulW (pv 5) (pv 4)) (pv 10)) (nomark _)) (nomark _)))))
 (pss_one (ps_ret pe_bl))
 pss_nil)
 (C8.pss_cut (ps_if (PW.pt (pw_or (pt_cmpR op_isnot_bl (pe_meth (pv 8) T.cl_Ratio T.m_Ratio_less (ok_Ratio_less T) (hr.mono (by decide)) T.b_Ratio_less .nil OQ.passN (pa_cons (pv 8) pa_nil)) pe_bl (nomark _)) (pw_or1 (pt_cmpR op_ne (pe_meth (pv 8) T.cl_Ratio T.m_Ratio_less (ok_Ratio_less T) (hr.mono (by decide)) T.b_Ratio_less .nil OQ.passN (pa_cons (pv 7) pa_nil)) (pe_cmpR op_lt (pe_op op_mulW (pe_op op_sub (pv 3) (pe_op op_mulW (pv 7) (pv 4))) (pv 4)) pe_int (nomark _)) (nomark _)))))
 (pss_one (ps_ret pe_bl))
 pss_nil)
 (C8.pss_cut (ps_if (PW.pt (pw_and (pt_cmpR op_ne (pv 5) pe_int (nomark _)) (pw_and1 (pt_not (pt_val (pe_call (ok_law_is T) (hr.mono (by decide)) (by rfl) T.g_law_is T.F_law_is.kp T.b_law_is .nil pass0 (pa_cons (pe_meth (pv 8) T.cl_Ratio T.m_Ratio_over (ok_Ratio_over T) (hr.mono (by decide)) T.b_Ratio_over .nil OQ.passN (pa_cons (pv 9) pa_nil)) (pa_cons (pe_op op_mulW (pv 3) (pv 6)) (pa_cons (pe_op op_mulW (pv 4) (pv 5)) pa_nil)))))))))
 (pss_one (ps_ret pe_bl))
 pss_nil)
 (C8.pss_cut (ps_if (PW.pt (pw_and (pt_cmpR op_ne (pv 7) pe_int (nomark _)) (pw_and1 (pt_not (pt_val (pe_call (ok_law_is T) (hr.mono (by decide)) (by rfl) T.g_law_is T.F_law_is.kp T.b_law_is .nil pass0 (pa_cons (pe_meth (pv 8) T.cl_Ratio T.m_Ratio_over (ok_Ratio_over T) (hr.mono (by decide)) T.b_Ratio_over .nil OQ.passN (pa_cons (pv 7) pa_nil)) (pa_cons (pv 3) (pa_cons (pe_op op_mulW (pv 4) (pv 7)) pa_nil)))))))))
 (pss_one (ps_ret pe_bl))
 pss_nil)
 (C8.pss_cut (ps_for PassesOwn.never rfl (pi_list (pe_lst (pa_cons pe_int (pa_cons (pe_make T.M_Ratio (ok_Ratio__init T) (hr.mono (by decide)) (by rfl) T.g_Ratio hb_Ratio__init hv_Ratio__init OQ.passN (pa_cons pe_int pa_nil)) (pa_cons (pe_make T.M_Ratio (ok_Ratio__init T) (hr.mono (by decide)) (by rfl) T.g_Ratio T.b_Ratio__init .nil OQ.passN (pa_cons pe_int (pa_cons (pv 6) pa_nil))) pa_nil))))) (pg_name (i := 12) sc_law.nd rfl (Or.inl rfl))
 (pss_cons (ps_set (i := 13) sc_law.nd rfl (Or.inl rfl) (pe_call (ok_law_refused T) (hr.mono (by decide)) (by rfl) T.g_law_refused T.F_law_refused.kp T.b_law_refused .nil pass0 (pa_cons pe_int (pa_cons (pv 8) (pa_cons (pv 12) pa_nil)))))
 (pss_one (ps_if (PW.pt (pw_or (pt_cmpR op_ne (pe_ix ix_tup (pv 13) pe_int (fun _ _ => rfl)) pe_str (nomark _)) (pw_or (pt_not (pt_cmpR (OQ.op_or op_eq (OQ.op_ownEq (ok_Ratio__eq T) (hr.mono (by decide)) T.m_Ratio__eq.at_ T.m_Ratio__eq.fn T.b_Ratio__eq pass0)) (pe_ix ix_tup (pv 13) pe_int (fun _ _ => rfl)) pe_int (nomark _))) (pw_or1 (pt_val (pe_callB call_isi (by rfl) T.n_isinstance (by decide +kernel) (pa_cons (pe_ix ix_tup (pv 13) pe_int (fun _ _ => rfl)) (pa_cons (pe_bltn (v := V.ty "bool") (by rfl) T.n_bool (by decide +kernel) rfl) pa_nil))))))))
 (pss_one (ps_ret pe_bl))
 pss_nil))))
 (C8.pss_cut (ps_set (i := 14) sc_law.nd rfl (Or.inl rfl) (pe_ix ix_list (pe_lst (pa_cons pe_non (pa_cons pe_bl (pa_cons pe_bl (pa_cons pe_str (pa_cons pe_str (pa_cons (pe_tup (pa_cons pe_int pa_nil)) (pa_cons (pe_lst (pa_cons pe_int pa_nil)) (pa_cons pe_dnewK pa_nil))))))))) (pe_call (ok_law_draw T) (hr.mono (by decide)) (by rfl) T.g_law_draw T.F_law_draw.kp T.b_law_draw .nil pass0 (pa_cons (pv 1) (pa_cons pe_int pa_nil))) (fun _ _ => rfl)))
 (C8.pss_cut (ps_for PassesOwn.never rfl (pi_range1 (by rfl) T.n_range (pa_cons pe_int pa_nil)) (pg_name (i := 15) sc_law.nd rfl (Or.inl rfl))
 (pss_cons (ps_set (i := 13) sc_law.nd rfl (Or.inl rfl) (pe_call (ok_law_refused T) (hr.mono (by decide)) (by rfl) T.g_law_refused T.F_law_refused.kp T.b_law_refused .nil pass0 (pa_cons (pv 15) (pa_cons (pv 8) (pa_cons (pv 14) pa_nil)))))
 (pss_one (ps_if (PW.pt (pw_or (pt_cmpR (OQ.op_neTS hr.units0) (pv 13) (pe_tup (pa_cons pe_str (pa_cons (pv 14) pa_nil))) (nomark _)) (pw_or1 (pt_cmpR op_ne (pe_callB call_isi (by rfl) T.n_isinstance (by decide +kernel) (pa_cons (pe_ix ix_tup (pv 13) pe_int (fun _ _ => rfl)) (pa_cons (pe_bltn (v := V.ty "bool") (by rfl) T.n_bool (by decide +kernel) rfl) pa_nil))) (pe_callB call_isi (by rfl) T.n_isinstance (by decide +kernel) (pa_cons (pv 14) (pa_cons (pe_bltn (v := V.ty "bool") (by rfl) T.n_bool (by decide +kernel) rfl) pa_nil))) (nomark _)))))
 (pss_one (ps_ret pe_bl))
 pss_nil))))
 (pss_one (ps_if (PW.pt (pw_or (pt_not (pt_val (pe_call (ok_law_is T) (hr.mono (by decide)) (by rfl) T.g_law_is T.F_law_is.kp T.b_law_is .nil pass0 (pa_cons (pv 8) (pa_cons (pv 3) (pa_cons (pv 4) pa_nil)))))) (pw_or1 (pt_not (pt_val (pe_call (ok_law_is T) (hr.mono (by decide)) (by rfl) T.g_law_is T.F_law_is.kp T.b_law_is .nil pass0 (pa_cons (pv 9) (pa_cons (pv 5) (pa_cons (pv 6) pa_nil)))))))))
 (pss_one (ps_ret pe_bl))
 pss_nil)))))))))))))))))))))
 (pss_one (ps_ret pe_bl)))), ?_⟩
    walk_at "rd"
    refine ⟨ad, ns, rfl, hS, hl, fun h H1 hd1 _ _ => ?_⟩
    walk_at "rd"
    refine ⟨3, rfl, by decide, by decide, ?_⟩
    refine RD.f_range (lo := 0) (n := 3) (fun t σ' H' => ∃ v2 v3 v4 v5 v6 v7 v8 v9 v10 v11 v12 v13 v14 v15 : Option V, σ' = [some (.ref ad), some (.ref h), v2, v3, v4, v5, v6, v7, v8, v9, v10, v11, v12, v13, v14, v15] ∧ HandAt H' h) ⟨none, none, none, none, none, none, none, none, none, none, none, none, none, none, rfl, hd1⟩ ?_ ?_
    · rintro t σ' H' ht ⟨v2, v3, v4, v5, v6, v7, v8, v9, v10, v11, v12, v13, v14, v15, rfl, hd⟩
      walk_at "rd"
      refine ⟨h, rfl, hd, fun a b p1 H2 sa sb nb hd2 ep1 np1 k1 => ?_⟩
      walk_at "rd"
      refine d_gtupN (SqT.of ep1) ?_
      walk_at "rd"
      refine ⟨h, rfl, hd2, fun c d p2 H3 sc sd nd hd3 ep2 np2 k2 => ?_⟩
      walk_at "rd"
      refine d_gtupN (SqT.of ep2) ?_
      walk_at "rd"
      refine ⟨h, rfl, hd3, fun wh H4 sw hd4 b4 => ?_⟩
      walk_at "rd"
      have bp : Bd 2000 (Rat.divInt a b) := (bd_div nb sa sb).mono (by decide)
      have bq : Bd 2000 (Rat.divInt c d) := (bd_div nd sc sd).mono (by decide)
      have bw : Bd 2000 (wh : Rat) := ⟨by rw [Rat.num_intCast]; exact up2 sw (by decide), by rw [Rat.den_intCast]; decide⟩
      have sad := wide_lt sa sd
      have scb := wide_lt sc sb
      have s1 : Small 1 := by unfold Small; decide
      refine mk_rat T nb (small_log sb) (fun x H5 s5 nx hx => ?_)
      walk_at "rd"
      refine RD.d_cut (fun σ' Hq => ∃ (y : Addr) (w10 w11 w12 w13 w14 w15 : Option V), Fx2 T.C_Ratio Hq h x y (Rat.divInt a b) (Rat.divInt c d) ∧ σ' = [some (.ref ad), some (.ref h), some (.int (0 + t)), some (.int a), some (.int b), some (.int c), some (.int d), some (.int wh), some (.ref x), some (.ref y), w10, w11, w12, w13, w14, w15]) ?_ ?_
      · walk_at "rd"
        refine mk_rat T nd (small_log sd) (fun y H6 s6 ny hy => ?_)
        walk_at "rd"
        exact ⟨y, v10, v11, v12, v13, v14, v15, ⟨(hd4.same s5).same s6, hx.same s6, hy⟩, rfl⟩
      rintro σ' Hq ⟨y, w10, w11, w12, w13, w14, w15, fx, rfl⟩
      refine RD.d_cut (fun σ' Hq => ∃ (w10 w11 w12 w13 w14 w15 : Option V), Fx2 T.C_Ratio Hq h x y (Rat.divInt a b) (Rat.divInt c d) ∧ σ' = [some (.ref ad), some (.ref h), some (.int (0 + t)), some (.int a), some (.int b), some (.int c), some (.int d), some (.int wh), some (.ref x), some (.ref y), w10, w11, w12, w13, w14, w15]) ?_ ?_
      · obtain ⟨hh, hx, hy⟩ := id fx
        walk_at "rd"
        refine ⟨.ref x, .ref y, a, b, c, d, rfl, .inl ⟨x, rfl, hx⟩, .inl ⟨y, rfl, hy⟩, .inl ⟨x, rfl⟩, nb, nd, sa, sb, sc, sd, fun H6 s6 => ?_⟩
        walk_at "rd"
        refine ⟨.ref x, .ref x, a, b, a, b, rfl, .inl ⟨x, rfl, hx.same s6⟩, .inl ⟨x, rfl, hx.same s6⟩, .inl ⟨x, rfl⟩, nb, nb, sa, sb, sa, sb, fun H7 s7 => ?_⟩
        walk_at "rd"
        exact ⟨_, _, _, _, _, _, (fx.same s6).same s7, rfl⟩
      clear fx
      rintro σ' Hq ⟨w10, w11, w12, w13, w14, w15, fx, rfl⟩
      refine RD.d_cut (fun σ' Hq => ∃ (w10 w11 w12 w13 w14 w15 : Option V), Fx2 T.C_Ratio Hq h x y (Rat.divInt a b) (Rat.divInt c d) ∧ σ' = [some (.ref ad), some (.ref h), some (.int (0 + t)), some (.int a), some (.int b), some (.int c), some (.int d), some (.int wh), some (.ref x), some (.ref y), w10, w11, w12, w13, w14, w15]) ?_ ?_
      · obtain ⟨hh, hx, hy⟩ := id fx
        walk_at "rd"
        refine ⟨.ref x, .int wh, a, b, wh, 1, rfl, .inl ⟨x, rfl, hx⟩, .inr ⟨wh, rfl, rat_one wh⟩, .inl ⟨x, rfl⟩, nb, by decide, sa, sb, sw, s1, fun H6 s6 => ?_⟩
        walk_at "rd"
        refine ⟨.int wh, .ref y, wh, 1, c, d, rfl, .inr ⟨wh, rfl, rat_one wh⟩, .inl ⟨y, rfl, hy.same s6⟩, .inr ⟨y, rfl⟩, by decide, nd, sw, s1, sc, sd, fun H7 s7 => ?_⟩
        walk_at "rd"
        exact ⟨_, _, _, _, _, _, (fx.same s6).same s7, rfl⟩
      clear fx
      rintro σ' Hq ⟨w10, w11, w12, w13, w14, w15, fx, rfl⟩
      refine RD.d_cut (fun σ' Hq => ∃ (w10 w11 w12 w13 w14 w15 : Option V), Fx2 T.C_Ratio Hq h x y (Rat.divInt a b) (Rat.divInt c d) ∧ σ' = [some (.ref ad), some (.ref h), some (.int (0 + t)), some (.int a), some (.int b), some (.int c), some (.int d), some (.int wh), some (.ref x), some (.ref y), w10, w11, w12, w13, w14, w15]) ?_ ?_
      · obtain ⟨hh, hx, hy⟩ := id fx
        walk_at "rd"
        refine neg_r T hx (bp.mono (by decide)) (fun z H6 s6 hz => ?_)
        walk_at "rd"
        have sna : (0 - a).natAbs < 2 ^ 210 := by rw [Int.zero_sub, Int.natAbs_neg]; exact sa
        refine ⟨z, _, _, _, rfl, hz, bd_neg ((bd_div nb sa sb).mono (by decide)), nb, up2 sna (by decide), up2 sb (by decide), by rw [Rat.neg_divInt, Int.zero_sub], fun H7 s7 => ?_⟩
        walk_at "rd"
        refine neg_r T ((hx.same s6).same s7) (bp.mono (by decide)) (fun z2 H8 s8 hz2 => ?_)
        walk_at "rd"
        refine neg_r T hz2 ((bd_neg bp).mono (by decide)) (fun z3 H9 s9 hz3 => ?_)
        rw [Rat.neg_neg] at hz3
        walk_at "rd"
        refine ⟨z3, _, _, _, rfl, hz3, (bd_div nb sa sb).mono (by decide), nb, up2 sa (by decide), up2 sb (by decide), rfl, fun H10 s10 => ?_⟩
        walk_at "rd"
        exact ⟨_, _, _, _, _, _, ((((fx.same s6).same s7).same s8).same s9).same s10, rfl⟩
      clear fx
      rintro σ' Hq ⟨w10, w11, w12, w13, w14, w15, fx, rfl⟩
      walk_at "rd"
      refine RD.d_cut (fun σ' Hz => Hz = Hq ∧ σ' = [some (.ref ad), some (.ref h), some (.int (0 + t)), some (.int a), some (.int b), some (.int c), some (.int d), some (.int wh), some (.ref x), some (.ref y), some (.int (if b * d < 0 then -1 else 1)), w11, w12, w13, w14, w15]) ?_ ?_
      · walk_at "rd"
        refine RD.d_rI (wm sb sd (by decide) (by decide) (by decide)) ?_
        walk_at "rd"
        refine RD.iteD (fun e => ?_) (fun e => ?_)
        · walk_at "rd"
          exact ⟨rfl, by rw [if_pos e]; rfl⟩
        · walk_at "rd"
          exact ⟨rfl, by rw [if_neg e]; rfl⟩
      rintro σ' Hz ⟨rfl, rfl⟩
      obtain ⟨hh, hx, hy⟩ := id fx
      obtain ⟨dx, ex⟩ := id hx
      walk_at "rd"
      refine ⟨x, dx, _, rfl, ex, lk_no (by decide +kernel) (by decide +kernel), ?_⟩
      walk_at "rd"
      refine ⟨x, .ref y, _, rfl, hx, bp, .inl ⟨_, .inl ⟨y, rfl, hy⟩, bq, fun H6 s6 => ?_⟩⟩
      walk_at "rd"
      have hsg : (if b * d < 0 then (-1 : Int) else 1).natAbs < 2 ^ 1 := by split <;> decide
      generalize hgs : (if b * d < 0 then (-1 : Int) else 1) = sg at *
      refine RD.d_cut (fun σ' Hq => ∃ (w10 w11 w12 w13 w14 w15 : Option V), Fx2 T.C_Ratio Hq h x y (Rat.divInt a b) (Rat.divInt c d) ∧ σ' = [some (.ref ad), some (.ref h), some (.int (0 + t)), some (.int a), some (.int b), some (.int c), some (.int d), some (.int wh), some (.ref x), some (.ref y), w10, w11, w12, w13, w14, w15]) ?_ ?_
      · walk_at "rd"
        refine RD.d_isi (.ty _) (.base (.bl _)) (kit_ty (r := true) (by decide +kernel)) ?_
        walk_at "rd"
        refine RD.d_rI (wm sa sd (by decide) (by decide) (by decide)) ?_
        walk_at "rd"
        refine RD.d_rI (wm sad hsg (by decide) (by decide) (by decide)) ?_
        walk_at "rd"
        refine RD.d_rI (wm sc sb (by decide) (by decide) (by decide)) ?_
        walk_at "rd"
        refine RD.d_rI (wm scb hsg (by decide) (by decide) (by decide)) ?_
        walk_at "rd"
        refine d_neB ?_
        have e : decide (Rat.divInt a b < Rat.divInt c d) = decide (a * d * sg < c * b * sg) := by rw [decide_eq_decide]; exact lt_sign nb nd sg hgs.symm
        rw [e]
        refine RD.d_bl ?_
        refine RD.iteN (fun z => absurd rfl z) (fun _ => ?_)
        walk_at "rd"
        exact ⟨_, _, _, _, _, _, fx.same s6, rfl⟩
      clear fx hh hx hy ex
      rintro σ' Hq ⟨w10, w11, w12, w13, w14, w15, fx, rfl⟩
      refine RD.d_cut (fun σ' Hq => ∃ (w10 w11 w12 w13 w14 w15 : Option V), Fx2 T.C_Ratio Hq h x y (Rat.divInt a b) (Rat.divInt c d) ∧ σ' = [some (.ref ad), some (.ref h), some (.int (0 + t)), some (.int a), some (.int b), some (.int c), some (.int d), some (.int wh), some (.ref x), some (.ref y), w10, w11, w12, w13, w14, w15]) ?_ ?_
      · obtain ⟨hh, hx, hy⟩ := id fx
        obtain ⟨dx, ex⟩ := id hx
        walk_at "rd"
        refine ⟨x, dx, _, rfl, ex, lk_no (by decide +kernel) (by decide +kernel), ?_⟩
        walk_at "rd"
        refine ⟨x, .ref x, _, rfl, hx, bp, .inl ⟨_, .inl ⟨x, rfl, hx⟩, bp, fun H7 s7 => ?_⟩⟩
        have ir : decide (Rat.divInt a b < Rat.divInt a b) = false := decide_eq_false (fun z => by rw [Rat.lt_iff] at z; omega)
        rw [ir]
        walk_at "rd"
        refine ⟨_, _, rfl, rfl, ?_⟩
        refine RD.d_bl ?_
        refine RD.iteN (fun z => absurd rfl z) (fun _ => ?_)
        walk_at "rd"
        obtain ⟨dx', ex'⟩ := (hx.same s7)
        refine ⟨x, dx', _, rfl, ex', lk_no (by decide +kernel) (by decide +kernel), ?_⟩
        walk_at "rd"
        refine ⟨x, .int wh, _, rfl, hx.same s7, bp, .inl ⟨_, .inr ⟨wh, rfl, rfl⟩, bw, fun H8 s8 => ?_⟩⟩
        walk_at "rd"
        refine RD.d_rI (wm sw sb (by decide) (by decide) (by decide)) ?_
        walk_at "rd"
        have swb := two_sub (up2 sa (by decide : 210 ≤ 420)) (wide_lt sw sb)
        refine RD.d_rI (wm swb sb (by decide) (by decide) (by decide)) ?_
        walk_at "rd"
        refine d_neB ?_
        have e : decide (Rat.divInt a b < (wh : Rat)) = decide ((a - wh * b) * b < 0) := by rw [decide_eq_decide]; exact lt_whole nb
        rw [e]
        refine RD.d_bl ?_
        refine RD.iteN (fun z => absurd rfl z) (fun _ => ?_)
        walk_at "rd"
        exact ⟨_, _, _, _, _, _, (fx.same s7).same s8, rfl⟩
      clear fx
      rintro σ' Hq ⟨w10, w11, w12, w13, w14, w15, fx, rfl⟩
      refine RD.d_cut (fun σ' Hq => ∃ (w10 w11 w12 w13 w14 w15 : Option V), Fx2 T.C_Ratio Hq h x y (Rat.divInt a b) (Rat.divInt c d) ∧ σ' = [some (.ref ad), some (.ref h), some (.int (0 + t)), some (.int a), some (.int b), some (.int c), some (.int d), some (.int wh), some (.ref x), some (.ref y), w10, w11, w12, w13, w14, w15]) ?_ ?_
      · obtain ⟨hh, hx, hy⟩ := id fx
        obtain ⟨dx, ex⟩ := id hx
        walk_at "rd"
        refine RD.iteN (fun nc => ?_) (fun nc => ?_)
        · walk_at "rd"
          refine ⟨x, dx, _, rfl, ex, lk_no (by decide +kernel) (by decide +kernel), ?_⟩
          walk_at "rd"
          refine ⟨x, .ref y, _, rfl, hx, bp, .inl ⟨_, .inl ⟨y, rfl, hy⟩, bq, divInt_ne nc nd, fun z H7 s7 hz => ?_⟩⟩
          rw [div_two] at hz
          walk_at "rd"
          refine RD.d_rI (wm sa sd (by decide) (by decide) (by decide)) ?_
          walk_at "rd"
          refine RD.d_rI (wm sb sc (by decide) (by decide) (by decide)) ?_
          walk_at "rd"
          have nbc : b * c ≠ 0 := Int.mul_ne_zero nb nc
          have sbc := wide_lt sb sc
          refine ⟨z, _, _, _, rfl, hz, bd_div nbc (up2 sad (by decide)) (up2 sbc (by decide)), nbc, up2 sad (by decide), up2 sbc (by decide), rfl, fun H8 s8 => ?_⟩
          walk_at "rd"
          exact ⟨_, _, _, _, _, _, (fx.same s7).same s8, rfl⟩
        · walk_at "rd"
          exact ⟨_, _, _, _, _, _, fx, rfl⟩
      clear fx
      rintro σ' Hq ⟨w10, w11, w12, w13, w14, w15, fx, rfl⟩
      refine RD.d_cut (fun σ' Hq => ∃ (w10 w11 w12 w13 w14 w15 : Option V), Fx2 T.C_Ratio Hq h x y (Rat.divInt a b) (Rat.divInt c d) ∧ σ' = [some (.ref ad), some (.ref h), some (.int (0 + t)), some (.int a), some (.int b), some (.int c), some (.int d), some (.int wh), some (.ref x), some (.ref y), w10, w11, w12, w13, w14, w15]) ?_ ?_
      · obtain ⟨hh, hx, hy⟩ := id fx
        obtain ⟨dx, ex⟩ := id hx
        walk_at "rd"
        refine RD.iteN (fun nc => ?_) (fun nc => ?_)
        · walk_at "rd"
          refine ⟨x, dx, _, rfl, ex, lk_no (by decide +kernel) (by decide +kernel), ?_⟩
          walk_at "rd"
          refine ⟨x, .int wh, _, rfl, hx, bp, .inl ⟨_, .inr ⟨wh, rfl, rfl⟩, bw, (by rw [← rat_one]; exact divInt_ne nc (by decide)), fun z H7 s7 hz => ?_⟩⟩
          rw [← rat_one, div_two, Int.mul_one] at hz
          walk_at "rd"
          refine RD.d_rI (wm sb sw (by decide) (by decide) (by decide)) ?_
          walk_at "rd"
          have nbw : b * wh ≠ 0 := Int.mul_ne_zero nb nc
          have sbw := wide_lt sb sw
          refine ⟨z, _, _, _, rfl, hz, bd_div nbw (up2 sa (by decide)) (up2 sbw (by decide)), nbw, up2 sa (by decide), up2 sbw (by decide), rfl, fun H8 s8 => ?_⟩
          walk_at "rd"
          exact ⟨_, _, _, _, _, _, (fx.same s7).same s8, rfl⟩
        · walk_at "rd"
          exact ⟨_, _, _, _, _, _, fx, rfl⟩
      clear fx
      rintro σ' Hq ⟨w10, w11, w12, w13, w14, w15, fx, rfl⟩
      refine RD.d_cut (fun σ' Hq => ∃ (w10 w11 w12 w13 w14 w15 : Option V), Fx2 T.C_Ratio Hq h x y (Rat.divInt a b) (Rat.divInt c d) ∧ σ' = [some (.ref ad), some (.ref h), some (.int (0 + t)), some (.int a), some (.int b), some (.int c), some (.int d), some (.int wh), some (.ref x), some (.ref y), w10, w11, w12, w13, w14, w15]) ?_ ?_
      · obtain ⟨hh, hx, hy⟩ := id fx
        walk_at "rd"
        refine mk_rat T (i := 0) (j := 1) (by decide) (by decide +kernel) (fun z1 H6 s6 nz1 hz1 => ?_)
        walk_at "rd"
        refine mk_rat T (i := 0) (j := d) nd (small_log sd) (fun z2 H7 s7 nz2 hz2 => ?_)
        rw [divInt_zero nd] at hz2
        rw [divInt_zero (by decide)] at hz1
        walk_at "rd"
        refine ⟨by show 3 ≤ sizeLine; decide, fun L hL => ?_⟩
        have sL := same_upd (o := HO.lst [.int 0, .ref z1, .ref z2]) hL
        walk_at "rd"
        refine RD.f_list (K := K) (a := L) (xs := [.int 0, .ref z1, .ref z2]) (fun n σ' Hq => Hq L = some (.lst [.int 0, .ref z1, .ref z2]) ∧ RatAt T.C_Ratio Hq z1 0 ∧ RatAt T.C_Ratio Hq z2 0 ∧ ∃ (w10 w11 w12 w13 w14 w15 : Option V), Fx2 T.C_Ratio Hq h x y (Rat.divInt a b) (Rat.divInt c d) ∧ σ' = [some (.ref ad), some (.ref h), some (.int (0 + t)), some (.int a), some (.int b), some (.int c), some (.int d), some (.int wh), some (.ref x), some (.ref y), w10, w11, w12, w13, w14, w15])
          ⟨upd_same, (hz1.same s7).same sL, hz2.same sL, _, _, _, _, _, _, ((fx.same s6).same s7).same sL, rfl⟩ (fun n σ' Hq _ z => SqL.of z.1) ?_ ?_
        · rintro n v σ' Hz hv ⟨hLz, g1, g2, w10, w11, w12, w13, w14, w15, fz, rfl⟩
          have hv2 : Num T.C_Ratio Hz v 0 ∧ ∃ tt, TyX K Hz v tt ∧ PySem.W.kitOne K tt (.type "bool") = some false := by
            have := List.mem_of_getElem? hv
            simp only [List.mem_cons, List.not_mem_nil, or_false] at this
            rcases this with rfl | rfl | rfl
            · exact ⟨.inr ⟨0, rfl, rfl⟩, _, .base (.int 0), kit_ty (by decide +kernel)⟩
            · exact ⟨.inl ⟨z1, rfl, g1⟩, _, tyR T g1, T.kRb⟩
            · exact ⟨.inl ⟨z2, rfl, g2⟩, _, tyR T g2, T.kRb⟩
          obtain ⟨nv, tt, tyv, ktv⟩ := hv2
          obtain ⟨_, hxz, _⟩ := id fz
          walk_at "rd"
          refine ⟨0, x, v, _, rfl, hxz, bp, .inl ⟨rfl, nv⟩, fun H8 pt s8 npt ept => ?_⟩
          walk_at "rd"
          refine RD.iteN (fun z => absurd rfl z) (fun _ => ?_)
          walk_at "rd"
          have tail : ∀ R : Bool → Hp → Prop, True := fun _ => trivial
          rcases nv with ⟨u, rfl, hu⟩ | ⟨i0, rfl, e0⟩
          · refine .inr (eq_ri T (hu.same s8) ?_)
            have e : decide ((0 : Rat) = ((0 : Int) : Rat)) = true := decide_eq_true rfl
            rw [e]
            walk_at "rd"
            refine RD.d_isi (.ty _) (tyX_same tyv s8) ktv ?_
            walk_at "rd"
            exact ⟨s8 _ _ hLz, g1.same s8, g2.same s8, _, _, _, _, _, _, fz.same s8, rfl⟩
          · have z0 : i0 = 0 := by
              have := congrArg Rat.num e0
              rw [Rat.num_intCast] at this
              exact this.symm
            subst z0
            refine .inl ⟨rfl, ?_⟩
            rw [decide_eq_true rfl]
            walk_at "rd"
            refine RD.d_isi (.ty _) (tyX_same tyv s8) ktv ?_
            walk_at "rd"
            exact ⟨s8 _ _ hLz, g1.same s8, g2.same s8, _, _, _, _, _, _, fz.same s8, rfl⟩
        · rintro σ' Hz ⟨hLz, g1, g2, w10, w11, w12, w13, w14, w15, fz, rfl⟩
          exact ⟨_, _, _, _, _, _, fz, rfl⟩
      clear fx
      rintro σ' Hq ⟨w10, w11, w12, w13, w14, w15, fx, rfl⟩
      refine RD.d_cut (fun σ' Hq => ∃ o : V, ∃ (w10 w11 w12 w13 w15 : Option V), Fx2 T.C_Ratio Hq h x y (Rat.divInt a b) (Rat.divInt c d) ∧ OddN K T.C_Ratio Hq o ∧ σ' = [some (.ref ad), some (.ref h), some (.int (0 + t)), some (.int a), some (.int b), some (.int c), some (.int d), some (.int wh), some (.ref x), some (.ref y), w10, w11, w12, w13, some o, w15]) ?_ ?_
      · obtain ⟨hh, hx, hy⟩ := id fx
        walk_at "rd"
        refine ⟨by show 1 ≤ sizeLine; decide, fun u1 hu1 => ?_⟩
        walk_at "rd"
        refine ⟨by show 1 ≤ sizeLine; decide, fun u2 hu2 => ?_⟩
        walk_at "rd"
        intro u3 hu3
        walk_at "rd"
        refine ⟨by show 8 ≤ sizeLine; decide, fun L hL => ?_⟩
        have s1 := same_upd (o := HO.tup [.int 1]) hu1
        have s2 := same_upd (o := HO.lst [.int 1]) hu2
        have s3 := same_upd (o := HO.dK []) hu3
        have f6 := ((fx.same s1).same s2).same s3
        generalize hXS : ([V.non, .bl true, .bl false, .str "1", .str "", .ref u1, .ref u2, .ref u3] : List V) = XS at *
        have s7 := same_upd (o := HO.lst XS) hL
        have odd7 : ∀ v ∈ XS, NoNum K T.C_Ratio (upd (upd (upd (upd Hq u1 (.tup [.int 1])) u2 (.lst [.int 1])) u3 (.dK [])) L (.lst XS)) v ∧ OQ.SameIt v := by
          intro v hv
          rw [← hXS] at hv
          simp only [List.mem_cons, List.not_mem_nil, or_false] at hv
          rcases hv with rfl | rfl | rfl | rfl | rfl | rfl | rfl | rfl
          · exact ⟨⟨_, .base .non, (T.kT "NoneType" (by simp)).1, isI_non⟩, .inl rfl⟩
          · exact ⟨⟨_, .base (.bl _), (T.kT "bool" (by simp)).1, isI_bl _⟩, .inl rfl⟩
          · exact ⟨⟨_, .base (.bl _), (T.kT "bool" (by simp)).1, isI_bl _⟩, .inl rfl⟩
          · exact ⟨⟨_, .base (.str _), (T.kT "str" (by simp)).1, isI_str _⟩, .inl rfl⟩
          · exact ⟨⟨_, .base (.str _), (T.kT "str" (by simp)).1, isI_str _⟩, .inl rfl⟩
          · have e := s7 _ _ (s3 _ _ (s2 _ _ (upd_same (a := u1))))
            exact ⟨⟨_, .base (.tup e), (T.kT "tuple" (by simp)).1, isI_tup e⟩, .inr ⟨_, rfl⟩⟩
          · have e := s7 _ _ (s3 _ _ (upd_same (a := u2)))
            exact ⟨⟨_, .base (.lst e), (T.kT "list" (by simp)).1, isI_lst e⟩, .inr ⟨_, rfl⟩⟩
          · have e := s7 _ _ (upd_same (a := u3))
            exact ⟨⟨_, .base (.dK e), (T.kT "dict" (by simp)).1, isI_dK e⟩, .inr ⟨_, rfl⟩⟩
        have f7 := f6.same s7
        walk_at "rd"
        refine ⟨h, 8, rfl, f7.1, by decide, by decide +kernel, fun r H8 r0 r1 hd8 b8 => ?_⟩
        have hlen : XS.length = 8 := by rw [← hXS]; rfl
        have hr' : r.toNat < XS.length := by omega
        have hg : XS[r.toNat]? = some XS[r.toNat] := List.getElem?_eq_getElem hr'
        have hat : atI XS r = some XS[r.toNat] := by
          have z := atI_nat hg
          rwa [Int.toNat_of_nonneg r0] at z
        have neL : L ≠ h := by
          obtain ⟨c', cs, p', q', m', n', e1', _⟩ := f6.1
          exact (ne_of_none e1' hL).symm
        refine RD.d_ixL (SqL.of (by rw [b8 _ neL]; exact upd_same)) hat ?_
        walk_at "rd"
        have on := odd7 _ (List.getElem_mem hr')
        exact ⟨_, _, _, _, _, _, f7.but hd8 b8, ⟨on.1.but f7.1 hd8 b8, on.2⟩, rfl⟩
      clear fx
      rintro σ' Hq ⟨o, w10, w11, w12, w13, w15, fx, od, rfl⟩
      refine RD.d_cut (fun σ' Hq => ∃ (w10 w11 w12 w13 w15 : Option V), Fx2 T.C_Ratio Hq h x y (Rat.divInt a b) (Rat.divInt c d) ∧ OddN K T.C_Ratio Hq o ∧ σ' = [some (.ref ad), some (.ref h), some (.int (0 + t)), some (.int a), some (.int b), some (.int c), some (.int d), some (.int wh), some (.ref x), some (.ref y), w10, w11, w12, w13, some o, w15]) ?_ ?_
      · walk_at "rd"
        refine ⟨2, rfl, by decide, by decide, ?_⟩
        refine RD.f_range (lo := 0) (n := 2) (fun n σ' Hq => ∃ (w10 w11 w12 w13 w15 : Option V), Fx2 T.C_Ratio Hq h x y (Rat.divInt a b) (Rat.divInt c d) ∧ OddN K T.C_Ratio Hq o ∧ σ' = [some (.ref ad), some (.ref h), some (.int (0 + t)), some (.int a), some (.int b), some (.int c), some (.int d), some (.int wh), some (.ref x), some (.ref y), w10, w11, w12, w13, some o, w15]) ⟨_, _, _, _, _, fx, od, rfl⟩ ?_ ?_
        · rintro n σ' Hz hn ⟨w10, w11, w12, w13, w15, fz, oz, rfl⟩
          obtain ⟨_, hxz, _⟩ := id fz
          walk_at "rd"
          refine ⟨_, x, o, _, rfl, hxz, bp, .inr oz.1, fun H8 pt s8 npt ept => ?_⟩
          walk_at "rd"
          refine ⟨by show 2 ≤ sizeLine; decide, fun pu hpu => ?_⟩
          have su := same_upd (o := HO.tup [.str "number", o]) hpu
          refine ⟨pt, pu, [.str "number", o], rfl, rfl, SqT.of (su _ _ ept), SqT.of upd_same, ?_, ?_⟩
          · intro v hv
            simp only [List.mem_cons, List.not_mem_nil, or_false] at hv
            rcases hv with rfl | rfl
            · exact .inl rfl
            · exact oz.2
          have o8 := (oz.1.same s8).same su
          obtain ⟨_, _, _, tt, b1, b2, tyo, _, k2, _⟩ := o8
          have ept' := su _ _ ept
          walk_at "rd"
          refine RD.d_isi (.ty _) tyo k2 ?_
          walk_at "rd"
          refine RD.d_isi (.ty _) tyo k2 ?_
          walk_at "rd"
          refine d_neB ?_
          rw [decide_eq_true rfl]
          walk_at "rd"
          exact ⟨_, _, _, _, _, (fz.same s8).same su, ⟨(oz.1.same s8).same su, oz.2⟩, rfl⟩
        · rintro σ' Hz ⟨w10, w11, w12, w13, w15, fz, oz, rfl⟩
          exact ⟨_, _, _, _, _, fz, oz, rfl⟩
      clear fx od
      rintro σ' Hq ⟨w10, w11, w12, w13, w15, fx, od, rfl⟩
      obtain ⟨hh, hx, hy⟩ := id fx
      walk_at "rd"
      refine ⟨x, _, _, _, rfl, hx, (bd_div nb sa sb).mono (by decide), nb, up2 sa (by decide), up2 sb (by decide), rfl, fun H7 s7 => ?_⟩
      walk_at "rd"
      refine ⟨y, _, _, _, rfl, hy.same s7, (bd_div nd sc sd).mono (by decide), nd, up2 sc (by decide), up2 sd (by decide), rfl, fun H8 s8 => ?_⟩
      walk_at "rd"
      exact ⟨_, _, _, _, _, _, _, _, _, _, _, _, _, _, rfl, ((fx.same s7).same s8).1⟩
    · rintro σ' H' ⟨v2, v3, v4, v5, v6, v7, v8, v9, v10, v11, v12, v13, v14, v15, rfl, hd⟩
      walk_at "rd"
      exact k _
end

/-! ### what the top has written, the head -/
/-- an error of a class below the one at S is what «except S» names -/
theorem exm_self {K : PySem.W.Frag} {S C : Addr} (h1 : PySem.W.subIn K (.ref S) (.type "BaseException") = some true) (h2 : PySem.W.isClsIn K S = true) (h3 : PySem.W.typeIn K (.ref S) = some (.type "type"))
    (h4 : PySem.W.subIn K (.ref C) (.ref S) = some true) : PySem.W.exmOne K (.ref C) (.ref S) = some true := by
  have e1 : (PySem.W.subIn K (.ref S) (.type "BaseException") == some true) = true := by rw [h1] <;> rfl
  have e2 : ((PySem.W.clsIn K S).isSome && PySem.W.typeIn K (.ref S) == some (.type "type")) = true := by
    have h2' : (PySem.W.clsIn K S).isSome = true := h2
    rw [h2', h3] <;> rfl
  show (if (PySem.W.subIn K (.ref S) (.type "BaseException") == some true) = true then (if ((PySem.W.clsIn K S).isSome && PySem.W.typeIn K (.ref S) == some (.type "type")) = true then PySem.W.subIn K (.ref C) (.ref S) else none) else none) = some true
  rw [if_pos e1, if_pos e2]
  exact h4
theorem kit_self {K : PySem.W.Frag} (t : Value) : PySem.W.kitOne K t t = some true := by
  unfold PySem.W.kitOne
  rw [if_pos (by simp)]
theorem refs_we {C : Addr} : PySem.HandSPX.refsVE (.ref C :: [.type "ValueError", .type "Exception", .type "BaseException", .type "object"]) = true := by rfl
theorem dn_add : PySem.dunder Operator.Add.info.2 = ("__add__" : Str) := by decide +kernel
theorem dn_radd : dunderR Operator.Add.info.2 = ("__radd__" : Str) := by decide +kernel
theorem dn_sub : PySem.dunder Operator.Sub.info.2 = ("__sub__" : Str) := by decide +kernel
theorem dn_rsub : dunderR Operator.Sub.info.2 = ("__rsub__" : Str) := by decide +kernel
theorem dn_mul : PySem.dunder Operator.Mult.info.2 = ("__mul__" : Str) := by decide +kernel
theorem dn_rmul : dunderR Operator.Mult.info.2 = ("__rmul__" : Str) := by decide +kernel
theorem all_mk {l : PySem.W.OpenLaw} {w : World} {K : PySem.W.Frag} {h : Heap} {mg : Str → Option Value} {fa : Addr} (X : K.In h) (G : h.Ns mainGlobals mg) (hfa : mg "law" = some (.ref fa))
    {CWayError : Addr}
    {CRatio : Addr}
    {fWayError__init : Addr} {odWayError__init anWayError__init : Option Addr} {slWayError__init : Array (Option Value)} {ocWayError__init kVWayError__init dcWayError__init pmWayError__init cdWayError__init ctWayError__init : Value}
    {fis_integer : Addr} {odis_integer anis_integer : Option Addr} {slis_integer : Array (Option Value)} {ocis_integer kVis_integer dcis_integer pmis_integer cdis_integer ctis_integer : Value}
    {fRatio__init : Addr} {odRatio__init anRatio__init : Option Addr} {slRatio__init : Array (Option Value)} {ocRatio__init kVRatio__init dcRatio__init pmRatio__init cdRatio__init ctRatio__init : Value}
    {tRatio__init : Addr} {oRatio__init : Obj}
    {fRatio__eq : Addr} {odRatio__eq anRatio__eq : Option Addr} {slRatio__eq : Array (Option Value)} {ocRatio__eq kVRatio__eq dcRatio__eq pmRatio__eq cdRatio__eq ctRatio__eq : Value}
    {fRatio__add : Addr} {odRatio__add anRatio__add : Option Addr} {slRatio__add : Array (Option Value)} {ocRatio__add kVRatio__add dcRatio__add pmRatio__add cdRatio__add ctRatio__add : Value}
    {fRatio__radd : Addr} {odRatio__radd anRatio__radd : Option Addr} {slRatio__radd : Array (Option Value)} {ocRatio__radd kVRatio__radd dcRatio__radd pmRatio__radd cdRatio__radd ctRatio__radd : Value}
    {fRatio__sub : Addr} {odRatio__sub anRatio__sub : Option Addr} {slRatio__sub : Array (Option Value)} {ocRatio__sub kVRatio__sub dcRatio__sub pmRatio__sub cdRatio__sub ctRatio__sub : Value}
    {fRatio__rsub : Addr} {odRatio__rsub anRatio__rsub : Option Addr} {slRatio__rsub : Array (Option Value)} {ocRatio__rsub kVRatio__rsub dcRatio__rsub pmRatio__rsub cdRatio__rsub ctRatio__rsub : Value}
    {fRatio__mul : Addr} {odRatio__mul anRatio__mul : Option Addr} {slRatio__mul : Array (Option Value)} {ocRatio__mul kVRatio__mul dcRatio__mul pmRatio__mul cdRatio__mul ctRatio__mul : Value}
    {fRatio__rmul : Addr} {odRatio__rmul anRatio__rmul : Option Addr} {slRatio__rmul : Array (Option Value)} {ocRatio__rmul kVRatio__rmul dcRatio__rmul pmRatio__rmul cdRatio__rmul ctRatio__rmul : Value}
    {fRatio__neg : Addr} {odRatio__neg anRatio__neg : Option Addr} {slRatio__neg : Array (Option Value)} {ocRatio__neg kVRatio__neg dcRatio__neg pmRatio__neg cdRatio__neg ctRatio__neg : Value}
    {fRatio_over : Addr} {odRatio_over anRatio_over : Option Addr} {slRatio_over : Array (Option Value)} {ocRatio_over kVRatio_over dcRatio_over pmRatio_over cdRatio_over ctRatio_over : Value}
    {fRatio_less : Addr} {odRatio_less anRatio_less : Option Addr} {slRatio_less : Array (Option Value)} {ocRatio_less kVRatio_less dcRatio_less pmRatio_less cdRatio_less ctRatio_less : Value}
    {fis_number : Addr} {odis_number anis_number : Option Addr} {slis_number : Array (Option Value)} {ocis_number kVis_number dcis_number pmis_number cdis_number ctis_number : Value}
    {fas_ratio : Addr} {odas_ratio anas_ratio : Option Addr} {slas_ratio : Array (Option Value)} {ocas_ratio kVas_ratio dcas_ratio pmas_ratio cdas_ratio ctas_ratio : Value}
    {fsum_of : Addr} {odsum_of ansum_of : Option Addr} {slsum_of : Array (Option Value)} {ocsum_of kVsum_of dcsum_of pmsum_of cdsum_of ctsum_of : Value}
    {fproduct_of : Addr} {odproduct_of anproduct_of : Option Addr} {slproduct_of : Array (Option Value)} {ocproduct_of kVproduct_of dcproduct_of pmproduct_of cdproduct_of ctproduct_of : Value}
    {flaw_hand : Addr} {odlaw_hand anlaw_hand : Option Addr} {sllaw_hand : Array (Option Value)} {oclaw_hand kVlaw_hand dclaw_hand pmlaw_hand cdlaw_hand ctlaw_hand : Value}
    {flaw_draw : Addr} {odlaw_draw anlaw_draw : Option Addr} {sllaw_draw : Array (Option Value)} {oclaw_draw kVlaw_draw dclaw_draw pmlaw_draw cdlaw_draw ctlaw_draw : Value}
    {flaw_number : Addr} {odlaw_number anlaw_number : Option Addr} {sllaw_number : Array (Option Value)} {oclaw_number kVlaw_number dclaw_number pmlaw_number cdlaw_number ctlaw_number : Value}
    {flaw_pair : Addr} {odlaw_pair anlaw_pair : Option Addr} {sllaw_pair : Array (Option Value)} {oclaw_pair kVlaw_pair dclaw_pair pmlaw_pair cdlaw_pair ctlaw_pair : Value}
    {flaw_common : Addr} {odlaw_common anlaw_common : Option Addr} {sllaw_common : Array (Option Value)} {oclaw_common kVlaw_common dclaw_common pmlaw_common cdlaw_common ctlaw_common : Value}
    {flaw_is : Addr} {odlaw_is anlaw_is : Option Addr} {sllaw_is : Array (Option Value)} {oclaw_is kVlaw_is dclaw_is pmlaw_is cdlaw_is ctlaw_is : Value}
    {flaw_refused : Addr} {odlaw_refused anlaw_refused : Option Addr} {sllaw_refused : Array (Option Value)} {oclaw_refused kVlaw_refused dclaw_refused pmlaw_refused cdlaw_refused ctlaw_refused : Value}
    {flaw_right : Addr} {odlaw_right anlaw_right : Option Addr} {sllaw_right : Array (Option Value)} {oclaw_right kVlaw_right dclaw_right pmlaw_right cdlaw_right ctlaw_right : Value}
    {flaw : Addr} {odlaw anlaw : Option Addr} {sllaw : Array (Option Value)} {oclaw kVlaw dclaw pmlaw cdlaw ctlaw : Value}
    (aRatio : PySem.W.nsIn K mainGlobals "Ratio" = some (some (.ref CRatio)))
    (pgRatio : PySem.W.plainGet K CRatio Str.empty = true)
    (hdRatio : PySem.W.hasDictIn K CRatio = true)
    (poRatio : PySem.W.plainOver K CRatio = true)
    (saRatio : PySem.W.findIn K (.ref CRatio) "__setattr__" = some (some (.builtin "object.__setattr__")))
    (mkRatio : PySem.W.makesIn K CRatio = true)
    (kcRatio : PySem.W.keepIn K (.ref CRatio) = true)
    (naRatio_top : PySem.W.findIn K (.ref CRatio) "top" = some none)
    (naRatio_bottom : PySem.W.findIn K (.ref CRatio) "bottom" = some none)
    (aWayError__init : PySem.W.findIn K (.ref CWayError) "__init__" = some (some (.ref fWayError__init)))
    (iWayError__init : PySem.W.isFn K (.ref fWayError__init) = true)
    (lWayError__init : K.lookup fWayError__init = some ⟨ocWayError__init, odWayError__init, .func (PySem.W.fnOf "__init__" "WayError.__init__" (defArgs s_WayError__init) (defBody s_WayError__init) (defScope s_WayError__init) .none kVWayError__init dcWayError__init pmWayError__init anWayError__init cdWayError__init ctWayError__init), slWayError__init⟩)
    (cWayError__init : PySem.W.codeIn K cdWayError__init "WayError.__init__" = true)
    (kWayError__init : PySem.W.keepIn K (.ref fWayError__init) = true)
    (ais_integer : PySem.W.nsIn K mainGlobals "is_integer" = some (some (.ref fis_integer)))
    (lis_integer : K.lookup fis_integer = some ⟨ocis_integer, odis_integer, .func (PySem.W.fnOf "is_integer" "is_integer" (defArgs s_is_integer) (defBody s_is_integer) (defScope s_is_integer) .none kVis_integer dcis_integer pmis_integer anis_integer cdis_integer ctis_integer), slis_integer⟩)
    (cis_integer : PySem.W.codeIn K cdis_integer "is_integer" = true)
    (kis_integer : PySem.W.keepIn K (.ref fis_integer) = true)
    (aRatio__init : PySem.W.findIn K (.ref CRatio) "__init__" = some (some (.ref fRatio__init)))
    (iRatio__init : PySem.W.isFn K (.ref fRatio__init) = true)
    (lRatio__init : K.lookup fRatio__init = some ⟨ocRatio__init, odRatio__init, .func (PySem.W.fnOf "__init__" "Ratio.__init__" (defArgs s_Ratio__init) (defBody s_Ratio__init) (defScope s_Ratio__init) (.ref tRatio__init) kVRatio__init dcRatio__init pmRatio__init anRatio__init cdRatio__init ctRatio__init), slRatio__init⟩)
    (cRatio__init : PySem.W.codeIn K cdRatio__init "Ratio.__init__" = true)
    (kRatio__init : PySem.W.keepIn K (.ref fRatio__init) = true)
    (dRatio__init : K.lookup tRatio__init = some oRatio__init)
    (eRatio__init : ∃ (its : List Value) (n : Nat), oRatio__init.data = .seq its.toArray n ∧ Vals [V.int 1] its)
    (aRatio__eq : PySem.W.findIn K (.ref CRatio) "__eq__" = some (some (.ref fRatio__eq)))
    (iRatio__eq : PySem.W.isFn K (.ref fRatio__eq) = true)
    (lRatio__eq : K.lookup fRatio__eq = some ⟨ocRatio__eq, odRatio__eq, .func (PySem.W.fnOf "__eq__" "Ratio.__eq__" (defArgs s_Ratio__eq) (defBody s_Ratio__eq) (defScope s_Ratio__eq) .none kVRatio__eq dcRatio__eq pmRatio__eq anRatio__eq cdRatio__eq ctRatio__eq), slRatio__eq⟩)
    (cRatio__eq : PySem.W.codeIn K cdRatio__eq "Ratio.__eq__" = true)
    (kRatio__eq : PySem.W.keepIn K (.ref fRatio__eq) = true)
    (aRatio__add : PySem.W.findIn K (.ref CRatio) "__add__" = some (some (.ref fRatio__add)))
    (iRatio__add : PySem.W.isFn K (.ref fRatio__add) = true)
    (lRatio__add : K.lookup fRatio__add = some ⟨ocRatio__add, odRatio__add, .func (PySem.W.fnOf "__add__" "Ratio.__add__" (defArgs s_Ratio__add) (defBody s_Ratio__add) (defScope s_Ratio__add) .none kVRatio__add dcRatio__add pmRatio__add anRatio__add cdRatio__add ctRatio__add), slRatio__add⟩)
    (cRatio__add : PySem.W.codeIn K cdRatio__add "Ratio.__add__" = true)
    (kRatio__add : PySem.W.keepIn K (.ref fRatio__add) = true)
    (aRatio__radd : PySem.W.findIn K (.ref CRatio) "__radd__" = some (some (.ref fRatio__radd)))
    (iRatio__radd : PySem.W.isFn K (.ref fRatio__radd) = true)
    (lRatio__radd : K.lookup fRatio__radd = some ⟨ocRatio__radd, odRatio__radd, .func (PySem.W.fnOf "__radd__" "Ratio.__radd__" (defArgs s_Ratio__radd) (defBody s_Ratio__radd) (defScope s_Ratio__radd) .none kVRatio__radd dcRatio__radd pmRatio__radd anRatio__radd cdRatio__radd ctRatio__radd), slRatio__radd⟩)
    (cRatio__radd : PySem.W.codeIn K cdRatio__radd "Ratio.__radd__" = true)
    (kRatio__radd : PySem.W.keepIn K (.ref fRatio__radd) = true)
    (aRatio__sub : PySem.W.findIn K (.ref CRatio) "__sub__" = some (some (.ref fRatio__sub)))
    (iRatio__sub : PySem.W.isFn K (.ref fRatio__sub) = true)
    (lRatio__sub : K.lookup fRatio__sub = some ⟨ocRatio__sub, odRatio__sub, .func (PySem.W.fnOf "__sub__" "Ratio.__sub__" (defArgs s_Ratio__sub) (defBody s_Ratio__sub) (defScope s_Ratio__sub) .none kVRatio__sub dcRatio__sub pmRatio__sub anRatio__sub cdRatio__sub ctRatio__sub), slRatio__sub⟩)
    (cRatio__sub : PySem.W.codeIn K cdRatio__sub "Ratio.__sub__" = true)
    (kRatio__sub : PySem.W.keepIn K (.ref fRatio__sub) = true)
    (aRatio__rsub : PySem.W.findIn K (.ref CRatio) "__rsub__" = some (some (.ref fRatio__rsub)))
    (iRatio__rsub : PySem.W.isFn K (.ref fRatio__rsub) = true)
    (lRatio__rsub : K.lookup fRatio__rsub = some ⟨ocRatio__rsub, odRatio__rsub, .func (PySem.W.fnOf "__rsub__" "Ratio.__rsub__" (defArgs s_Ratio__rsub) (defBody s_Ratio__rsub) (defScope s_Ratio__rsub) .none kVRatio__rsub dcRatio__rsub pmRatio__rsub anRatio__rsub cdRatio__rsub ctRatio__rsub), slRatio__rsub⟩)
    (cRatio__rsub : PySem.W.codeIn K cdRatio__rsub "Ratio.__rsub__" = true)
    (kRatio__rsub : PySem.W.keepIn K (.ref fRatio__rsub) = true)
    (aRatio__mul : PySem.W.findIn K (.ref CRatio) "__mul__" = some (some (.ref fRatio__mul)))
    (iRatio__mul : PySem.W.isFn K (.ref fRatio__mul) = true)
    (lRatio__mul : K.lookup fRatio__mul = some ⟨ocRatio__mul, odRatio__mul, .func (PySem.W.fnOf "__mul__" "Ratio.__mul__" (defArgs s_Ratio__mul) (defBody s_Ratio__mul) (defScope s_Ratio__mul) .none kVRatio__mul dcRatio__mul pmRatio__mul anRatio__mul cdRatio__mul ctRatio__mul), slRatio__mul⟩)
    (cRatio__mul : PySem.W.codeIn K cdRatio__mul "Ratio.__mul__" = true)
    (kRatio__mul : PySem.W.keepIn K (.ref fRatio__mul) = true)
    (aRatio__rmul : PySem.W.findIn K (.ref CRatio) "__rmul__" = some (some (.ref fRatio__rmul)))
    (iRatio__rmul : PySem.W.isFn K (.ref fRatio__rmul) = true)
    (lRatio__rmul : K.lookup fRatio__rmul = some ⟨ocRatio__rmul, odRatio__rmul, .func (PySem.W.fnOf "__rmul__" "Ratio.__rmul__" (defArgs s_Ratio__rmul) (defBody s_Ratio__rmul) (defScope s_Ratio__rmul) .none kVRatio__rmul dcRatio__rmul pmRatio__rmul anRatio__rmul cdRatio__rmul ctRatio__rmul), slRatio__rmul⟩)
    (cRatio__rmul : PySem.W.codeIn K cdRatio__rmul "Ratio.__rmul__" = true)
    (kRatio__rmul : PySem.W.keepIn K (.ref fRatio__rmul) = true)
    (aRatio__neg : PySem.W.findIn K (.ref CRatio) "__neg__" = some (some (.ref fRatio__neg)))
    (iRatio__neg : PySem.W.isFn K (.ref fRatio__neg) = true)
    (lRatio__neg : K.lookup fRatio__neg = some ⟨ocRatio__neg, odRatio__neg, .func (PySem.W.fnOf "__neg__" "Ratio.__neg__" (defArgs s_Ratio__neg) (defBody s_Ratio__neg) (defScope s_Ratio__neg) .none kVRatio__neg dcRatio__neg pmRatio__neg anRatio__neg cdRatio__neg ctRatio__neg), slRatio__neg⟩)
    (cRatio__neg : PySem.W.codeIn K cdRatio__neg "Ratio.__neg__" = true)
    (kRatio__neg : PySem.W.keepIn K (.ref fRatio__neg) = true)
    (aRatio_over : PySem.W.findIn K (.ref CRatio) "over" = some (some (.ref fRatio_over)))
    (iRatio_over : PySem.W.isFn K (.ref fRatio_over) = true)
    (lRatio_over : K.lookup fRatio_over = some ⟨ocRatio_over, odRatio_over, .func (PySem.W.fnOf "over" "Ratio.over" (defArgs s_Ratio_over) (defBody s_Ratio_over) (defScope s_Ratio_over) .none kVRatio_over dcRatio_over pmRatio_over anRatio_over cdRatio_over ctRatio_over), slRatio_over⟩)
    (cRatio_over : PySem.W.codeIn K cdRatio_over "Ratio.over" = true)
    (kRatio_over : PySem.W.keepIn K (.ref fRatio_over) = true)
    (aRatio_less : PySem.W.findIn K (.ref CRatio) "less" = some (some (.ref fRatio_less)))
    (iRatio_less : PySem.W.isFn K (.ref fRatio_less) = true)
    (lRatio_less : K.lookup fRatio_less = some ⟨ocRatio_less, odRatio_less, .func (PySem.W.fnOf "less" "Ratio.less" (defArgs s_Ratio_less) (defBody s_Ratio_less) (defScope s_Ratio_less) .none kVRatio_less dcRatio_less pmRatio_less anRatio_less cdRatio_less ctRatio_less), slRatio_less⟩)
    (cRatio_less : PySem.W.codeIn K cdRatio_less "Ratio.less" = true)
    (kRatio_less : PySem.W.keepIn K (.ref fRatio_less) = true)
    (ais_number : PySem.W.nsIn K mainGlobals "is_number" = some (some (.ref fis_number)))
    (lis_number : K.lookup fis_number = some ⟨ocis_number, odis_number, .func (PySem.W.fnOf "is_number" "is_number" (defArgs s_is_number) (defBody s_is_number) (defScope s_is_number) .none kVis_number dcis_number pmis_number anis_number cdis_number ctis_number), slis_number⟩)
    (cis_number : PySem.W.codeIn K cdis_number "is_number" = true)
    (kis_number : PySem.W.keepIn K (.ref fis_number) = true)
    (aas_ratio : PySem.W.nsIn K mainGlobals "as_ratio" = some (some (.ref fas_ratio)))
    (las_ratio : K.lookup fas_ratio = some ⟨ocas_ratio, odas_ratio, .func (PySem.W.fnOf "as_ratio" "as_ratio" (defArgs s_as_ratio) (defBody s_as_ratio) (defScope s_as_ratio) .none kVas_ratio dcas_ratio pmas_ratio anas_ratio cdas_ratio ctas_ratio), slas_ratio⟩)
    (cas_ratio : PySem.W.codeIn K cdas_ratio "as_ratio" = true)
    (kas_ratio : PySem.W.keepIn K (.ref fas_ratio) = true)
    (asum_of : PySem.W.nsIn K mainGlobals "sum_of" = some (some (.ref fsum_of)))
    (lsum_of : K.lookup fsum_of = some ⟨ocsum_of, odsum_of, .func (PySem.W.fnOf "sum_of" "sum_of" (defArgs s_sum_of) (defBody s_sum_of) (defScope s_sum_of) .none kVsum_of dcsum_of pmsum_of ansum_of cdsum_of ctsum_of), slsum_of⟩)
    (csum_of : PySem.W.codeIn K cdsum_of "sum_of" = true)
    (ksum_of : PySem.W.keepIn K (.ref fsum_of) = true)
    (aproduct_of : PySem.W.nsIn K mainGlobals "product_of" = some (some (.ref fproduct_of)))
    (lproduct_of : K.lookup fproduct_of = some ⟨ocproduct_of, odproduct_of, .func (PySem.W.fnOf "product_of" "product_of" (defArgs s_product_of) (defBody s_product_of) (defScope s_product_of) .none kVproduct_of dcproduct_of pmproduct_of anproduct_of cdproduct_of ctproduct_of), slproduct_of⟩)
    (cproduct_of : PySem.W.codeIn K cdproduct_of "product_of" = true)
    (kproduct_of : PySem.W.keepIn K (.ref fproduct_of) = true)
    (alaw_hand : PySem.W.nsIn K mainGlobals "_law_hand" = some (some (.ref flaw_hand)))
    (llaw_hand : K.lookup flaw_hand = some ⟨oclaw_hand, odlaw_hand, .func (PySem.W.fnOf "_law_hand" "_law_hand" (defArgs s_law_hand) (defBody s_law_hand) (defScope s_law_hand) .none kVlaw_hand dclaw_hand pmlaw_hand anlaw_hand cdlaw_hand ctlaw_hand), sllaw_hand⟩)
    (claw_hand : PySem.W.codeIn K cdlaw_hand "_law_hand" = true)
    (klaw_hand : PySem.W.keepIn K (.ref flaw_hand) = true)
    (alaw_draw : PySem.W.nsIn K mainGlobals "_law_draw" = some (some (.ref flaw_draw)))
    (llaw_draw : K.lookup flaw_draw = some ⟨oclaw_draw, odlaw_draw, .func (PySem.W.fnOf "_law_draw" "_law_draw" (defArgs s_law_draw) (defBody s_law_draw) (defScope s_law_draw) .none kVlaw_draw dclaw_draw pmlaw_draw anlaw_draw cdlaw_draw ctlaw_draw), sllaw_draw⟩)
    (claw_draw : PySem.W.codeIn K cdlaw_draw "_law_draw" = true)
    (klaw_draw : PySem.W.keepIn K (.ref flaw_draw) = true)
    (alaw_number : PySem.W.nsIn K mainGlobals "_law_number" = some (some (.ref flaw_number)))
    (llaw_number : K.lookup flaw_number = some ⟨oclaw_number, odlaw_number, .func (PySem.W.fnOf "_law_number" "_law_number" (defArgs s_law_number) (defBody s_law_number) (defScope s_law_number) .none kVlaw_number dclaw_number pmlaw_number anlaw_number cdlaw_number ctlaw_number), sllaw_number⟩)
    (claw_number : PySem.W.codeIn K cdlaw_number "_law_number" = true)
    (klaw_number : PySem.W.keepIn K (.ref flaw_number) = true)
    (alaw_pair : PySem.W.nsIn K mainGlobals "_law_pair" = some (some (.ref flaw_pair)))
    (llaw_pair : K.lookup flaw_pair = some ⟨oclaw_pair, odlaw_pair, .func (PySem.W.fnOf "_law_pair" "_law_pair" (defArgs s_law_pair) (defBody s_law_pair) (defScope s_law_pair) .none kVlaw_pair dclaw_pair pmlaw_pair anlaw_pair cdlaw_pair ctlaw_pair), sllaw_pair⟩)
    (claw_pair : PySem.W.codeIn K cdlaw_pair "_law_pair" = true)
    (klaw_pair : PySem.W.keepIn K (.ref flaw_pair) = true)
    (alaw_common : PySem.W.nsIn K mainGlobals "_law_common" = some (some (.ref flaw_common)))
    (llaw_common : K.lookup flaw_common = some ⟨oclaw_common, odlaw_common, .func (PySem.W.fnOf "_law_common" "_law_common" (defArgs s_law_common) (defBody s_law_common) (defScope s_law_common) .none kVlaw_common dclaw_common pmlaw_common anlaw_common cdlaw_common ctlaw_common), sllaw_common⟩)
    (claw_common : PySem.W.codeIn K cdlaw_common "_law_common" = true)
    (klaw_common : PySem.W.keepIn K (.ref flaw_common) = true)
    (alaw_is : PySem.W.nsIn K mainGlobals "_law_is" = some (some (.ref flaw_is)))
    (llaw_is : K.lookup flaw_is = some ⟨oclaw_is, odlaw_is, .func (PySem.W.fnOf "_law_is" "_law_is" (defArgs s_law_is) (defBody s_law_is) (defScope s_law_is) .none kVlaw_is dclaw_is pmlaw_is anlaw_is cdlaw_is ctlaw_is), sllaw_is⟩)
    (claw_is : PySem.W.codeIn K cdlaw_is "_law_is" = true)
    (klaw_is : PySem.W.keepIn K (.ref flaw_is) = true)
    (alaw_refused : PySem.W.nsIn K mainGlobals "_law_refused" = some (some (.ref flaw_refused)))
    (llaw_refused : K.lookup flaw_refused = some ⟨oclaw_refused, odlaw_refused, .func (PySem.W.fnOf "_law_refused" "_law_refused" (defArgs s_law_refused) (defBody s_law_refused) (defScope s_law_refused) .none kVlaw_refused dclaw_refused pmlaw_refused anlaw_refused cdlaw_refused ctlaw_refused), sllaw_refused⟩)
    (claw_refused : PySem.W.codeIn K cdlaw_refused "_law_refused" = true)
    (klaw_refused : PySem.W.keepIn K (.ref flaw_refused) = true)
    (alaw_right : PySem.W.nsIn K mainGlobals "_law_right" = some (some (.ref flaw_right)))
    (llaw_right : K.lookup flaw_right = some ⟨oclaw_right, odlaw_right, .func (PySem.W.fnOf "_law_right" "_law_right" (defArgs s_law_right) (defBody s_law_right) (defScope s_law_right) .none kVlaw_right dclaw_right pmlaw_right anlaw_right cdlaw_right ctlaw_right), sllaw_right⟩)
    (claw_right : PySem.W.codeIn K cdlaw_right "_law_right" = true)
    (klaw_right : PySem.W.keepIn K (.ref flaw_right) = true)
    (alaw : PySem.W.nsIn K mainGlobals "law" = some (some (.ref flaw)))
    (llaw : K.lookup flaw = some ⟨oclaw, odlaw, .func (PySem.W.fnOf "law" "law" (defArgs s_law) (defBody s_law) (defScope s_law) .none kVlaw dclaw pmlaw anlaw cdlaw ctlaw), sllaw⟩)
    (claw : PySem.W.codeIn K cdlaw "law" = true)
    (klaw : PySem.W.keepIn K (.ref flaw) = true)
    (zabs : PySem.W.nsIn K mainGlobals "abs" = some none)
    (zint : PySem.W.nsIn K mainGlobals "int" = some none)
    (zlen : PySem.W.nsIn K mainGlobals "len" = some none)
    (zrange : PySem.W.nsIn K mainGlobals "range" = some none)
    (zisinstance : PySem.W.nsIn K mainGlobals "isinstance" = some none)
    (zbool : PySem.W.nsIn K mainGlobals "bool" = some none)
    {CBN : Addr} {nm qn : Str} {N : Addr} {bs : List Value} {sn : List Str} {sub : List Value} {ab : Bool} {col : Option Bool} {dd : Option Addr} {m0 m1 m2 m3 m5 foadd fosub fomul roadd rosub romul : Option Value}
    (aBN : PySem.W.nsIn K mainGlobals "BadNumber" = some (some (.ref CBN)))
    (aWE : PySem.W.nsIn K mainGlobals "WayError" = some (some (.ref CWayError)))
    (agcd : PySem.W.nsIn K mainGlobals "gcd" = some (some (.builtin "math.gcd")))
    (haR : PySem.W.findIn K (.ref CRatio) "__class__" = some (some (.builtin "object.__class__")))
    (hnO : PySem.W.specialIn K (.builtin "object.__class__") "__get__" = some (some (.builtin "getset_descriptor.__get__")))
    (htO : PySem.W.takesIn K (.builtin "object.__class__") = some true)
    (hmR : PySem.W.mroIn K CRatio (.type "object") = some true)
    (neR : PySem.W.findIn K (.ref CRatio) "__ne__" = some (some (.builtin "object.__ne__")))
    (xBN : K.lookup CBN = some (excClassObj nm qn CBN N bs (.ref CWayError :: [.type "ValueError", .type "Exception", .type "BaseException", .type "object"]) true sn sub ab col dd m0 m1 m2 m3 m5 "ValueError.__new__"))
    (saBN : PySem.W.findIn K (.ref CBN) "__setattr__" = some (some (.builtin "object.__setattr__")))
    (exBN : PySem.W.subIn K (.ref CBN) (.type "BaseException") = some true)
    (tyBN : PySem.W.typeIn K (.ref CBN) = some (.type "type"))
    (kcBN : PySem.W.keepIn K (.ref CBN) = true)
    (inBN : PySem.W.findIn K (.ref CBN) "__init__" = some (some (.ref fWayError__init)))
    (tiBN : PySem.W.typeIn K (.ref fWayError__init) = some (.type "function"))
    (vaBN : PySem.W.findIn K (.ref CBN) "value" = some none)
    (gaBN : PySem.W.findIn K (.ref CBN) "__getattribute__" = some (some (.builtin "BaseException.__getattribute__")))
    (ggBN : PySem.W.findIn K (.ref CBN) "__getattr__" = some none)
    (hdBN : PySem.W.hasDictIn K CBN = true)
    (clBN : PySem.W.findIn K (.ref CBN) "__class__" = some (some (.builtin "object.__class__")))
    (moBN : PySem.W.mroIn K CBN (.type "object") = some true)
    (icBN : PySem.W.isClsIn K CBN = true)
    (sBB : PySem.W.subIn K (.ref CBN) (.ref CBN) = some true)
    (qRi : PySem.W.kitOne K (.ref CRatio) (.type "int") = some false)
    (qRb : PySem.W.kitOne K (.ref CRatio) (.type "bool") = some false)
    (nfR : PySem.W.notFirst K CRatio (.ref CRatio) = true)
    (sfR : PySem.W.selfFirst K CRatio = true)
    (sIR : PySem.W.subIn K (.type "int") (.ref CRatio) = some false)
    (sRI : PySem.W.subIn K (.ref CRatio) (.type "int") = some false)
    (ioadd : PySem.W.findIn K (.type "int") "__add__" = some foadd)
    (iradd : PySem.W.findIn K (.type "int") "__radd__" = some roadd)
    (iosub : PySem.W.findIn K (.type "int") "__sub__" = some fosub)
    (irsub : PySem.W.findIn K (.type "int") "__rsub__" = some rosub)
    (iomul : PySem.W.findIn K (.type "int") "__mul__" = some fomul)
    (irmul : PySem.W.findIn K (.type "int") "__rmul__" = some romul)
    (qNoneType : PySem.W.kitOne K (.type "NoneType") (.ref CRatio) = some false)
    (nNoneType : PySem.W.notFirst K CRatio (.type "NoneType") = true)
    (qbool : PySem.W.kitOne K (.type "bool") (.ref CRatio) = some false)
    (nbool : PySem.W.notFirst K CRatio (.type "bool") = true)
    (qint : PySem.W.kitOne K (.type "int") (.ref CRatio) = some false)
    (nint : PySem.W.notFirst K CRatio (.type "int") = true)
    (qstr : PySem.W.kitOne K (.type "str") (.ref CRatio) = some false)
    (nstr : PySem.W.notFirst K CRatio (.type "str") = true)
    (qlist : PySem.W.kitOne K (.type "list") (.ref CRatio) = some false)
    (nlist : PySem.W.notFirst K CRatio (.type "list") = true)
    (qtuple : PySem.W.kitOne K (.type "tuple") (.ref CRatio) = some false)
    (ntuple : PySem.W.notFirst K CRatio (.type "tuple") = true)
    (qdict : PySem.W.kitOne K (.type "dict") (.ref CRatio) = some false)
    (ndict : PySem.W.notFirst K CRatio (.type "dict") = true)
    : ∃ fd : FuncData, (∀ (s : Shared) (v : Value), BindsTo s fd ⟨[v], []⟩ [("script", v)]) ∧ ∀ base : Heap, K.In base → base.Ns mainGlobals mg → FnOk l.prog w K mg base CX0 12 fa fd ["script"] (spLaw K) := by
  have e := hfa.symm.trans (PySem.W.mg_of X G alaw)
  cases e
  have FWayError__init := fun_mk (st := s_WayError__init) lWayError__init cWayError__init kWayError__init
  have bWayError__init := FWayError__init.binds (ps := ["self", "value"]) fun _ _ _ _ _ _ us hl => match us, hl with | [_, _], _ => rfl
  have Fis_integer := fun_mk (st := s_is_integer) lis_integer cis_integer kis_integer
  have bis_integer := Fis_integer.binds (ps := ["thing"]) fun _ _ _ _ _ _ us hl => match us, hl with | [_], _ => rfl
  have FRatio__init : FunD K "__init__" "Ratio.__init__" (defArgs s_Ratio__init) (defBody s_Ratio__init) (defScope s_Ratio__init) [V.int 1] [] fRatio__init (PySem.W.fnOf "__init__" "Ratio.__init__" (defArgs s_Ratio__init) (defBody s_Ratio__init) (defScope s_Ratio__init) (.ref tRatio__init) kVRatio__init dcRatio__init pmRatio__init anRatio__init cdRatio__init ctRatio__init) := ⟨⟨_, _, _, _, _, _, _, _, _, _, rfl, lRatio__init, cRatio__init, Or.inr ⟨(by simp), _, oRatio__init, eRatio__init.choose, eRatio__init.choose_spec.choose, rfl, dRatio__init, eRatio__init.choose_spec.choose_spec.1, eRatio__init.choose_spec.choose_spec.2⟩, Or.inl rfl⟩, kRatio__init⟩
  have b1Ratio__init := FRatio__init.binds1 (ps := ["self", "top", "bottom"]) 2 0 (by simp) rfl (fun _ _ _ _ _ _ _ us its hl hi => match us, hl, its, hi with | [_, _], _, [_], _ => ⟨_, rfl, rfl⟩)
  have bRatio__init : Binds K (PySem.W.fnOf "__init__" "Ratio.__init__" (defArgs s_Ratio__init) (defBody s_Ratio__init) (defScope s_Ratio__init) (.ref tRatio__init) kVRatio__init dcRatio__init pmRatio__init anRatio__init cdRatio__init ctRatio__init) ["self", "top", "bottom"] [] := by
    obtain ⟨ds, hv, hb⟩ := FRatio__init.binds1 (ps := ["self", "top", "bottom"]) 3 1 (by simp) rfl (fun _ _ _ _ _ _ _ us its hl hi => match us, hl, its, hi with | [_, _, _], _, [_], _ => ⟨_, rfl, rfl⟩)
    cases hv; exact hb
  have FRatio__eq := fun_mk (st := s_Ratio__eq) lRatio__eq cRatio__eq kRatio__eq
  have bRatio__eq := FRatio__eq.binds (ps := ["self", "other"]) fun _ _ _ _ _ _ us hl => match us, hl with | [_, _], _ => rfl
  have FRatio__add := fun_mk (st := s_Ratio__add) lRatio__add cRatio__add kRatio__add
  have bRatio__add := FRatio__add.binds (ps := ["self", "other"]) fun _ _ _ _ _ _ us hl => match us, hl with | [_, _], _ => rfl
  have FRatio__radd := fun_mk (st := s_Ratio__radd) lRatio__radd cRatio__radd kRatio__radd
  have bRatio__radd := FRatio__radd.binds (ps := ["self", "other"]) fun _ _ _ _ _ _ us hl => match us, hl with | [_, _], _ => rfl
  have FRatio__sub := fun_mk (st := s_Ratio__sub) lRatio__sub cRatio__sub kRatio__sub
  have bRatio__sub := FRatio__sub.binds (ps := ["self", "other"]) fun _ _ _ _ _ _ us hl => match us, hl with | [_, _], _ => rfl
  have FRatio__rsub := fun_mk (st := s_Ratio__rsub) lRatio__rsub cRatio__rsub kRatio__rsub
  have bRatio__rsub := FRatio__rsub.binds (ps := ["self", "other"]) fun _ _ _ _ _ _ us hl => match us, hl with | [_, _], _ => rfl
  have FRatio__mul := fun_mk (st := s_Ratio__mul) lRatio__mul cRatio__mul kRatio__mul
  have bRatio__mul := FRatio__mul.binds (ps := ["self", "other"]) fun _ _ _ _ _ _ us hl => match us, hl with | [_, _], _ => rfl
  have FRatio__rmul := fun_mk (st := s_Ratio__rmul) lRatio__rmul cRatio__rmul kRatio__rmul
  have bRatio__rmul := FRatio__rmul.binds (ps := ["self", "other"]) fun _ _ _ _ _ _ us hl => match us, hl with | [_, _], _ => rfl
  have FRatio__neg := fun_mk (st := s_Ratio__neg) lRatio__neg cRatio__neg kRatio__neg
  have bRatio__neg := FRatio__neg.binds (ps := ["self"]) fun _ _ _ _ _ _ us hl => match us, hl with | [_], _ => rfl
  have FRatio_over := fun_mk (st := s_Ratio_over) lRatio_over cRatio_over kRatio_over
  have bRatio_over := FRatio_over.binds (ps := ["self", "other"]) fun _ _ _ _ _ _ us hl => match us, hl with | [_, _], _ => rfl
  have FRatio_less := fun_mk (st := s_Ratio_less) lRatio_less cRatio_less kRatio_less
  have bRatio_less := FRatio_less.binds (ps := ["self", "other"]) fun _ _ _ _ _ _ us hl => match us, hl with | [_, _], _ => rfl
  have Fis_number := fun_mk (st := s_is_number) lis_number cis_number kis_number
  have bis_number := Fis_number.binds (ps := ["thing"]) fun _ _ _ _ _ _ us hl => match us, hl with | [_], _ => rfl
  have Fas_ratio := fun_mk (st := s_as_ratio) las_ratio cas_ratio kas_ratio
  have bas_ratio := Fas_ratio.binds (ps := ["thing"]) fun _ _ _ _ _ _ us hl => match us, hl with | [_], _ => rfl
  have Fsum_of := fun_mk (st := s_sum_of) lsum_of csum_of ksum_of
  have bsum_of := Fsum_of.binds (ps := ["one", "other"]) fun _ _ _ _ _ _ us hl => match us, hl with | [_, _], _ => rfl
  have Fproduct_of := fun_mk (st := s_product_of) lproduct_of cproduct_of kproduct_of
  have bproduct_of := Fproduct_of.binds (ps := ["one", "other"]) fun _ _ _ _ _ _ us hl => match us, hl with | [_, _], _ => rfl
  have Flaw_hand := fun_mk (st := s_law_hand) llaw_hand claw_hand klaw_hand
  have blaw_hand := Flaw_hand.binds (ps := ["script"]) fun _ _ _ _ _ _ us hl => match us, hl with | [_], _ => rfl
  have Flaw_draw := fun_mk (st := s_law_draw) llaw_draw claw_draw klaw_draw
  have blaw_draw := Flaw_draw.binds (ps := ["hand", "many"]) fun _ _ _ _ _ _ us hl => match us, hl with | [_, _], _ => rfl
  have Flaw_number := fun_mk (st := s_law_number) llaw_number claw_number klaw_number
  have blaw_number := Flaw_number.binds (ps := ["hand"]) fun _ _ _ _ _ _ us hl => match us, hl with | [_], _ => rfl
  have Flaw_pair := fun_mk (st := s_law_pair) llaw_pair claw_pair klaw_pair
  have blaw_pair := Flaw_pair.binds (ps := ["hand"]) fun _ _ _ _ _ _ us hl => match us, hl with | [_], _ => rfl
  have Flaw_common := fun_mk (st := s_law_common) llaw_common claw_common klaw_common
  have blaw_common := Flaw_common.binds (ps := ["one", "other"]) fun _ _ _ _ _ _ us hl => match us, hl with | [_, _], _ => rfl
  have Flaw_is := fun_mk (st := s_law_is) llaw_is claw_is klaw_is
  have blaw_is := Flaw_is.binds (ps := ["thing", "top", "bottom"]) fun _ _ _ _ _ _ us hl => match us, hl with | [_, _, _], _ => rfl
  have Flaw_refused := fun_mk (st := s_law_refused) llaw_refused claw_refused klaw_refused
  have blaw_refused := Flaw_refused.binds (ps := ["kind", "ratio", "other"]) fun _ _ _ _ _ _ us hl => match us, hl with | [_, _, _], _ => rfl
  have Flaw_right := fun_mk (st := s_law_right) llaw_right claw_right klaw_right
  have blaw_right := Flaw_right.binds (ps := ["one", "other", "a", "b", "c", "d"]) fun _ _ _ _ _ _ us hl => match us, hl with | [_, _, _, _, _, _], _ => rfl
  have Flaw := fun_mk (st := s_law) llaw claw klaw
  have blaw := Flaw.binds (ps := ["script"]) fun _ _ _ _ _ _ us hl => match us, hl with | [_], _ => rfl
  let T : Top K mg := { C_Ratio := CRatio, cl_Ratio := ⟨pgRatio, hdRatio, poRatio, saRatio⟩, g_Ratio := PySem.W.mg_of X G aRatio, na_Ratio_top := naRatio_top, na_Ratio_bottom := naRatio_bottom, f_WayError__init := fWayError__init, fd_WayError__init := _, F_WayError__init := FWayError__init, b_WayError__init := bWayError__init, f_is_integer := fis_integer, fd_is_integer := _, F_is_integer := Fis_integer, b_is_integer := bis_integer, g_is_integer := PySem.W.mg_of X G ais_integer, f_Ratio__init := fRatio__init, fd_Ratio__init := _, F_Ratio__init := FRatio__init, b_Ratio__init := bRatio__init, b1_Ratio__init := b1Ratio__init, M_Ratio := ⟨mkRatio, aRatio__init, iRatio__init, kcRatio⟩, f_Ratio__eq := fRatio__eq, fd_Ratio__eq := _, F_Ratio__eq := FRatio__eq, b_Ratio__eq := bRatio__eq, m_Ratio__eq := ⟨aRatio__eq, iRatio__eq, kRatio__eq⟩, f_Ratio__add := fRatio__add, fd_Ratio__add := _, F_Ratio__add := FRatio__add, b_Ratio__add := bRatio__add, m_Ratio__add := ⟨aRatio__add, iRatio__add, kRatio__add⟩, f_Ratio__radd := fRatio__radd, fd_Ratio__radd := _, F_Ratio__radd := FRatio__radd, b_Ratio__radd := bRatio__radd, m_Ratio__radd := ⟨aRatio__radd, iRatio__radd, kRatio__radd⟩, f_Ratio__sub := fRatio__sub, fd_Ratio__sub := _, F_Ratio__sub := FRatio__sub, b_Ratio__sub := bRatio__sub, m_Ratio__sub := ⟨aRatio__sub, iRatio__sub, kRatio__sub⟩, f_Ratio__rsub := fRatio__rsub, fd_Ratio__rsub := _, F_Ratio__rsub := FRatio__rsub, b_Ratio__rsub := bRatio__rsub, m_Ratio__rsub := ⟨aRatio__rsub, iRatio__rsub, kRatio__rsub⟩, f_Ratio__mul := fRatio__mul, fd_Ratio__mul := _, F_Ratio__mul := FRatio__mul, b_Ratio__mul := bRatio__mul, m_Ratio__mul := ⟨aRatio__mul, iRatio__mul, kRatio__mul⟩, f_Ratio__rmul := fRatio__rmul, fd_Ratio__rmul := _, F_Ratio__rmul := FRatio__rmul, b_Ratio__rmul := bRatio__rmul, m_Ratio__rmul := ⟨aRatio__rmul, iRatio__rmul, kRatio__rmul⟩, f_Ratio__neg := fRatio__neg, fd_Ratio__neg := _, F_Ratio__neg := FRatio__neg, b_Ratio__neg := bRatio__neg, m_Ratio__neg := ⟨aRatio__neg, iRatio__neg, kRatio__neg⟩, f_Ratio_over := fRatio_over, fd_Ratio_over := _, F_Ratio_over := FRatio_over, b_Ratio_over := bRatio_over, m_Ratio_over := ⟨aRatio_over, iRatio_over, kRatio_over⟩, f_Ratio_less := fRatio_less, fd_Ratio_less := _, F_Ratio_less := FRatio_less, b_Ratio_less := bRatio_less, m_Ratio_less := ⟨aRatio_less, iRatio_less, kRatio_less⟩, f_is_number := fis_number, fd_is_number := _, F_is_number := Fis_number, b_is_number := bis_number, g_is_number := PySem.W.mg_of X G ais_number, f_as_ratio := fas_ratio, fd_as_ratio := _, F_as_ratio := Fas_ratio, b_as_ratio := bas_ratio, g_as_ratio := PySem.W.mg_of X G aas_ratio, f_sum_of := fsum_of, fd_sum_of := _, F_sum_of := Fsum_of, b_sum_of := bsum_of, g_sum_of := PySem.W.mg_of X G asum_of, f_product_of := fproduct_of, fd_product_of := _, F_product_of := Fproduct_of, b_product_of := bproduct_of, g_product_of := PySem.W.mg_of X G aproduct_of, f_law_hand := flaw_hand, fd_law_hand := _, F_law_hand := Flaw_hand, b_law_hand := blaw_hand, g_law_hand := PySem.W.mg_of X G alaw_hand, f_law_draw := flaw_draw, fd_law_draw := _, F_law_draw := Flaw_draw, b_law_draw := blaw_draw, g_law_draw := PySem.W.mg_of X G alaw_draw, f_law_number := flaw_number, fd_law_number := _, F_law_number := Flaw_number, b_law_number := blaw_number, g_law_number := PySem.W.mg_of X G alaw_number, f_law_pair := flaw_pair, fd_law_pair := _, F_law_pair := Flaw_pair, b_law_pair := blaw_pair, g_law_pair := PySem.W.mg_of X G alaw_pair, f_law_common := flaw_common, fd_law_common := _, F_law_common := Flaw_common, b_law_common := blaw_common, g_law_common := PySem.W.mg_of X G alaw_common, f_law_is := flaw_is, fd_law_is := _, F_law_is := Flaw_is, b_law_is := blaw_is, g_law_is := PySem.W.mg_of X G alaw_is, f_law_refused := flaw_refused, fd_law_refused := _, F_law_refused := Flaw_refused, b_law_refused := blaw_refused, g_law_refused := PySem.W.mg_of X G alaw_refused, f_law_right := flaw_right, fd_law_right := _, F_law_right := Flaw_right, b_law_right := blaw_right, g_law_right := PySem.W.mg_of X G alaw_right, f_law := fa, fd_law := _, F_law := Flaw, b_law := blaw, g_law := PySem.W.mg_of X G alaw, n_abs := PySem.W.mg_none_of X G zabs, n_int := PySem.W.mg_none_of X G zint, n_len := PySem.W.mg_none_of X G zlen, n_range := PySem.W.mg_none_of X G zrange, n_isinstance := PySem.W.mg_none_of X G zisinstance, n_bool := PySem.W.mg_none_of X G zbool, C_BN := CBN, g_BadNumber := PySem.W.mg_of X G aBN, g_gcd := PySem.W.mg_of X G agcd, haR := haR, hnO := hnO, htO := htO, hmR := hmR, neR := neR, oex_BadNumber := ⟨⟨nm, qn, N, bs, _, sn, sub, ab, col, dd, m0, m1, m2, m3, m5, xBN, refs_we⟩, saBN, exBN, tyBN, kcBN⟩, i_BadNumber := inBN, tI := tiBN, v_BadNumber := vaBN, xf_BadNumber := ⟨gaBN, ggBN, exBN, hdBN⟩, exI_BadNumber := ⟨gaBN, ggBN, exBN, hdBN, clBN, hnO, htO, moBN⟩, exm := exm_self exBN icBN tyBN sBB, kBN := kit_self _, kRR := kit_self _, kRi := qRi, kRb := qRb, nfR := nfR, sfR := sfR, subIR := sIR, subRI := sRI, kT := fun t ht => by simp only [List.mem_cons, List.not_mem_nil, or_false] at ht; rcases ht with rfl | rfl | rfl | rfl | rfl | rfl | rfl; exact ⟨qNoneType, nNoneType⟩; exact ⟨qbool, nbool⟩; exact ⟨qint, nint⟩; exact ⟨qstr, nstr⟩; exact ⟨qlist, nlist⟩; exact ⟨qtuple, ntuple⟩; exact ⟨qdict, ndict⟩, fo_add := foadd, ro_add := roadd, at_add := by rw [dn_add]; exact aRatio__add, at_radd := by rw [dn_radd]; exact aRatio__radd, ia_add := by rw [dn_add]; exact ioadd, ib_add := by rw [dn_radd]; exact iradd, fo_sub := fosub, ro_sub := rosub, at_sub := by rw [dn_sub]; exact aRatio__sub, at_rsub := by rw [dn_rsub]; exact aRatio__rsub, ia_sub := by rw [dn_sub]; exact iosub, ib_sub := by rw [dn_rsub]; exact irsub, fo_mul := fomul, ro_mul := romul, at_mul := by rw [dn_mul]; exact aRatio__mul, at_rmul := by rw [dn_rmul]; exact aRatio__rmul, ia_mul := by rw [dn_mul]; exact iomul, ib_mul := by rw [dn_rmul]; exact irmul }
  exact ⟨PySem.W.fnOf "law" "law" (defArgs s_law) (defBody s_law) (defScope s_law) .none kVlaw dclaw pmlaw anlaw cdlaw ctlaw, fun s v => .of_eq rfl, fun base _ _ => ok_law T⟩
theorem walk {l : PySem.W.OpenLaw} {q : Program} {loose : List Str} {XP : (Str → Option Value) → Heap → Prop} {YP : World → Heap → Prop} {d : DefRec} {K : Params → PySem.W.Frag} (hn : l.most = some 63) (hdf : d.params.defaults = [])
    (hY : ∀ (w : World) (h : Heap), YP w h → (K w.params).In h)
    (F : ∀ (w : World) (mg : Str → Option Value) (fa : Addr) (h : Heap), (K w.params).In h → h.Ns mainGlobals mg → mg d.name = some (.ref fa) →
      ∃ fd : FuncData, (∀ (s : Shared) (u : Value), BindsTo s fd ⟨[u], []⟩ [("script", u)]) ∧ ∀ base : Heap, (K w.params).In base → base.Ns mainGlobals mg → FnOk l.prog w (K w.params) mg base CX0 12 fa fd ["script"] (spLaw (K w.params))) :
    PySem.W.WalkO q loose XP YP l.row.toRowW d [] (fun f vs => PySem.call f vs) :=
  L2.walk_of (n := 63) (k := 12) (x := "script") (CX := fun _ => CX0) (sp := fun w => spLaw (K w.params)) hn (by decide) hdf ⟨rfl, by decide, by decide⟩ hY F (fun _ _ a ns hl _ hS => ⟨a, ns, rfl, hS, hl, fun _ => rfl⟩) fun _ _ _ _ _ z => z

end Toy
open PySem PySem.W PyProof.Rows in
set_option maxRecDepth 100000 in
set_option maxHeartbeats 0 in
theorem PySem.Challenge.cw_watchedways_k23_operators_of_ratios_holds : PySem.Challenge.rw_watchedways_k23_operators_of_ratios.Holds := by
  w_on; o_law; k_head; (case hw => w_witness2)
  k_fill
  refine Toy.walk (l := PySem.Challenge.rw_watchedways_k23_operators_of_ratios) rfl rfl (fun w h Y => PySem.W.kIn_of Y) ?F
  case F =>
    intro w mg fa h KX G hmg
    refine' Toy.all_mk KX G hmg ?aRatio ?pgRatio ?hdRatio ?poRatio ?saRatio ?mkRatio ?kcRatio ?naRatio_top ?naRatio_bottom ?aWayError__init ?iWayError__init ?lWayError__init ?cWayError__init ?kWayError__init ?ais_integer ?lis_integer ?cis_integer ?kis_integer ?aRatio__init ?iRatio__init ?lRatio__init ?cRatio__init ?kRatio__init ?dRatio__init ?eRatio__init ?aRatio__eq ?iRatio__eq ?lRatio__eq ?cRatio__eq ?kRatio__eq ?aRatio__add ?iRatio__add ?lRatio__add ?cRatio__add ?kRatio__add ?aRatio__radd ?iRatio__radd ?lRatio__radd ?cRatio__radd ?kRatio__radd ?aRatio__sub ?iRatio__sub ?lRatio__sub ?cRatio__sub ?kRatio__sub ?aRatio__rsub ?iRatio__rsub ?lRatio__rsub ?cRatio__rsub ?kRatio__rsub ?aRatio__mul ?iRatio__mul ?lRatio__mul ?cRatio__mul ?kRatio__mul ?aRatio__rmul ?iRatio__rmul ?lRatio__rmul ?cRatio__rmul ?kRatio__rmul ?aRatio__neg ?iRatio__neg ?lRatio__neg ?cRatio__neg ?kRatio__neg ?aRatio_over ?iRatio_over ?lRatio_over ?cRatio_over ?kRatio_over ?aRatio_less ?iRatio_less ?lRatio_less ?cRatio_less ?kRatio_less ?ais_number ?lis_number ?cis_number ?kis_number ?aas_ratio ?las_ratio ?cas_ratio ?kas_ratio ?asum_of ?lsum_of ?csum_of ?ksum_of ?aproduct_of ?lproduct_of ?cproduct_of ?kproduct_of ?alaw_hand ?llaw_hand ?claw_hand ?klaw_hand ?alaw_draw ?llaw_draw ?claw_draw ?klaw_draw ?alaw_number ?llaw_number ?claw_number ?klaw_number ?alaw_pair ?llaw_pair ?claw_pair ?klaw_pair ?alaw_common ?llaw_common ?claw_common ?klaw_common ?alaw_is ?llaw_is ?claw_is ?klaw_is ?alaw_refused ?llaw_refused ?claw_refused ?klaw_refused ?alaw_right ?llaw_right ?claw_right ?klaw_right ?alaw ?llaw ?claw ?klaw ?zabs ?zint ?zlen ?zrange ?zisinstance ?zbool ?aBN ?aWE ?agcd ?haR ?hnO ?htO ?hmR ?neR ?xBN ?saBN ?exBN ?tyBN ?kcBN ?inBN ?tiBN ?vaBN ?gaBN ?ggBN ?hdBN ?clBN ?moBN ?icBN ?sBB ?qRi ?qRb ?nfR ?sfR ?sIR ?sRI ?ioadd ?iradd ?iosub ?irsub ?iomul ?irmul ?qNoneType ?nNoneType ?qbool ?nbool ?qint ?nint ?qstr ?nstr ?qlist ?nlist ?qtuple ?ntuple ?qdict ?ndict
    (case aBN => k_is)
    (case aWE => k_is)
    (case aRatio => k_is)
    (case pgRatio => k_is)
    (case hdRatio => k_is)
    (case poRatio => k_is)
    (case saRatio => k_is)
    (case mkRatio => k_is)
    (case kcRatio => k_is)
    (case naRatio_top => k_is)
    (case naRatio_bottom => k_is)
    (case aWayError__init => k_is)
    (case iWayError__init => k_is)
    (case lWayError__init => k_is)
    (case cWayError__init => k_is)
    (case kWayError__init => k_is)
    (case ais_integer => k_is)
    (case lis_integer => k_is)
    (case cis_integer => k_is)
    (case kis_integer => k_is)
    (case aRatio__init => k_is)
    (case iRatio__init => k_is)
    (case lRatio__init => k_is)
    (case cRatio__init => k_is)
    (case kRatio__init => k_is)
    (case dRatio__init => k_is)
    (case eRatio__init => exact ⟨[_], _, rfl, .cons ⟨_, rfl⟩ .nil⟩)
    (case aRatio__eq => k_is)
    (case iRatio__eq => k_is)
    (case lRatio__eq => k_is)
    (case cRatio__eq => k_is)
    (case kRatio__eq => k_is)
    (case aRatio__add => k_is)
    (case iRatio__add => k_is)
    (case lRatio__add => k_is)
    (case cRatio__add => k_is)
    (case kRatio__add => k_is)
    (case aRatio__radd => k_is)
    (case iRatio__radd => k_is)
    (case lRatio__radd => k_is)
    (case cRatio__radd => k_is)
    (case kRatio__radd => k_is)
    (case aRatio__sub => k_is)
    (case iRatio__sub => k_is)
    (case lRatio__sub => k_is)
    (case cRatio__sub => k_is)
    (case kRatio__sub => k_is)
    (case aRatio__rsub => k_is)
    (case iRatio__rsub => k_is)
    (case lRatio__rsub => k_is)
    (case cRatio__rsub => k_is)
    (case kRatio__rsub => k_is)
    (case aRatio__mul => k_is)
    (case iRatio__mul => k_is)
    (case lRatio__mul => k_is)
    (case cRatio__mul => k_is)
    (case kRatio__mul => k_is)
    (case aRatio__rmul => k_is)
    (case iRatio__rmul => k_is)
    (case lRatio__rmul => k_is)
    (case cRatio__rmul => k_is)
    (case kRatio__rmul => k_is)
    (case aRatio__neg => k_is)
    (case iRatio__neg => k_is)
    (case lRatio__neg => k_is)
    (case cRatio__neg => k_is)
    (case kRatio__neg => k_is)
    (case aRatio_over => k_is)
    (case iRatio_over => k_is)
    (case lRatio_over => k_is)
    (case cRatio_over => k_is)
    (case kRatio_over => k_is)
    (case aRatio_less => k_is)
    (case iRatio_less => k_is)
    (case lRatio_less => k_is)
    (case cRatio_less => k_is)
    (case kRatio_less => k_is)
    (case ais_number => k_is)
    (case lis_number => k_is)
    (case cis_number => k_is)
    (case kis_number => k_is)
    (case aas_ratio => k_is)
    (case las_ratio => k_is)
    (case cas_ratio => k_is)
    (case kas_ratio => k_is)
    (case asum_of => k_is)
    (case lsum_of => k_is)
    (case csum_of => k_is)
    (case ksum_of => k_is)
    (case aproduct_of => k_is)
    (case lproduct_of => k_is)
    (case cproduct_of => k_is)
    (case kproduct_of => k_is)
    (case alaw_hand => k_is)
    (case llaw_hand => k_is)
    (case claw_hand => k_is)
    (case klaw_hand => k_is)
    (case alaw_draw => k_is)
    (case llaw_draw => k_is)
    (case claw_draw => k_is)
    (case klaw_draw => k_is)
    (case alaw_number => k_is)
    (case llaw_number => k_is)
    (case claw_number => k_is)
    (case klaw_number => k_is)
    (case alaw_pair => k_is)
    (case llaw_pair => k_is)
    (case claw_pair => k_is)
    (case klaw_pair => k_is)
    (case alaw_common => k_is)
    (case llaw_common => k_is)
    (case claw_common => k_is)
    (case klaw_common => k_is)
    (case alaw_is => k_is)
    (case llaw_is => k_is)
    (case claw_is => k_is)
    (case klaw_is => k_is)
    (case alaw_refused => k_is)
    (case llaw_refused => k_is)
    (case claw_refused => k_is)
    (case klaw_refused => k_is)
    (case alaw_right => k_is)
    (case llaw_right => k_is)
    (case claw_right => k_is)
    (case klaw_right => k_is)
    (case alaw => k_is)
    (case llaw => k_is)
    (case claw => k_is)
    (case klaw => k_is)
    (case zabs => k_is)
    (case zint => k_is)
    (case zlen => k_is)
    (case zrange => k_is)
    (case zisinstance => k_is)
    (case zbool => k_is)
    (case agcd => k_is)
    (case haR => k_is)
    (case hnO => k_is)
    (case htO => k_is)
    (case hmR => k_is)
    (case neR => k_is)
    (case xBN => k_is)
    (case saBN => k_is)
    (case exBN => k_is)
    (case tyBN => k_is)
    (case kcBN => k_is)
    (case inBN => k_is)
    (case tiBN => k_is)
    (case vaBN => k_is)
    (case gaBN => k_is)
    (case ggBN => k_is)
    (case hdBN => k_is)
    (case clBN => k_is)
    (case moBN => k_is)
    (case icBN => k_is)
    (case sBB => k_is)
    (case qRi => first | k_is | kernel_rfl | decide +kernel)
    (case qRb => first | k_is | kernel_rfl | decide +kernel)
    (case nfR => k_is)
    (case sfR => k_is)
    (case sIR => k_is)
    (case sRI => k_is)
    (case ioadd => k_is)
    (case iradd => k_is)
    (case iosub => k_is)
    (case irsub => k_is)
    (case iomul => k_is)
    (case irmul => k_is)
    (case qNoneType => first | k_is | kernel_rfl | decide +kernel)
    (case nNoneType => k_is)
    (case qbool => first | k_is | kernel_rfl | decide +kernel)
    (case nbool => k_is)
    (case qint => first | k_is | kernel_rfl | decide +kernel)
    (case nint => k_is)
    (case qstr => first | k_is | kernel_rfl | decide +kernel)
    (case nstr => k_is)
    (case qlist => first | k_is | kernel_rfl | decide +kernel)
    (case nlist => k_is)
    (case qtuple => first | k_is | kernel_rfl | decide +kernel)
    (case ntuple => k_is)
    (case qdict => first | k_is | kernel_rfl | decide +kernel)
    (case ndict => k_is)

