import PyProof.Rows.All
import Wide.All
import OpenK.AllK
import Wide.FinOn
import KE.KExcIs
import HandS.ForMost
import HandS.ForExc
import HandS.Codes
import HandS.Wide
import HandS.IsInst
import HandS.ExcInit
import HandS.ExcField
import HandS.ExcIs
import HandS.TryMany
import HandS.CallSlots
import HandS.Defaults
import HandS.Gcd
import HandS.DeepEq
import HandS.Flow
import HandS.TupLe
import PyProof.SumWalk
import PyProof.Rows.CountFlat

import PySem.Challenge.RW_watchedways_k24_whole_sums_and_products
set_option Elab.async false
set_option linter.all false
set_option maxRecDepth 100000
set_option maxHeartbeats 4000000
set_option exponentiation.threshold 3000

/-! ### readings, step by step -/
namespace RD
open PySem L2
section
variable {σ : St} {H : Hp} {Q : VK} {B : Bool → Hp → Prop} {A : List V → Hp → Prop} {K : PySem.W.Frag} {v x y : V} {i j : Int} {n : Nat} {ta tb tc te : TE} {tA tB' : TT} {r r' : R2} {t : TA}
theorem d_var {n : Nat} {v : V} (e : σ[n]? = some (some v)) (h : Q v H) : tVar n σ H Q := ⟨v, e, h⟩
theorem d_c (h : Q v H) : tC v σ H Q := h
theorem d_op (h : ta σ H fun x H1 => tb σ H1 fun y H2 => r x y H2 Q) : tOp r ta tb σ H Q := h
theorem d_un {r : V → Hp → VK → Prop} (h : ta σ H fun x H1 => r x H1 Q) : tUn r ta σ H Q := h
theorem d_cb {r : List V → Hp → VK → Prop} (h : t σ H fun vs H1 => r vs H1 Q) : tCB r t σ H Q := h
theorem d_call {sp : Sp} {dvs : List V} {E : XK} (h : t σ H fun vs H1 => sp (vs ++ dvs) H1 Q E) : tCall sp dvs E t σ H Q := h
theorem d_nil (h : A [] H) : tNil σ H A := h
theorem d_cons {ta : TE} {tr : TA} (h : ta σ H fun x H1 => tr σ H1 fun xs H2 => A (x :: xs) H2) : tCons ta tr σ H A := h
theorem d_lst (h : t σ H fun xs H1 => xs.length ≤ sizeLine ∧ ∀ p, H1 p = none → Q (.ref p) (upd H1 p (.lst xs))) : tLst t σ H Q := h
theorem d_tup (h : t σ H fun xs H1 => xs.length ≤ sizeLine ∧ ∀ p, H1 p = none → Q (.ref p) (upd H1 p (.tup xs))) : tTup t σ H Q := h
theorem d_test (h : ta σ H fun x H' => ∃ k, x = .bl k ∧ B k H') : tTest ta σ H B := h
theorem d_tB (h : ta σ H fun x H' => ∃ k, x = .bl k ∧ B k H') : L2.tB ta σ H B := h
theorem d_bl {b : Bool} {R : Bool → Prop} (h : R b) : ∃ k, V.bl b = .bl k ∧ R k := ⟨b, rfl, h⟩
theorem d_and (h : tA σ H fun c H1 => if c = true then tB' σ H1 B else B false H1) : tAnd tA tB' σ H B := h
theorem d_or (h : tA σ H fun c H1 => if c = true then B true H1 else tB' σ H1 B) : tOr tA tB' σ H B := h
theorem d_not (h : tA σ H fun c H1 => B (!c) H1) : tNot tA σ H B := h
theorem d_andV (h : ta σ H fun x H1 => ∃ c, x = .bl c ∧ if c = true then tb σ H1 Q else Q (.bl false) H1) : tAndV ta tb σ H Q := h
theorem d_orV (h : ta σ H fun x H1 => ∃ c, x = .bl c ∧ if c = true then Q (.bl true) H1 else tb σ H1 Q) : tOrV ta tb σ H Q := h
theorem d_notV (h : ta σ H fun x H1 => ∃ c, x = .bl c ∧ Q (.bl (!c)) H1) : tNotV ta σ H Q := h
theorem d_if (h : tA σ H fun c H1 => if c = true then ta σ H1 Q else tb σ H1 Q) : tIf tA ta tb σ H Q := h
theorem d_rI0 {g : Int → Int → V} (h : Q (g i j) H) : rI0 g (.int i) (.int j) H Q := ⟨i, j, rfl, rfl, h⟩
theorem d_rI {C : Int → Int → Prop} {g : Int → Int → V} (c : C i j) (h : Q (g i j) H) : rI C g (.int i) (.int j) H Q := ⟨i, j, rfl, rfl, c, h⟩
theorem d_rU {g : Int → V} (h : Q (g i) H) : rU g (.int i) H Q := ⟨i, rfl, h⟩
theorem d_eqI (h : Q (.bl (decide (i = j))) H) : rEq (.int i) (.int j) H Q := ⟨rfl, by
  have e : decide (V.int i = V.int j) = decide (i = j) := by rw [dec_int, Bool.eq_iff_iff]; simp
  rw [e]; exact h⟩
theorem d_neI (h : Q (.bl (!decide (i = j))) H) : rNe (.int i) (.int j) H Q := ⟨rfl, by
  have e : decide (V.int i = V.int j) = decide (i = j) := by rw [dec_int, Bool.eq_iff_iff]; simp
  rw [e]; exact h⟩
theorem d_eqB {i j : Bool} (h : Q (.bl (decide (i = j))) H) : rEq (.bl i) (.bl j) H Q := ⟨rfl, by
  have e : decide (V.bl i = V.bl j) = decide (i = j) := by rw [dec_bl, Bool.eq_iff_iff]; simp
  rw [e]; exact h⟩
theorem d_eqS {i j : Str} (h : Q (.bl (decide (i = j))) H) : rEq (.str i) (.str j) H Q := ⟨rfl, by
  have e : decide (V.str i = V.str j) = decide (i = j) := by rw [dec_str, Bool.eq_iff_iff]; simp
  rw [e]; exact h⟩
theorem d_neS {i j : Str} (h : Q (.bl (!decide (i = j))) H) : rNe (.str i) (.str j) H Q := ⟨rfl, by
  have e : decide (V.str i = V.str j) = decide (i = j) := by rw [dec_str, Bool.eq_iff_iff]; simp
  rw [e]; exact h⟩
theorem d_ixL {p : Addr} {xs : List V} {v : V} (hs : SqL K H p xs) (e : atI xs i = some v) (h : Q v H) : rIxL K (.ref p) (.int i) H Q := ⟨p, xs, i, v, rfl, rfl, hs, e, h⟩
theorem d_ixT {p : Addr} {xs : List V} {v : V} (hs : SqT K H p xs) (e : atI xs i = some v) (h : Q v H) : rIxT K (.ref p) (.int i) H Q := ⟨p, xs, i, v, rfl, rfl, hs, e, h⟩
theorem d_setL {p : Addr} {xs : List V} {k : Nat} {R : Hp → Prop} (hp : H p = some (.lst xs)) (e : ixN xs.length i = some k) (h : R (upd H p (.lst (xs.set k v)))) : rSetL (.ref p) (.int i) v H R := ⟨p, xs, i, k, rfl, rfl, hp, e, h⟩
theorem d_gname {R : St → Hp → Prop} (h : R (σ.set n (some v)) H) : gName n v σ H R := h
theorem d_gsub {to ti : TE} {ts : TSet} {R : St → Hp → Prop} (h : to σ H fun o H1 => ti σ H1 fun i H2 => ts o i v H2 fun H3 => R σ H3) : gSub to ti ts v σ H R := h
section
variable {nx bk ct : St → Hp → Prop} {rt : VK} {u w : TS} {g : TG}
theorem d_seq (h : u ⟨w ⟨nx, rt, bk, ct⟩, rt, bk, ct⟩ σ H) : tSeq u w ⟨nx, rt, bk, ct⟩ σ H := h
theorem d_asg (h : te σ H fun x H1 => g x σ H1 nx) : tAsg te g ⟨nx, rt, bk, ct⟩ σ H := h
theorem d_ret (h : te σ H rt) : tRet te ⟨nx, rt, bk, ct⟩ σ H := h
theorem d_next (h : nx σ H) : tNext ⟨nx, rt, bk, ct⟩ σ H := h
theorem d_drop (h : te σ H fun _ H1 => nx σ H1) : tDrop te ⟨nx, rt, bk, ct⟩ σ H := h
theorem d_ifS (h : tA σ H fun b H1 => if b = true then u ⟨nx, rt, bk, ct⟩ σ H1 else w ⟨nx, rt, bk, ct⟩ σ H1) : tIfS tA u w ⟨nx, rt, bk, ct⟩ σ H := h
theorem d_cut (Mid : St → Hp → Prop) (h : u ⟨Mid, rt, bk, ct⟩ σ H) (k : ∀ σ' H', Mid σ' H' → w ⟨nx, rt, bk, ct⟩ σ' H') : C8.tCut u w ⟨nx, rt, bk, ct⟩ σ H := ⟨Mid, h, k⟩
theorem d_par {t : TA} {i j : Nat} (h : t σ H fun vs H1 => ∃ v w, vs = [v, w] ∧ nx ((σ.set i (some v)).set j (some w)) H1) : tPar i j t ⟨nx, rt, bk, ct⟩ σ H := h
end
def rInt1 : List V → Hp → VK → Prop := fun xs H Q => (∃ i, xs = [.int i] ∧ Q (.int i) H) ∨ ∃ k, xs = [.bl k] ∧ Q (.int (if k then 1 else 0)) H
theorem c_int {X : Cx} : CallR X (.type "int") rInt1 := call_int1
theorem d_int (h : Q (.int i) H) : rInt1 [.int i] H Q := .inl ⟨i, rfl, h⟩
theorem d_intB {b : Bool} (h : Q (.int (if b then 1 else 0)) H) : rInt1 [.bl b] H Q := .inr ⟨b, rfl, h⟩
def rAbs : List V → Hp → VK → Prop := fun xs H Q => ∃ i, xs = [.int i] ∧ Q (.int (if i < 0 then -i else i)) H
theorem c_abs {X : Cx} : CallR X (.builtin "abs") rAbs := call_abs
theorem d_abs (h : Q (.int (if i < 0 then -i else i)) H) : rAbs [.int i] H Q := ⟨i, rfl, h⟩
def rLen (K : PySem.W.Frag) : List V → Hp → VK → Prop := fun xs H Q => ∃ x n, xs = [x] ∧ LenV K x H n ∧ Q (.int n) H
theorem c_len {X : Cx} : CallR X (.builtin "len") (rLen X.K) := call_len
theorem d_lenL {p : Addr} {xs : List V} (hs : SqL K H p xs) (h : Q (.int xs.length) H) : rLen K [.ref p] H Q := ⟨_, _, rfl, .inl ⟨xs, hs, rfl⟩, h⟩
theorem d_lenT {p : Addr} {xs : List V} (hs : SqT K H p xs) (h : Q (.int xs.length) H) : rLen K [.ref p] H Q := ⟨_, _, rfl, .inr ⟨xs, hs, rfl⟩, h⟩
theorem d_lenS {z : Str} (hs : z.length ≤ sizeLine) (h : Q (.int z.length) H) : rLen K [.str z] H Q := ⟨_, _, rfl, ⟨hs, rfl⟩, h⟩
def rIsN : R2 := fun x y H Q => y = .non ∧ Q (.bl (decide (x = .non))) H
theorem o_isN {X : Cx} : OpR X (compareOp .Is) rIsN := op_isN
theorem d_isN (h : Q (.bl (decide (x = .non))) H) : rIsN x .non H Q := ⟨rfl, h⟩
def rNotN : R2 := fun x y H Q => y = .non ∧ Q (.bl (!decide (x = .non))) H
theorem o_notN {X : Cx} : OpR X (compareOp .IsNot) rNotN := op_notN
theorem d_notN (h : Q (.bl (!decide (x = .non))) H) : rNotN x .non H Q := ⟨rfl, h⟩
theorem d_iList {tl : TE} {R : It → Hp → Prop} (h : tl σ H fun x H1 => ∃ a, x = .ref a ∧ (∃ xs, SqL K H1 a xs) ∧ R (Itl K a) H1) : iList K tl σ H R := h
theorem d_refL {p : Addr} {xs : List V} {R : Addr → Prop} (hs : SqL K H p xs) (h : R p) : ∃ a, V.ref p = .ref a ∧ (∃ xs, SqL K H a xs) ∧ R a := ⟨p, rfl, ⟨xs, hs⟩, h⟩
theorem d_rng1 {t : TA} {R : It → Hp → Prop} (h : t σ H fun vs H1 => ∃ j : Int, vs = [.int j] ∧ -(2 ^ 62) ≤ j ∧ j < 2 ^ 62 ∧ R (Itr 0 j.toNat) H1) : iRng1 t σ H R := h
theorem d_lc {wi : TI} {g : TG} {tt : TT} {vs : List Nat} (h : wi σ H fun J H1 => ∀ D, H1 D = none → ∃ W : Nat → Nat → Hp → Prop, (∃ m, W 0 m (upd H1 D (.lst []))) ∧ ∀ i m H, W i m H →
  (J.stop i H ∧ Q (.ref D) H) ∨ (J.go i H ∧ ∃ Nx : Hp → Prop, (∀ H', Nx H' → ∃ m', m' < m ∧ W (i + 1) m' H') ∧ ∀ x H', J.yld i H x H' → g x (wipe σ vs) H' fun σ2 H2 => wipe σ2 vs = wipe σ vs ∧ tt σ2 H2 fun b H3 =>
    if b = true then te σ2 H3 fun y H4 => ∃ acc, H4 D = some (.lst acc) ∧ acc.length < sizeLine ∧ Nx (upd H4 D (.lst (acc ++ [y]))) else Nx H3)) : tLc wi g tt te vs σ H Q := h
theorem d_yes (h : B true H) : tYes σ H B := h
theorem d_iteT {X Y : Prop} (h : X) : if true = true then X else Y := by rw [if_pos rfl]; exact h
theorem d_iteF {X Y : Prop} (h : Y) : if false = true then X else Y := by rw [if_neg Bool.false_ne_true]; exact h
theorem d_wipe {R : Prop} {vs : List Nat} {σ' : St} (e : wipe σ' vs = wipe σ vs) (h : R) : wipe σ' vs = wipe σ vs ∧ R := ⟨e, h⟩
theorem d_sl {r : V → Option Int → Option Int → Hp → VK → Prop} {tl th : TO} (h : te σ H fun x H1 => tl σ H1 fun l H2 => th σ H2 fun u H3 => r x l u H3 Q) : tSl r te tl th σ H Q := h
theorem d_noPart {Q : Option Int → Hp → Prop} (h : Q none H) : tNoPart σ H Q := h
theorem d_part {Q : Option Int → Hp → Prop} (h : te σ H fun x H1 => ∃ i, x = .int i ∧ Q (some i) H1) : tPart te σ H Q := h
theorem d_exI {R : Int → Prop} (h : R i) : ∃ k, V.int i = .int k ∧ R k := ⟨i, rfl, h⟩
theorem d_isi {c : V} {t u : Value} {b : Bool} (hc : ClsV c u) (ty : TyX K H x t) (e : PySem.W.kitOne K t u = some b) (h : Q (.bl b) H) : rIsi K [x, c] H Q := ⟨x, c, t, u, b, rfl, hc, ty, e, h⟩
theorem d_fld {f : Str} (h : ta σ H fun x H1 => ∃ a C dx fs v, x = .ref a ∧ H1 a = some (.ins C dx fs) ∧ Cls K C ∧ NoAttr K C f ∧ fs.lookup f = some v ∧ Q v H1) : tFld K ta f σ H Q := h
theorem d_iteNF {X Y : Prop} (h : X) : if (!false) = true then X else Y := by rw [if_pos (show (!false) = true from rfl)]; exact h
theorem d_iteNT {X Y : Prop} (h : Y) : if (!true) = true then X else Y := by rw [if_neg (by decide)]; exact h
theorem d_iteDT {P X Y : Prop} {inst : Decidable P} (c : P) (h : X) : if decide P = true then X else Y := by rw [if_pos (decide_eq_true c)]; exact h
theorem d_iteDF {P X Y : Prop} {inst : Decidable P} (c : ¬ P) (h : Y) : if decide P = true then X else Y := by rw [if_neg (by simpa using c)]; exact h
theorem d_gcd (h : Q (.int ((Nat.gcd i.natAbs j.natAbs : Nat) : Int)) H) : rGcd [.int i, .int j] H Q := ⟨i, j, rfl, h⟩
theorem d_sfld {f : Str} {tv : TE} {nx bk ct : St → Hp → Prop} {rt : VK} (h : tv σ H fun y H1 => ta σ H1 fun x H2 => ∃ a C dx fs, x = .ref a ∧ H2 a = some (.ins C dx fs) ∧ Cls K C ∧ NoAttr K C f ∧ fs.length < 1000 ∧
  nx σ (upd H2 a (.ins C dx (putF f y fs)))) : sFld K ta tv f ⟨nx, rt, bk, ct⟩ σ H := h
theorem d_for {wi : TI} {g : TG} {tb : TS} {nx bk ct : St → Hp → Prop} {rt : VK} (h : wi σ H fun J H1 => ∃ W : Nat → Nat → St → Hp → Prop, (∃ m, W 0 m σ H1) ∧ ∀ i m σ H, W i m σ H →
  (J.stop i H ∧ nx σ H) ∨ (J.go i H ∧ ∃ N : St → Hp → Prop, (∀ σ' H', N σ' H' → ∃ m', m' < m ∧ W (i + 1) m' σ' H') ∧ ∀ x H', J.yld i H x H' → g x σ H' fun σ2 H2 => tb ⟨N, rt, nx, N⟩ σ2 H2)) :
  tFor wi g tb ⟨nx, rt, bk, ct⟩ σ H := h
theorem f_range {lo : Int} {n : Nat} {g : TG} {tb : TS} {nx : St → Hp → Prop} {rt : VK} (Pv : Nat → St → Hp → Prop) (h0 : Pv 0 σ H)
    (hs : ∀ i σ H, i < n → Pv i σ H → g (.int (lo + i)) σ H fun σ2 H2 => tb ⟨Pv (i + 1), rt, nx, Pv (i + 1)⟩ σ2 H2) (hd : ∀ σ H, Pv n σ H → nx σ H) :
    ∃ W : Nat → Nat → St → Hp → Prop, (∃ m, W 0 m σ H) ∧ ∀ i m σ H, W i m σ H → ((Itr lo n).stop i H ∧ nx σ H) ∨ ((Itr lo n).go i H ∧ ∃ N : St → Hp → Prop, (∀ σ' H', N σ' H' → ∃ m', m' < m ∧ W (i + 1) m' σ' H') ∧
      ∀ x H', (Itr lo n).yld i H x H' → g x σ H' fun σ2 H2 => tb ⟨N, rt, nx, N⟩ σ2 H2) := for_range (D := ⟨nx, rt, fun _ _ => False, fun _ _ => False⟩) Pv h0 hs hd
theorem f_list {K : PySem.W.Frag} {a : Addr} {xs : List V} {g : TG} {tb : TS} {nx : St → Hp → Prop} {rt : VK} (Pv : Nat → St → Hp → Prop) (h0 : Pv 0 σ H) (hl : ∀ i σ H, i ≤ xs.length → Pv i σ H → SqL K H a xs)
    (hs : ∀ i x σ H, xs[i]? = some x → Pv i σ H → g x σ H fun σ2 H2 => tb ⟨Pv (i + 1), rt, nx, Pv (i + 1)⟩ σ2 H2) (hd : ∀ σ H, Pv xs.length σ H → nx σ H) :
    ∃ W : Nat → Nat → St → Hp → Prop, (∃ m, W 0 m σ H) ∧ ∀ i m σ H, W i m σ H → ((Itl K a).stop i H ∧ nx σ H) ∨ ((Itl K a).go i H ∧ ∃ N : St → Hp → Prop, (∀ σ' H', N σ' H' → ∃ m', m' < m ∧ W (i + 1) m' σ' H') ∧
      ∀ x H', (Itl K a).yld i H x H' → g x σ H' fun σ2 H2 => tb ⟨N, rt, nx, N⟩ σ2 H2) := for_list (D := ⟨nx, rt, fun _ _ => False, fun _ _ => False⟩) Pv h0 hl hs hd
theorem iteD {P X Y : Prop} {inst : Decidable P} (h1 : P → X) (h2 : ¬ P → Y) : if decide P = true then X else Y := by
  by_cases h : P
  · rw [if_pos (decide_eq_true h)]; exact h1 h
  · rw [if_neg (by simpa using h)]; exact h2 h
theorem iteN {P X Y : Prop} {inst : Decidable P} (h1 : ¬ P → X) (h2 : P → Y) : if (!decide P) = true then X else Y := by
  by_cases h : P
  · rw [if_neg (by simpa using h)]; exact h2 h
  · rw [if_pos (by simpa using h)]; exact h1 h
end
end RD

/-! ### own == and != of a class of the text -/
namespace OQ
open PySem L2 PySem.Spec PyProof.Rows
section
variable {X : Cx} {CX : CXT} {C f : Addr} {fd : FuncData} {ps : List Str} {sp : Sp} {E : XK} {k : Nat}
/-- a def of the text called somewhere below the body that runs -/
theorem run_at {A : Around} (hA : A.frames = X.A.frames) (hr : Room k A) {pins : List (Addr × Obj)} {σ : L2.St} {H : Hp} {s : Shared} {Q : VK} {us : List Value} {vs : List V}
    (F : FnOk X.prog X.w X.K X.mg X.base CX k f fd ps sp) (hb : Binds X.K fd ps []) (hx : Passes CX X E) (I : Inv X pins σ H s) (r : Vals vs us) (h : sp vs H Q E) :
    wpAny (model X.prog X.w) A (call (.ref f) us) (EP X pins σ Q) X.xe s := by
  have z := I.env0
  have e0 : Env0 X.prog X.w X.K X.mg X.base A X.stack s H := ⟨hA ▸ z.frames, z.mod, z.bs, z.bsz, z.funs, z.frf, z.hok, z.bare⟩
  have hl : us.length = ps.length := by rw [← r.length]; exact F.len _ _ _ _ h
  have b := hb s us I.kIn (by rw [List.append_nil]; exact hl)
  rw [List.append_nil] at b
  refine wpAny_call (codeAny_mono (F.run A X.stack s H ⟨us, []⟩ us vs Q E hr e0 b r h) ?_)
  rintro (e | fl) s' hq
  · exact hx pins σ H s e s' I hq
  · cases fl with
    | ret u => exact I.after hq
    | next => exact hq.elim
    | brk => exact hq.elim
    | cont => exact hq.elim
theorem cmpBack_of {pins : List (Addr × Obj)} {σ : L2.St} {Q : VK} {u : Value} {s' : Shared} (h : EP X pins σ Q u s') : PySem.W.CmpBack (EP X pins σ Q) u s' := by
  obtain ⟨v, H', I', r, q⟩ := h
  have e : EP X pins σ Q u s' := ⟨v, H', I', r, q⟩
  cases u <;> first
    | exact e
    | (exfalso; cases v <;> first | exact Value.noConfusion r | (obtain ⟨t, rt⟩ := r; exact Value.noConfusion rt))
/-- x == y by the __eq__ of x's class -/
def rOwnEq (K : PySem.W.Frag) (C : Addr) (sp : Sp) (E : XK) : R2 := fun x y H Q => ∃ a dx fs t, x = .ref a ∧ H a = some (.ins C dx fs) ∧ TyX K H y t ∧ PySem.W.notFirst K C t = true ∧ sp [x, y] H Q E
theorem op_ownEq (F : FnOk X.prog X.w X.K X.mg X.base CX k f fd ps sp) (hr : Room k X.A) (hs : PySem.W.findIn X.K (.ref C) "__eq__" = some (some (.ref f))) (hf : PySem.W.isFn X.K (.ref f) = true)
    (hb : Binds X.K fd ps []) (hx : Passes CX X E) : OpR X (compareOp .Eq) (rOwnEq X.K C sp E) := by
  intro pins s σ H x y v u Q I rx ry hq
  obtain ⟨a, dx, fs, t, rfl, ha, ty, nf, q⟩ := hq
  cases rx
  obtain ⟨_, J0, _⟩ := ins_get I.hok ha
  obtain ⟨_, J, _⟩ := J0.look
  obtain ⟨_, hF⟩ := I.fr
  obtain ⟨_, kx, hp, _⟩ := kit_of I ry ty
  exact PySem.W.cmp_K (op := .Eq) hr.units0 hF I.ok.mod.kin J (kx.ty _ _ I.kIn hp) nf hs hf
    (wpAny_mono (run_at rfl hr F hb hx I (vs := [V.ref a, y]) (us := [Value.ref a, u]) (Paired.cons (show RelV (V.ref a) (Value.ref a) from rfl) (Paired.cons ry .nil)) q) (fun _ _ z => cmpBack_of z) fun _ _ z => z)
/-- looking a builtin slot up at an instance and calling it -/
theorem ifBound_B {M : Model} {A : Around} {E : Value → Shared → Prop} {s : Shared} {K : PySem.W.Frag} {x C : Addr} {ox : Obj} {od : Option Obj} {name : Str} {id : String} {args : List Value} {Q : Option Value → Shared → Prop} (Z : K.In s.heap)
    (I : PySem.W.InstAt s.heap x ox C od) (hs : PySem.W.findIn K (.ref C) name = some (some (.builtin id))) (S : bindSpecial (.builtin id) (.ref x) = pure (Value.builtin id, [Value.ref x]))
    (h : wpAny M A (call (.builtin id) (.ref x :: args)) (fun v => Q (some v)) E s) : wpAny M A (callSpecialIfBound? (.ref x) name args) Q E s := by
  have fin : wpAny M A (call (.builtin id) ([Value.ref x] ++ args) >>= fun v => pure (some v)) Q E s :=
    wpAny_bind (wpAny_mono h (fun _ _ z => wpAny_pure z) fun _ _ z => z)
  have tail : wpAny M A (some <$> (pure (Value.builtin id, [Value.ref x]) : Sem (Value × List Value))) (fun a s' => wpAny M A (match a with
    | some (g, first) => call g (first ++ args) >>= fun v => pure (some v)
    | none => pure none) Q E s') E s := wpAny_bind (wpAny_pure (wpAny_pure fin))
  simp only [callSpecialIfBound?, bindSpecialIfBound?]
  refine wpAny_holding ?_
  refine wpAny_bind ?_
  refine wpAny_bind ?_
  refine wpAny_bind (I.type.here ?_)
  refine (PySem.W.looks_findIn Z hs).here ?_
  simp only [S]
  refine wpAny_bind ?_
  refine wpAny_askSetting ?_
  refine wpAny_ite ?_
  split
  · refine wpAny_bind ?_
    exact wpAny_pure (wpAny_pure fin)
  · refine wpAny_tryCatch ?_
    refine wpAny_bind ?_
    exact wpAny_pure (wpAny_pure fin)
/-- object.__ne__(x, y) by the own __eq__ -/
theorem ne_body {M : Program} {w : World} {A : Around} {E : Value → Shared → Prop} {s : Shared} {K : PySem.W.Frag} {x C f : Addr} {ox : Obj} {od : Option Obj} {b : Value} {Q : Fin → Shared → Prop} (Z : K.In s.heap) (hu : A.units < cLine)
    (I : PySem.W.InstAt s.heap x ox C od) (hs : PySem.W.findIn K (.ref C) "__eq__" = some (some (.ref f))) (hf : PySem.W.isFn K (.ref f) = true)
    (h : wpAny (model M w) A (call (.ref f) [.ref x, b]) (fun v s' => ∃ r, v = .bool r ∧ Q (.done (.ret (.bool (!r)))) s') E s) :
    wpAny (model M w) A (Builtin.«object.__ne__» ⟨[.ref x, b], []⟩) Q E s := by
  unfold Builtin.«object.__ne__»
  have step : wpAny (model M w) A (callSpecialIfBound? (.ref x) "__eq__" [b]) (fun o s' => ∃ r, o = some (.bool r) ∧ Q (.done (.ret (.bool (!r)))) s') E s :=
    PySem.W.ifBound_K Z I hs hf (wpAny_mono h (fun v s' ⟨r, e, q⟩ => ⟨r, by rw [e], q⟩) fun _ _ z => z)
  refine wpAny_bind (wpAny_of_eq (a := ((Value.ref x : Value), [b])) (by first | rfl | (simp only [slotArgs]; rfl)) ?_)
  dsimp only
  refine wpAny_bind (wpAny_cRoomFor hu ?_)
  refine wpAny_bind (wpAny_mono step (fun o s' hv => ?_) fun _ _ z => z)
  obtain ⟨r, rfl, q⟩ := hv
  dsimp only
  refine wpAny_bind ?_
  refine wpAny_truthy_bool ?_
  exact wpAny_pure q
end
/-- x != y by the __eq__ of x's class -/
def rOwnNe (K : PySem.W.Frag) (C : Addr) (sp : Sp) (E : XK) : R2 := fun x y H Q => ∃ a dx fs t, x = .ref a ∧ H a = some (.ins C dx fs) ∧ TyX K H y t ∧ PySem.W.notFirst K C t = true ∧ sp [x, y] H (fun v H' => ∃ r, v = .bl r ∧ Q (.bl (!r)) H') E
section
variable {X : Cx} {CX : CXT} {C f : Addr} {fd : FuncData} {ps : List Str} {sp : Sp} {E : XK} {k : Nat}
theorem op_ownNe (F : FnOk X.prog X.w X.K X.mg X.base CX k f fd ps sp) (hr : Room (k + 1) X.A) (hs : PySem.W.findIn X.K (.ref C) "__eq__" = some (some (.ref f))) (hf : PySem.W.isFn X.K (.ref f) = true)
    (hn : PySem.W.findIn X.K (.ref C) "__ne__" = some (some (.builtin "object.__ne__"))) (hm : PySem.W.mroIn X.K C (.type "object") = some true)
    (hb : Binds X.K fd ps []) (hx : Passes CX X E) : OpR X (compareOp .NotEq) (rOwnNe X.K C sp E) := by
  intro pins s σ H x y v u Q I rx ry hq
  obtain ⟨a, dx, fs, t, rfl, ha, ty, nf, q⟩ := hq
  cases rx
  obtain ⟨_, J0, _⟩ := ins_get I.hok ha
  obtain ⟨_, J, _⟩ := J0.look
  obtain ⟨_, hF⟩ := I.fr
  obtain ⟨_, kx, hp, _⟩ := kit_of I ry ty
  have hlook := kx.ty (model X.prog X.w) _ I.kIn hp
  have hu := hr.units0
  have body := ne_body (M := X.prog) (w := X.w) (A := X.A.in1) (E := X.xe) (b := u) (Q := fun fin s' => ∃ r : Bool, fin = .done (.ret (.bool r)) ∧ EP X pins σ Q (.bool r) s') I.kIn hr.in1.units0 J hs hf
    (wpAny_mono (run_at (A := X.A.in1) rfl hr.in1 F hb hx I (vs := [V.ref a, y]) (us := [Value.ref a, u]) (Paired.cons (show RelV (V.ref a) (Value.ref a) from rfl) (Paired.cons ry .nil)) q) (fun w' s' z => by
      obtain ⟨v', H', I', rr, r, e, q'⟩ := z
      subst e
      exact ⟨r, rr, !r, rfl, .bl (!r), H', I', rfl, q'⟩) fun _ _ z => z)
  have one : wpAny (model X.prog X.w) X.A (tryCompare (.ref a) "__ne__" u) (fun o s' => ∃ r : Bool, o = some (.bool r) ∧ EP X pins σ Q (.bool r) s') X.xe s := by
    unfold tryCompare
    refine wpAny_bind (ifBound_B I.kIn J hn (PySem.F.cmp_object.ne.bind _) (wpAny_call (codeAny_call_builtin PySem.F.cmp_object.ne.plain PySem.F.cmpEntry_ne ?_)))
    refine PySem.W.check_slot PySem.F.cmpKind_ne PySem.F.cmpSplit_ne (J.type.andThen (PySem.W.looks_mroIn I.kIn hm)) (PySem.F.cmpArgs_ne _ _) ?_
    refine wpAny_mono body (fun fin s' z => ?_) fun _ _ z => z
    obtain ⟨r, rfl, ep⟩ := z
    exact wpAny_pure ⟨r, rfl, ep⟩
  show wpAny (model X.prog X.w) X.A (richCompare .NotEq (.ref a) u) (EP X pins σ Q) X.xe s
  unfold richCompare
  simp only [oneThing_ref]
  refine wpAny_holding ?_
  refine wpAny_bind (wpAny_cRoomFor hu ?_)
  refine wpAny_bind (J.type.here ?_)
  refine wpAny_bind (hlook.here ?_)
  have fin : ∀ {β : Type} {z : Value → Sem Value} {y : Sem Value}, True := fun {_ _ _} => trivial
  split
  · rename_i qq
    have e : PySem.W.subIn X.K t (.ref C) = some false := by
      rcases Bool.or_eq_true_iff.mp nf with e | e
      · rw [beq_iff_eq.mp e] at qq
        simp at qq
      · exact beq_iff_eq.mp e
    refine wpAny_bind ((PySem.W.looks_subIn I.kIn e).here ?_)
    simp only [Bool.false_eq_true, if_false]
    refine wpAny_bind (wpAny_mono one (fun o s' z => ?_) fun _ _ z => z)
    obtain ⟨r, rfl, ep⟩ := z
    exact wpAny_pure ep
  · refine wpAny_bind (wpAny_pure ?_)
    simp only [Bool.false_eq_true, if_false]
    refine wpAny_bind (wpAny_mono one (fun o s' z => ?_) fun _ _ z => z)
    obtain ⟨r, rfl, ep⟩ := z
    exact wpAny_pure ep
end
end OQ

/-! ### errors: isinstance of a caught one that has fields; making an instance within a try -/
namespace OQ
open PySem L2 PySem.Spec PyProof.Rows
/-- isinstance(e, c), e the error that the suite holds at a: its class cls, its dict d -/
def rIsX (K : PySem.W.Frag) (D a : Addr) (cls : Value) (d : Option Addr) : List V → Hp → VK → Prop := fun xs H Q => ∃ (c : V) (cv : Value) (b : Bool) (dd : Addr) (fs : List (Str × V)),
  xs = [.ref a, c] ∧ cls = .ref D ∧ d = some dd ∧ H dd = some (.xd fs) ∧ ClsV c cv ∧ PySem.W.kitOne K (.ref D) cv = some b ∧ Q (.bl b) H
theorem call_isX {X : Cx} {a D : Addr} {cls : Value} {d : Option Addr} {oe : Obj} {pn : List (Addr × Obj)} (C : ExcC X.K D) (hz : Zc cls d oe) (hf : ∃ vs, oe.data = .fields vs) :
    CallR (X.suite a ((a, oe) :: pn)) (.builtin "isinstance") (rIsX X.K D a cls d) := by
  rintro pins s σ H xs us Q I r ⟨c, cv, b, dd, fs, rfl, rfl, rfl, hx, hc, e, q⟩
  cases r with
  | cons rx rr => cases rr with
    | cons rt rr =>
      cases rr
      cases rx
      have ec := hc.eq rt
      subst ec
      obtain ⟨hget, _⟩ := I.pin (a, oe) (List.mem_append_left _ (List.mem_cons_self ..))
      obtain ⟨vs, hv⟩ := hf
      obtain ⟨_, hns, _⟩ := (show ObjOk X.prog X.w H s.heap dd (.xd fs) from I.hok dd _ hx)
      obtain ⟨od, ho, _⟩ := lookIn_ns hns
      have J : PySem.W.InstAt s.heap a oe D (some od) := ⟨hget, hz.1, (by unfold PySem.W.notCls; rw [hv] <;> rfl), (by rw [hz.2]; exact ho)⟩
      have hcl : (PySem.W.clsIn X.K D).isSome = true := by
        obtain ⟨cd, h1, _⟩ := PySem.W.any_some C.hd
        rw [h1]; rfl
      exact PySem.W.kia_one (PySem.W.kitx_exc hcl C.hg C.hk C.hs C.ha C.hn C.ht C.hm) I.kIn J e (fun z => Value.noConfusion z) fun tk => ⟨.bl b, H, I.kept (t' := tk) fun _ _ z => z, rfl, q⟩
section
variable {X : Cx} {CX : CXT} {C f : Addr} {fd : FuncData} {ps : List Str} {sp : Sp} {k : Nat} {ds : List Value} {dvs : List V} {E : L2.St → XK} {x : Str} {p pos : Pos} {e : Expr} {es : List Expr} {t : TA}
/-- C(e, ..), what is raised wished for at the slots -/
def tMakeS (C : Addr) (sp : Sp) (dvs : List V) (E : L2.St → XK) (t : TA) : TE := fun σ H Q => t σ H fun vs H1 => ∀ x dx, H1 x = none → H1 dx = none → dx ≠ x →
  sp (.ref x :: (vs ++ dvs)) (upd (upd H1 dx (.own x)) x (.ins C dx [])) (fun v H2 => v = .non ∧ Q (.ref x) H2) (E σ)
theorem pe_makeS (M : Mk X.K C f) (F : FnOk X.prog X.w X.K X.mg X.base CX k f fd ps sp) (hr : Room (k + 1) X.A) (hg : Gl X x) (hm : X.mg x = some (.ref C)) (hb : Binds X.K fd ps ds) (hd : Vals dvs ds)
    (hx : ∀ σ, PassesAt CX X σ (E σ)) (ha : PA X (e :: es) t) (hdb : (x == ("__debug__" : Str)) = false := by decide)
    (he : starEach (e :: es) X.env = (false, eval e X.env) :: starEach es X.env := by rfl) (hpl : (backTo pos (starEach es X.env)).any (·.1) = false := by rfl) :
    PE X (.Call (.Name x p) (e :: es) [] pos) (tMakeS C sp dvs E t) := by
  refine ⟨fun pins s σ H Q I h => ?_⟩
  refine wpAny_Call_Name_kw (ld_glob I hg hm ?_ hdb)
  refine PySem.W.callWith_K (h₀ := X.base) I.ok.mod.kin M.kp (thn (ha.run pos pins s σ H _ I h) ?_) he hpl
  rintro us s1 ⟨vs, H1, I1, r, q⟩
  refine ⟨I1.kIn, ?_⟩
  have nx : H1 (s1.heap.objs.size + 1) = none := I1.hok.fresh (Nat.le_succ _)
  have ndx : H1 s1.heap.objs.size = none := I1.hok.fresh (Nat.le_refl _)
  have hq := q _ _ nx ndx (Nat.ne_of_lt (Nat.lt_succ_self _))
  have I2 := Inv.made (C := C) I1
  have r2 : Vals (V.ref (s1.heap.objs.size + 1) :: (vs ++ dvs)) (Value.ref (s1.heap.objs.size + 1) :: (us ++ ds)) := .cons rfl (r.append hd)
  have hl : (Value.ref (s1.heap.objs.size + 1) :: us ++ ds).length = ps.length := (r2.length.symm).trans (F.len _ _ _ _ hq)
  refine wpAny_call (make_map (f := f) I1.kIn M.makes M.init (beq_iff_eq.mp M.fn) (codeAny_mono (F.run _ X.stack _ _ _ _ _ _ (E σ) (hr.make C us []) (I2.env0.make C us []) (hb _ (_ :: us) I2.kIn hl) r2 hq) ?_))
  rintro (er | fl) s' hq'
  · exact hx σ pins _ _ er s' I2 hq'
  · cases fl with
    | ret u =>
      obtain ⟨v, H', I3, rv, ev, q3⟩ := I2.after hq'
      subst ev
      exact ⟨rv, V.ref (s1.heap.objs.size + 1), H', I3, rfl, q3⟩
    | next => exact hq'.elim
    | brk => exact hq'.elim
    | cont => exact hq'.elim
end
/-- // by a divisor of either sign, below 2 ^ 9000 -/
def CDivX (_ j : Int) : Prop := j ≠ 0 ∧ j.natAbs.log2 < 9000
theorem op_fdivX {X : Cx} : OpR X (binaryOp .FloorDiv) (rI CDivX fun i j => .int (i.fdiv j)) := opI fun i j _ _ _ _ _ hc q => floordiv_int hc.1 q (.inl (PyProof.noPylong_of_log2 hc.2))
end OQ

namespace RM
/-- what both parts are divided by -/
def shr (i j : Int) : Int := if j < 0 then -((Nat.gcd i.natAbs j.natAbs : Nat) : Int) else ((Nat.gcd i.natAbs j.natAbs : Nat) : Int)
theorem gcd_pos {i j : Int} (h : j ≠ 0) : 0 < Nat.gcd i.natAbs j.natAbs := Nat.gcd_pos_of_pos_right _ (Int.natAbs_pos.mpr h)
theorem shr_ne {i j : Int} (h : j ≠ 0) : shr i j ≠ 0 := by
  have := gcd_pos (i := i) h
  unfold shr; split <;> omega
theorem shr_le {i j : Int} (h : j ≠ 0) : (shr i j).natAbs ≤ j.natAbs := by
  have := Nat.gcd_le_right i.natAbs (Int.natAbs_pos.mpr h)
  unfold shr; split <;> omega
theorem num_eq {i j : Int} (h : j ≠ 0) : i.fdiv (shr i j) = (Rat.divInt i j).num := by
  have g0 := gcd_pos (i := i) h
  have hd : ((Nat.gcd i.natAbs j.natAbs : Nat) : Int) ∣ i := Int.ofNat_dvd_left.mpr (Nat.gcd_dvd_left _ _)
  obtain ⟨k, hk⟩ := hd
  have e : j.gcd i = Nat.gcd i.natAbs j.natAbs := Nat.gcd_comm _ _
  rw [Rat.num_divInt, e]
  unfold shr
  generalize Nat.gcd i.natAbs j.natAbs = g at *
  split
  · rename_i hj
    rw [Int.sign_eq_neg_one_of_neg hj]
    have e1 : i = (-(g : Int)) * (-k) := by rw [hk, Int.neg_mul_neg]
    have e2 : -1 * i = (g : Int) * (-k) := by rw [hk, Int.mul_neg]; omega
    rw [e2, Int.mul_ediv_cancel_left _ (by omega)]
    conv => lhs; rw [e1]
    exact Int.mul_fdiv_cancel_left _ (by omega)
  · rename_i hj
    rw [Int.sign_eq_one_of_pos (by omega), Int.one_mul]
    conv => lhs; rw [hk]
    conv => rhs; rw [hk]
    rw [Int.mul_fdiv_cancel_left _ (by omega), Int.mul_ediv_cancel_left _ (by omega)]
theorem den_eq {i j : Int} (h : j ≠ 0) : j.fdiv (shr i j) = ((Rat.divInt i j).den : Int) := by
  have g0 := gcd_pos (i := i) h
  have hd : ((Nat.gcd i.natAbs j.natAbs : Nat) : Int) ∣ j := Int.ofNat_dvd_left.mpr (Nat.gcd_dvd_right _ _)
  obtain ⟨k, hk⟩ := hd
  have e : j.gcd i = Nat.gcd i.natAbs j.natAbs := Nat.gcd_comm _ _
  rw [Rat.den_divInt, if_neg h, e]
  unfold shr
  generalize Nat.gcd i.natAbs j.natAbs = g at *
  have ea : j.natAbs / g = k.natAbs := by rw [hk, Int.natAbs_mul, Int.natAbs_natCast, Nat.mul_div_cancel_left _ g0]
  rw [ea]
  split
  · rename_i hj
    have kn : k < 0 := by
      rcases Int.lt_or_le k 0 with q | q
      · exact q
      · have := Int.mul_nonneg (Int.natCast_nonneg g) q
        omega
    have e1 : j = (-(g : Int)) * (-k) := by rw [hk, Int.neg_mul_neg]
    conv => lhs; rw [e1]
    rw [Int.mul_fdiv_cancel_left _ (by omega)]
    omega
  · rename_i hj
    have kn : 0 ≤ k := by
      rcases Int.lt_or_le k 0 with q | q
      · have := Int.mul_neg_of_pos_of_neg (show (0 : Int) < g by omega) q
        omega
      · exact q
    conv => lhs; rw [hk]
    rw [Int.mul_fdiv_cancel_left _ (by omega)]
    omega
end RM

namespace OQ
open PySem L2
/-- one of two rules -/
theorem op_or {X : Cx} {f : Value → Value → Sem Value} {r1 r2 : R2} (h1 : OpR X f r1) (h2 : OpR X f r2) : OpR X f (fun x y H Q => r1 x y H Q ∨ r2 x y H Q) :=
  fun pins s σ H x y v u Q I rx ry h => h.elim (h1 pins s σ H x y v u Q I rx ry) (h2 pins s σ H x y v u Q I rx ry)
/-- what lets nothing out where the wish is empty -/
theorem passN {X : Cx} : Passes (L2.CX X.prog X.w) X E0 := fun pins σ H s e s' I h => by
  obtain ⟨_, _, _, _, _, _, _, _, _, _, _, _, f⟩ := h
  exact f.elim
section
variable {σ : L2.St} {H : Hp} {Q : VK} {K : PySem.W.Frag}
theorem d_makeS {C : Addr} {sp : Sp} {dvs : List V} {E : L2.St → XK} {t : TA} (h : t σ H fun vs H1 => ∀ x dx, H1 x = none → H1 dx = none → dx ≠ x →
  sp (.ref x :: (vs ++ dvs)) (upd (upd H1 dx (.own x)) x (.ins C dx [])) (fun v H2 => v = .non ∧ Q (.ref x) H2) (E σ)) : tMakeS C sp dvs E t σ H Q := h
theorem d_make {C : Addr} {sp : Sp} {dvs : List V} {E : XK} {t : TA} (h : t σ H fun vs H1 => ∀ x dx, H1 x = none → H1 dx = none → dx ≠ x →
  sp (.ref x :: (vs ++ dvs)) (upd (upd H1 dx (.own x)) x (.ins C dx [])) (fun v H2 => v = .non ∧ Q (.ref x) H2) E) : tMake C sp dvs E t σ H Q := h
end
end OQ
namespace OQ
open PySem L2
theorem d_isX {K : PySem.W.Frag} {D a : Addr} {cls : Value} {d : Option Addr} {H : Hp} {Q : VK} {c : V} {cv : Value} {b : Bool} {dd : Addr} {fs : List (Str × V)} (e1 : cls = .ref D) (e2 : d = some dd) (hx : H dd = some (.xd fs)) (hc : ClsV c cv)
    (e : PySem.W.kitOne K (.ref D) cv = some b) (h : Q (.bl b) H) : rIsX K D a cls d [.ref a, c] H Q := ⟨c, cv, b, dd, fs, rfl, e1, e2, hx, hc, e, h⟩
end OQ

/-! ### own + - * of a class of the text, also with an int on either side; own - in front -/
namespace OQ
open PySem L2 PySem.Spec PyProof.Rows
section
variable {prog : Program} {w : World} {A : Around} {E : Value → Shared → Prop} {s : Shared}
theorem decl_body {n : String} {f : Int → Int → Sem Fin} {i : Int} {t : Tok} {x C dx : Addr} {Q : Fin → Shared → Prop} (ho : s.heap.get? x = some (PySem.W.instObj C dx)) (q : Q (.done (.ret .notImplemented)) s) :
    wpAny (model prog w) A (Builtin.Int.intBinary n f false ⟨[.int i t, .ref x], []⟩) Q E s := by
  unfold Builtin.Int.intBinary
  refine wpAny_bind (wpAny_of_eq (a := ((Value.int i t : Value), [Value.ref x])) (by first | rfl | (simp only [slotArgs]; rfl)) ?_)
  dsimp only
  refine wpAny_bind (wpAny_of_eq (a := i) (by rfl) ?_)
  unfold asInt?
  obtain ⟨hp, g, d, tk, os⟩ := s
  dsimp only [List.headD]
  wp_walk using wpAny_loadPart_at ho
  exact q
/-- what is known of an operator at ints -/
structure IntOp (op : Operator) (id : String) : Prop where
  slot : Slot "int" (PySem.dunder op.info.2) id
  entry : ∃ n f, entryFor table id = some (Builtin.Int.intBinary n f false)
  args : ∀ a b, argsOk id ⟨[a, b], []⟩
  fills : fillsNumberSlot (.type "int") op.info.2 = pure true
theorem int_add : IntOp .Add "int.__add__" := ⟨PySem.F.slot_int_add, ⟨_, _, PySem.F.entry_int_add⟩, PySem.F.args_int_add_2, PySem.F.fills_int_add⟩
theorem int_sub : IntOp .Sub "int.__sub__" := ⟨PySem.F.slot_int_sub, ⟨_, _, PySem.F.entry_int_sub⟩, PySem.F.args_int_sub_2, PySem.F.fills_int_sub⟩
theorem int_mul : IntOp .Mult "int.__mul__" := ⟨PySem.F.slot_int_mul, ⟨_, _, PySem.F.entry_int_mul⟩, PySem.F.args_int_mul_2, PySem.F.fills_int_mul⟩
open PySem.W in
theorem refl_run {op : Operator} {id : String} (IO : IntOp op id) {K : Frag} {x C f f' dx : Addr} {i : Int} {t : Tok} {od : Option Obj} {Q : Value → Shared → Prop} (Z : K.In s.heap) (I : InstAt s.heap x (instObj C dx) C od) (hc : selfFirst K C = true)
    (hs : findIn K (.ref C) (PySem.dunder op.info.2) = some (some (.ref f'))) (hr : findIn K (.ref C) (dunderR op.info.2) = some (some (.ref f))) (hf : isFn K (.ref f) = true) (hsub : subIn K (.ref C) (.type "int") = some false)
    (h : wpAny (model prog w) A (call (.ref f) [.ref x, .int i t]) (PySem.W.CmpBack Q) E s) : wpAny (model prog w) A (binaryOp op (.int i t) (.ref x)) Q E s := by
  obtain ⟨cd, rest, hcd, hm⟩ := ksp_first hc
  have one := ksp_try Z I hr hf h
  have dec : wpAny (model prog w) A (tryMethod (.int i t) (PySem.dunder op.info.2) (.ref x)) (fun r s' => r = none ∧ s' = s) E s := by
    obtain ⟨n, g, en⟩ := IO.entry
    refine wpAny_tryMethod_declines rfl IO.slot (wpAny_call (codeAny_call_builtin IO.slot.plain en (IO.slot.check _ _ _ _ _ _ _ _ rfl (IO.args _ _) ?_)))
    exact decl_body I.at_ ⟨rfl, rfl, rfl⟩
  have hfl := IO.fills
  rcases hi : op.info with ⟨sym, nm'⟩
  rw [hi] at hs hr dec one hfl
  dsimp only at hs hr dec one hfl
  obtain ⟨hh, g, d, tt, os⟩ := s
  have L1 : Looks (model prog w) hh (typeOf (.int i t)) (.type "int") := Looks.of_pure rfl
  have L2 : Looks (model prog w) hh (typeOf (.ref x)) (.ref C) := I.type
  have L3 : Looks (model prog w) hh (fillsNumberSlot (.type "int") nm') true := Looks.of_pure hfl
  have L4 : Looks (model prog w) hh (fillsNumberSlot (.ref C) nm') true := fills_K Z hcd hm hs
  have L5 : Looks (model prog w) hh (isSubtype (.ref C) (.type "int")) false := looks_subIn Z hsub
  have L7 : Looks (model prog w) hh (numberSlotInPython (.type "int") nm') false := Looks.of_pure rfl
  have hne : (Value.type "int" == Value.ref C) = false := Bool.eq_false_iff.mpr fun q => by cases beq_iff_eq.mp q
  simp only [binaryOp, hi]
  refine wpAny_holding (wpAny_bind ?_)
  unfold binaryOp1
  refine wpAny_bind (L1.at (wpAny_bind (L2.at (wpAny_bind (L3.at ?_)))))
  simp only [hne, Bool.false_eq_true, if_false]
  ksp_lk
  refine wpAny_mono dec (fun r s' hr' => ?_) fun _ _ e => e
  obtain ⟨rfl, rfl⟩ := hr'
  ksp_lk
  refine wpAny_mono one (fun r s' hr' => ?_) fun _ _ e => e
  obtain ⟨v, rfl, hq⟩ := hr'
  ksp_lk
  exact hq
end
end OQ
namespace OQ
open PySem L2 PySem.Spec PyProof.Rows
section
variable {X : Cx} {CX : CXT} {C f f' : Addr} {fd : FuncData} {ps : List Str} {sp : Sp} {E : XK} {k : Nat} {op : Operator}
/-- x op y by the method of x's class; y of the same class, or an int -/
def rOwnB (C : Addr) (sp : Sp) (E : XK) : R2 := fun x y H Q => ∃ a dx fs, x = .ref a ∧ H a = some (.ins C dx fs) ∧ ((∃ b dy gs, y = .ref b ∧ H b = some (.ins C dy gs)) ∨ ∃ i, y = .int i) ∧ sp [x, y] H Q E
theorem op_ownB {fo ro : Option Value} (F : FnOk X.prog X.w X.K X.mg X.base CX k f fd ps sp) (hr : Room k X.A) (hc : PySem.W.selfFirst X.K C = true) (hs : PySem.W.findIn X.K (.ref C) (PySem.dunder op.info.2) = some (some (.ref f))) (hf : PySem.W.isFn X.K (.ref f) = true)
    (hrr : PySem.W.findIn X.K (.ref C) (dunderR op.info.2) = some (some (.ref f'))) (h1 : PySem.W.findIn X.K (.type "int") (PySem.dunder op.info.2) = some fo) (h2 : PySem.W.findIn X.K (.type "int") (dunderR op.info.2) = some ro)
    (hsub : PySem.W.subIn X.K (.type "int") (.ref C) = some false) (hb : Binds X.K fd ps []) (hx : Passes CX X E) : OpR X (binaryOp op) (rOwnB C sp E) := by
  intro pins s σ H x y v u Q I rx ry hq
  obtain ⟨a, dx, fs, rfl, ha, hy, q⟩ := hq
  cases rx
  obtain ⟨_, J0, _⟩ := ins_get I.hok ha
  obtain ⟨_, J, _⟩ := J0.look
  obtain ⟨_, hF⟩ := I.fr
  have call := wpAny_mono (run_at (A := X.A) rfl hr F hb hx I (vs := [V.ref a, y]) (us := [Value.ref a, u]) (Paired.cons (show RelV (V.ref a) (Value.ref a) from rfl) (Paired.cons ry .nil)) q) (fun _ _ z => cmpBack_of z) fun _ _ z => z
  rcases hy with ⟨b, dy, gs, rfl, hbb⟩ | ⟨i, rfl⟩
  · cases ry
    obtain ⟨_, J1, _⟩ := ins_get I.hok hbb
    obtain ⟨_, J2, _⟩ := J1.look
    exact PySem.W.binop_K hF I.ok.mod.kin J J2.type hc hs hf call
  · obtain ⟨t, rfl⟩ := ry
    exact PySem.W.ksp_binT (T := "int") hF I.ok.mod.kin J rfl hc hs hf hrr (.inr ⟨f', rfl⟩) h1 h2 hsub call
/-- i op y, i an int, by the reflected method of y's class -/
def rReflB (C : Addr) (sp : Sp) (E : XK) : R2 := fun x y H Q => ∃ i a dx fs, x = .int i ∧ y = .ref a ∧ H a = some (.ins C dx fs) ∧ sp [y, x] H Q E
theorem op_reflB {id : String} (IO : IntOp op id) (F : FnOk X.prog X.w X.K X.mg X.base CX k f fd ps sp) (hr : Room k X.A) (hc : PySem.W.selfFirst X.K C = true) (hs : PySem.W.findIn X.K (.ref C) (PySem.dunder op.info.2) = some (some (.ref f')))
    (hrr : PySem.W.findIn X.K (.ref C) (dunderR op.info.2) = some (some (.ref f))) (hf : PySem.W.isFn X.K (.ref f) = true) (hsub : PySem.W.subIn X.K (.ref C) (.type "int") = some false) (hb : Binds X.K fd ps []) (hx : Passes CX X E) :
    OpR X (binaryOp op) (rReflB C sp E) := by
  intro pins s σ H x y v u Q I rx ry hq
  obtain ⟨i, a, dx, fs, rfl, rfl, ha, q⟩ := hq
  cases ry
  obtain ⟨t, rfl⟩ := rx
  obtain ⟨_, _, _, ob, _⟩ := (show ObjOk X.prog X.w H s.heap a (.ins C dx fs) from I.hok a _ ha)
  obtain ⟨_, J0, _⟩ := ins_get I.hok ha
  obtain ⟨od, J, _⟩ := J0.look
  have e := J.at_.symm.trans ob
  have call := wpAny_mono (run_at (A := X.A) rfl hr F hb hx I (vs := [V.ref a, .int i]) (us := [Value.ref a, .int i t]) (Paired.cons (show RelV (V.ref a) (Value.ref a) from rfl) (Paired.cons ⟨t, rfl⟩ .nil)) q) (fun _ _ z => cmpBack_of z) fun _ _ z => z
  cases e
  exact refl_run IO I.kIn J hc hs hrr hf hsub call
/-- -x by the own __neg__ -/
def rOwnU (C : Addr) (sp : Sp) (E : XK) : V → Hp → VK → Prop := fun x H Q => ∃ a dx fs, x = .ref a ∧ H a = some (.ins C dx fs) ∧ sp [x] H Q E
theorem un_ownNeg (F : FnOk X.prog X.w X.K X.mg X.base CX k f fd ps sp) (hr : Room k X.A) (hs : PySem.W.findIn X.K (.ref C) "__neg__" = some (some (.ref f))) (hf : PySem.W.isFn X.K (.ref f) = true) (hb : Binds X.K fd ps []) (hx : Passes CX X E) :
    UnR X (unaryOp .USub) (rOwnU C sp E) := by
  intro pins s σ H x v Q I rx hq
  obtain ⟨a, dx, fs, rfl, ha, q⟩ := hq
  cases rx
  obtain ⟨_, J0, _⟩ := ins_get I.hok ha
  obtain ⟨_, J, _⟩ := J0.look
  obtain ⟨_, hF⟩ := I.fr
  exact PySem.W.ksp_neg hF I.ok.mod.kin J hs hf (run_at (A := X.A) rfl hr F hb hx I (vs := [V.ref a]) (us := [Value.ref a]) (Paired.cons (show RelV (V.ref a) (Value.ref a) from rfl) .nil) q)
end
end OQ

/-! ### two tuples of the very same items -/
namespace OQ
open PySem L2 PySem.Spec PyProof.Rows
def SameIt (v : V) : Prop := flatB v = true ∨ ∃ r, v = .ref r
theorem eqAt_it {A : Around} {s : Shared} {v : V} {u u' : Value} (h : SameIt v) (r : RelV v u) (r' : RelV v u') : SeqAt.EqAt A s u u' true := by
  rcases h with h | ⟨a, rfl⟩
  · exact eqAt_same r r' h
  · cases r
    cases r'
    exact SeqAt.EqAt.same _
def rTupS (K : PySem.W.Frag) (ans : Bool) : R2 := fun x y H Q => ∃ a b xs, x = .ref a ∧ y = .ref b ∧ SqT K H a xs ∧ SqT K H b xs ∧ (∀ v ∈ xs, SameIt v) ∧ Q (.bl ans) H
theorem its_same {A : Around} {s : Shared} {xs : List V} {us ws : List Value} (h : ∀ v ∈ xs, SameIt v) (r1 : Vals xs us) (r2 : Vals xs ws) (j : Nat) (h1 : j < us.toArray.size) (h2 : j < ws.toArray.size) :
    SeqAt.EqAt A s us.toArray[j] ws.toArray[j] true := by
  have k1 : j < us.length := by simpa using h1
  have k2 : j < ws.length := by simpa using h2
  have kx : j < xs.length := by rw [r1.length]; exact k1
  obtain ⟨u, hu, ru⟩ := r1.get (List.getElem?_eq_getElem kx)
  obtain ⟨v, hv, rv⟩ := r2.get (List.getElem?_eq_getElem kx)
  rw [List.getElem?_eq_getElem k1] at hu
  rw [List.getElem?_eq_getElem k2] at hv
  have e1 : us.toArray[j] = u := by simpa using Option.some.inj hu
  have e2 : ws.toArray[j] = v := by simpa using Option.some.inj hv
  rw [e1, e2]
  exact eqAt_it (h _ (List.getElem_mem kx)) ru rv
theorem op_neTS {X : Cx} (hu : X.A.units < cLine) : OpR X (compareOp .NotEq) (rTupS X.K false) := by
  rintro pins s σ H x y v u Q I rx ry ⟨a, b, xs, rfl, rfl, ha, hb, hs, q⟩
  cases rx
  cases ry
  obtain ⟨us, r1, p1, _⟩ := I.tuple ha
  obtain ⟨ws, r2, p2, _⟩ := I.tuple hb
  have e := SeqAt.RcNeAt.tuples (e := fun _ => true) p1 p2 hu (fun j h1 h2 => its_same hs r1 r2 j h1 h2)
  refine e X.prog X.w X.xe _ ?_
  have sz : us.toArray.size = ws.toArray.size := by rw [List.size_toArray, List.size_toArray, ← r1.length, ← r2.length]
  have all : (!((List.range (min us.toArray.size ws.toArray.size)).all (fun _ => true) && us.toArray.size == ws.toArray.size)) = false := by rw [sz]; simp
  rw [all]
  exact ⟨.bl false, H, I, rfl, q⟩
section
variable {X : Cx} {CX : CXT} {C f : Addr} {fd : FuncData} {ps : List Str} {sp : Sp} {k : Nat} {ds : List Value} {dvs : List V} {E : L2.St → XK}
/-- o.m(e, ..), what is raised wished for at the slots -/
def tMethS (C : Addr) (m : Str) (sp : Sp) (dvs : List V) (E : L2.St → XK) (ta : TE) (t : TA) : TE := fun σ H Q => ta σ H fun x H1 => ∃ a dx fs, x = .ref a ∧ H1 a = some (.ins C dx fs) ∧ fs.lookup m = none ∧
  t σ H1 fun vs H2 => sp (x :: (vs ++ dvs)) H2 Q (E σ)
theorem d_methS {m : Str} {ta : TE} {t : TA} {σ : L2.St} {H : Hp} {Q : VK} (h : ta σ H fun x H1 => ∃ a dx fs, x = .ref a ∧ H1 a = some (.ins C dx fs) ∧ fs.lookup m = none ∧ t σ H1 fun vs H2 => sp (x :: (vs ++ dvs)) H2 Q (E σ)) :
    tMethS C m sp dvs E ta t σ H Q := h
theorem d_meth {E : XK} {m : Str} {ta : TE} {t : TA} {σ : L2.St} {H : Hp} {Q : VK} (h : ta σ H fun x H1 => ∃ a dx fs, x = .ref a ∧ H1 a = some (.ins C dx fs) ∧ fs.lookup m = none ∧ t σ H1 fun vs H2 => sp (x :: (vs ++ dvs)) H2 Q E) :
    tMeth C m sp dvs E ta t σ H Q := h
theorem pe_methX {o e : Expr} {m : Str} {es : List Expr} {ta : TE} {t : TA} {apos pos : Pos} {pl : Sem Bool} (he : PE X o ta) (c : Cls X.K C) (hm : Meth X.K C m f) (F : FnOk X.prog X.w X.K X.mg X.base CX k f fd ps sp) (hr : Room k X.A)
    (hb : Binds X.K fd ps ds) (hd : Vals dvs ds) (hx : ∀ σ, PassesAt CX X σ (E σ)) (ha : PA X (e :: es) t)
    (hst : starEach (e :: es) X.env = (false, eval e X.env) :: starEach es X.env := by rfl) (hpl : (backTo pos (starEach es X.env)).any (·.1) = false := by rfl)
    (ht : eval (.Call (.Attribute o m apos) (e :: es) [] pos) X.env = (eval o X.env >>= fun ov => standAt apos.atName >>= fun _ => holding [ov] (getMethod ov m pl) >>= fun z =>
      callWith pos z.1 z.2 (backTo pos (starEach (e :: es) X.env)) (backToKw pos (keywordEach [] X.env))) := by rfl) :
    PE X (.Call (.Attribute o m apos) (e :: es) [] pos) (tMethS C m sp dvs E ta t) := by
  refine ⟨fun pins s σ H Q I h => ?_⟩
  refine PySem.W.methodCall_KW (pl := pl) (thn (he.run pins s σ H _ I h) ?_) ht
  rintro u s1 ⟨x, H1, I1, rx, a, dx, fs, rfl, ea, l, q⟩
  cases rx
  refine getmeth_ok I1 ea c hm l ?_
  refine PySem.W.callWith_K (first := [.ref a]) (h₀ := X.base) I.ok.mod.kin hm.kp (thn (ha.run pos pins s1 σ H1 _ I1 q) ?_) hst hpl
  rintro us s2 ⟨vs, H2, I2, r, q2⟩
  exact ⟨I2.kIn, run_fnSD (us := Value.ref a :: us) (vs := V.ref a :: vs) F hr hb hd (hx σ) I2 (.cons rfl r) q2⟩
end
end OQ

/-! ### sum(xs) of a list of objects whose class has own __add__, __radd__ -/
namespace OQ
open PySem L2 PySem.Spec PyProof.Rows
@[reducible] def cx1 (X : Cx) : Cx := { X with A := X.A.in1 }
theorem ok1 {X : Cx} (o : X.Ok) : (cx1 X).Ok := ⟨o.mod, o.kind, o.glob, o.blt, o.above, o.inj, o.has, o.cab, o.hd, o.frames, o.stk, o.exf, o.bs, o.bsz, o.noex, o.exfs, o.funs, o.frf⟩
@[reducible] def cx2 (X : Cx) : Cx := (cx1 X).wish fun _ _ => False
section
variable {X : Cx} {pins : List (Addr × Obj)} {σ : L2.St} {H : Hp} {s : Shared}
theorem inv2 (I : Inv X pins σ H s) : Inv (cx2 X) pins σ H s :=
  Inv.wish (X := cx1 X) ⟨ok1 I.ok, I.os, I.bare, I.base, I.loc, I.cell, I.free, I.freeC, I.pin, I.hok, I.len⟩ _
theorem inv2' (o : X.Ok) (I : Inv (cx2 X) pins σ H s) : Inv X pins σ H s :=
  ⟨o, I.os, I.bare, I.base, I.loc, I.cell, I.free, I.freeC, I.pin, I.hok, I.len⟩
/-- the sum so far, in its list -/
def accO (tv : Value) (c : Nat) : Obj := { cls := .type "list", dict := none, data := .seq #[tv] c, slots := #[] }
theorem sum_loop {r : R2} (hop : OpR (cx2 X) (binaryOp .Add) r) (hc : X.calm = true) {l it S : Addr} {xs : List V} (Pv : Nat → V → Hp → Prop) (hall : ∀ x ∈ xs, ∃ b, x = .ref b)
    (hl : ∀ i t H, Pv i t H → SqL X.K H l xs) (ht : ∀ i t H, Pv (i + 1) t H → ∃ b, t = .ref b) (step : ∀ i x t H, xs[i]? = some x → Pv i t H → r t x H (Pv (i + 1)))
    {R : VK} (hdone : ∀ t H, Pv xs.length t H → R t H) (nS : S ≠ it) :
    ∀ (k i : Nat) (s : Shared) (H : Hp) (t : V) (tv : Value) (st : Int) (c : Nat), xs.length - i = k → i ≤ xs.length → Inv X pins σ H s → FpOk X pins H it → FpOk X pins H S → s.heap.IsListIter it l i → s.heap.get? S = some (accO tv c) → RelV t tv → Pv i t H →
      ((st = 0 ∧ ∃ tok, tv = .int 0 tok) ∨ (st = 2 ∧ ∃ b, tv = .ref b)) →
      codeAny (model X.prog X.w) X.A (.builtin "sum.loop" ⟨[.ref it, .ref S, rawInt st, rawInt 0], []⟩) (fun rr s' => match rr with | .ok (.ret v) => EP X pins σ R v s' | .ok _ => False | .error e => X.xe e s') s := by
  intro k
  induction k with
  | zero =>
    intro i s H t tv st c hk hi I fi fS hst hS rt hP hcase
    have hin : i = xs.length := by omega
    subst hin
    refine codeAny_builtin F.entry_sum_loop ?_
    rw [Around.under_plainId F.plain_sum_loop _]
    show wpAny _ X.A.in1 (seqItems? (.ref S) >>= _) _ _ s
    refine wpAny_bind (wpAny_seqItems hS rfl ?_)
    show wpAny _ X.A.in1 (tryCatch (pyNext (.ref it)) _ >>= _) _ _ s
    refine wpAny_bind (wpAny_tryCatch ?_)
    obtain ⟨its, rv, p, hz⟩ := I.list (hl _ _ _ hP)
    have hlen := rv.length
    obtain ⟨f0, f1, f2, f3, f4, f5⟩ := fi
    refine wpAny_pyNext_list_end (A := X.A.in1) (I.ok.hd hc) hst p.isList (by simp; omega) fun h' eb => ?_
    have I1 : Inv X pins σ H { s with heap := h' } := I.turned (t' := s.toks) (fun b o hb e => eb b o hb e) f0 f1 f3 f4 f5
    rcases hcase with ⟨rfl, tok, rfl⟩ | ⟨rfl, b, rfl⟩
    · exact wpAny_pure ⟨t, H, I1, rt, hdone t H hP⟩
    · exact wpAny_pure ⟨t, H, I1, rt, hdone t H hP⟩
  | succ k ih =>
    intro i s H t tv st c hk hi I fi fS hst hS rt hP hcase
    have hlt : i < xs.length := by omega
    have hx : xs[i]? = some xs[i] := List.getElem?_eq_getElem hlt
    refine codeAny_builtin F.entry_sum_loop ?_
    rw [Around.under_plainId F.plain_sum_loop _]
    show wpAny _ X.A.in1 (seqItems? (.ref S) >>= _) _ _ s
    refine wpAny_bind (wpAny_seqItems hS rfl ?_)
    show wpAny _ X.A.in1 (tryCatch (pyNext (.ref it)) _ >>= _) _ _ s
    refine wpAny_bind (wpAny_tryCatch ?_)
    obtain ⟨its, rv, p, hz⟩ := I.list (hl _ _ _ hP)
    obtain ⟨u, hu, ru⟩ := rv.get hx
    refine wpAny_pyNext_list_item (A := X.A.in1) hst p.isList (x := u) (by simpa using hu) fun h' st' sb => ?_
    obtain ⟨g0, g1, g2, g3, g4, g5⟩ := id fi
    have I1 : Inv X pins σ H { s with heap := h' } := I.turned (t' := s.toks) (fun b o hb e => (sb.2 b hb).trans e) g0 g1 g3 g4 g5
    have hS1 : h'.get? S = some (accO tv c) := (sb.2 S nS).trans hS
    obtain ⟨b, hb⟩ := hall _ (List.getElem_mem hlt)
    have sp := step i _ t H hx hP
    rw [hb] at ru sp
    cases ru
    obtain ⟨oi, ei, ci, di⟩ := id st'
    have I2 := I1.pinned (fp := [it, S]) (fun b hb => by
      simp only [List.mem_cons, List.not_mem_nil, or_false] at hb
      rcases hb with rfl | rfl
      · exact fi
      · exact fS) (fun b hb => by
      simp only [List.mem_cons, List.not_mem_nil, or_false] at hb
      rcases hb with rfl | rfl
      · exact ⟨oi, ei, fun v z => by rw [di] at z; cases z⟩
      · exact ⟨_, hS1, fun v z => by cases z⟩)
    have pit := mem_pinsAt (fp := [it, S]) (h := h') (b := it) (by simp) ei
    have pS := mem_pinsAt (fp := [it, S]) (h := h') (b := S) (by simp) hS1
    -- the addition, and what is done behind it
    have tail : ∀ {nx : Value → Int} {Rr : Fin → Shared → Prop} {Er : Value → Shared → Prop}, True := fun {_ _ _} => trivial
    have add : wpAny (model X.prog X.w) X.A.in1 (holding [Value.ref b] (binaryOp .Add tv (.ref b))) (fun v s' => ∃ (a : Addr) (H' : Hp), v = .ref a ∧ Inv X pins σ H' s' ∧ FpOk X pins H' it ∧ FpOk X pins H' S ∧ s'.heap.IsListIter it l (i + 1) ∧ s'.heap.get? S = some (accO tv c) ∧ Pv (i + 1) (.ref a) H') (fun _ _ => False) { s with heap := h' } := by
      refine wpAny_holding ?_
      refine wpAny_mono (hop _ _ σ H t (.ref b) tv (.ref b) _ (inv2 I2) rt rfl sp) (fun v s' hv => ?_) fun _ _ z => z
      obtain ⟨t', H', I3, rt', q⟩ := hv
      obtain ⟨a, rfl⟩ := ht _ _ _ q
      cases rt'
      have I4 := inv2' I.ok I3
      have a1 := I4.pin _ (List.mem_append_right _ (List.mem_append_right _ pit))
      have a2 := I4.pin _ (List.mem_append_right _ (List.mem_append_right _ pS))
      exact ⟨a, H', rfl, I4.unpinned, ⟨a1.2.1, fi.2⟩, ⟨a2.2.1, fS.2⟩, ⟨oi, a1.1, ci, di⟩, a2.1, q⟩
    rcases hcase with ⟨rfl, tok, rfl⟩ | ⟨rfl, b', rfl⟩
    · refine wpAny_bind (wpAny_rule ?_)
      refine wpAny_bind (wpAny_attempt (wpAny_mono add (fun v s' hv => ?_) fun _ _ z => z.elim))
      obtain ⟨a, H', rfl, I4, f1, f2, st4, hS4, q⟩ := hv
      show wpAny _ X.A.in1 (updateSeq S (fun _ => #[.ref a]) >>= _) _ _ _
      refine wpAny_bind ?_
      refine wpAny_updateSeq hS4 rfl ?_
      have hS5 := Heap.get?_update_self (Obj.mapSeq fun _ => #[Value.ref a]) hS4 rfl
      refine wpAny_bind (wpAny_letGo ?_)
      refine wpAny_bind ?_
      refine wpAny_updateSeq hS5 rfl (wpAny_pure ⟨plainId_quiet F.plain_sum_loop _, ih (i + 1) _ H' (.ref a) (.ref a) 2 _ (by omega) hlt ?_ f1 f2 ?_ (Heap.get?_update_self _ hS5 rfl) rfl q (.inr ⟨rfl, a, rfl⟩)⟩)
      · obtain ⟨k0, k1, k2, k3, k4, k5⟩ := id f2
        exact I4.turned (t' := s'.toks) (fun b o hb e => (Heap.get?_update_other _ _ (Ne.symm hb)).trans ((Heap.get?_update_other _ _ (Ne.symm hb)).trans e)) k0 k1 k3 k4 k5
      · exact st4.at fun o e => (Heap.get?_update_other _ _ nS).trans ((Heap.get?_update_other _ _ nS).trans e)
    · refine wpAny_bind (wpAny_attempt (wpAny_mono add (fun v s' hv => ?_) fun _ _ z => z.elim))
      obtain ⟨a, H', rfl, I4, f1, f2, st4, hS4, q⟩ := hv
      show wpAny _ X.A.in1 (updateSeq S (fun _ => #[.ref a]) >>= _) _ _ _
      refine wpAny_bind ?_
      refine wpAny_updateSeq hS4 rfl ?_
      have hS5 := Heap.get?_update_self (Obj.mapSeq fun _ => #[Value.ref a]) hS4 rfl
      refine wpAny_bind (wpAny_letGo ?_)
      refine wpAny_bind ?_
      refine wpAny_updateSeq hS5 rfl (wpAny_pure ⟨plainId_quiet F.plain_sum_loop _, ih (i + 1) _ H' (.ref a) (.ref a) 2 _ (by omega) hlt ?_ f1 f2 ?_ (Heap.get?_update_self _ hS5 rfl) rfl q (.inr ⟨rfl, a, rfl⟩)⟩)
      · obtain ⟨k0, k1, k2, k3, k4, k5⟩ := id f2
        exact I4.turned (t' := s'.toks) (fun b o hb e => (Heap.get?_update_other _ _ (Ne.symm hb)).trans ((Heap.get?_update_other _ _ (Ne.symm hb)).trans e)) k0 k1 k3 k4 k5
      · exact st4.at fun o e => (Heap.get?_update_other _ _ nS).trans ((Heap.get?_update_other _ _ nS).trans e)
/-- sum(xs), xs objects -/
def rSumO (K : PySem.W.Frag) (r : R2) : List V → Hp → VK → Prop := fun vs H Q => ∃ (a : Addr) (xs : List V) (Pv : Nat → V → Hp → Prop), vs = [V.ref a] ∧ (∀ x ∈ xs, ∃ b, x = .ref b) ∧ Pv 0 (.int 0) H ∧ (∀ i t H, Pv i t H → SqL K H a xs) ∧
  (∀ i t H, Pv (i + 1) t H → ∃ b, t = .ref b) ∧ (∀ i x t H, xs[i]? = some x → Pv i t H → r t x H (Pv (i + 1))) ∧ ∀ t H, Pv xs.length t H → Q t H
theorem cr_sumO {r : R2} (hop : OpR (cx2 X) (binaryOp .Add) r) (hc : X.calm = true) : CallR X (.builtin "sum") (rSumO X.K r) := by
  intro pins s σ H vs us Q I rr h
  obtain ⟨l, xs, Pv, rfl, hall, h0, hl, ht, step, hd⟩ := h
  rw [Vals.ref1 rr]
  obtain ⟨its, rv, p, hz⟩ := I.list (hl _ _ _ h0)
  refine call_function_tree F.kind_sum F.plain_sum F.entry_sum (F.args_sum1 _) ?_
  unfold Builtin.«sum»
  simp only [List.length_cons, List.length_nil]
  rw [if_neg (by decide)]
  refine wpAny_bind (wpAny_of_eq (show Builtin.Builtins.bindParams "sum" ["start"] 0 { } = pure [none] from rfl) ?_)
  refine wpAny_bind (wpAny_pyIter_list p.isList ?_)
  refine wpAny_bind (wpAny_mkInt ?_)
  refine wpAny_bind (wpAny_pure ?_)
  simp only [List.forIn_cons, List.forIn_nil]
  refine wpAny_bind (wpAny_bind (wpAny_bind (wpAny_isInstance (T := "int") (b := false) (typeIs_int _ _ _) PySem.sub_int_str ?_)))
  simp only [Bool.false_eq_true, if_false]
  refine wpAny_pure (wpAny_bind (wpAny_bind (wpAny_isInstance (T := "int") (b := false) (typeIs_int _ _ _) PySem.sub_int_bytes ?_)))
  simp only [Bool.false_eq_true, if_false]
  refine wpAny_pure (wpAny_bind (wpAny_bind (wpAny_isInstance (T := "int") (b := false) (typeIs_int _ _ _) PySem.sub_int_bytearray ?_)))
  simp only [Bool.false_eq_true, if_false]
  refine wpAny_pure (wpAny_pure ?_)
  refine wpAny_bind (wpAny_newObj_type ?_)
  have kp : ∀ b u, s.heap.get? b = some u → ((s.heap.push { cls := .type "list_iterator", data := .fields #[.ref l, .int 0 0] }).push { cls := .type "list", data := .seq ([Value.int 0 s.toks] : List Value).toArray }).get? b = some u :=
    fun b u e => Heap.get?_push_of_some _ (Heap.get?_push_of_some _ e)
  have sz : ∀ o : Obj, (s.heap.push o).objs.size = s.heap.objs.size + 1 := fun o => by simp [Heap.push]
  have i0 : FpOk X pins H s.heap.objs.size := I.fpOk (Nat.le_refl _) (I.hok.fresh (Nat.le_refl _))
  have i1 : FpOk X pins H (s.heap.objs.size + 1) := I.fpOk (Nat.le_succ _) (I.hok.fresh (Nat.le_succ _))
  refine wpAny_pure ⟨plainId_quiet F.plain_sum_loop _, ?_⟩
  dsimp only
  rw [sz]
  refine sum_loop hop hc (l := l) (S := s.heap.objs.size + 1) Pv hall hl ht step hd (Nat.succ_ne_self _) xs.length 0 _ H (.int 0) (.int 0 s.toks) 0 0 rfl (Nat.zero_le _) (I.kept kp) i0 i1 ?_ ?_ ⟨_, rfl⟩ h0 (.inl ⟨rfl, _, rfl⟩)
  · exact ⟨_, Heap.get?_push_of_some _ (Heap.get?_push_size _ rfl), rfl, rfl⟩
  · have e := Heap.get?_push_size (h := s.heap.push { cls := .type "list_iterator", data := .fields #[.ref l, .int 0 0] }) (o := { cls := .type "list", data := .seq ([Value.int 0 s.toks] : List Value).toArray }) rfl
    rw [sz] at e
    exact e
end
end OQ

namespace OQ
open PySem L2 PySem.Spec PyProof.Rows
def eqb (k : Bool) (v : Value) : Bool := match v with
  | .bool n => n == k
  | _ => false
def rCntB (K : PySem.W.Frag) : V → List V → Hp → VK → Prop := fun x xs H Q => ∃ (p : Addr) (bs : List Bool) (k : Bool), x = .ref p ∧ xs = [.bl k] ∧ SqL K H p (bs.map V.bl) ∧ Q (.int (bs.count k : Nat)) H
theorem mt_cntB {X : Cx} : MtR X "list.count" (rCntB X.K) := by
  intro pins s σ H x xs v us Q I rx rxs h
  obtain ⟨p, bs, k, rfl, rfl, hs, q⟩ := h
  cases rx
  obtain ⟨u, rfl, ru⟩ := rxs.one
  have ru' : u = Value.bool k := by cases ru; rfl
  subst ru'
  obtain ⟨its, rv, ⟨⟨cls, dd, data, sl⟩, n, ho, hc, hdn, hd⟩, hlen⟩ := I.list hs
  simp only at hc hd
  subst hc hd
  have hi : its = bs.map Value.bool := by rw [Vals.bls rv]
  subst hi
  refine call_meets PySem.F.slot_list_count ⟨_, ho, rfl⟩ PySem.F.entry_list_count (PySem.F.args_list_count_2 _ _)
    (SeqAt.list_countAt p (bs.map Value.bool).toArray n dd sl (.bool k) (eqb k)) ⟨ho, fun y hy => ?_, ?_⟩
  · have hy' : y ∈ bs.map Value.bool := by simpa using hy
    obtain ⟨b, _, rfl⟩ := List.mem_map.mp hy'
    exact SeqAt.EqAt.bool_bool b k
  · have ec : (bs.map Value.bool).toArray.toList.countP (eqb k) = bs.count k := by
      show (bs.map Value.bool).countP (eqb k) = bs.count k
      rw [List.countP_map]; rfl
    refine ⟨.int (bs.count k : Nat), H, I.tok _, ⟨s.toks, ?_⟩, q⟩
    show Value.int (((bs.map Value.bool).toArray.toList.countP (eqb k) : Nat) : Int) s.toks = Value.int ((bs.count k : Nat) : Int) s.toks
    rw [ec]
end OQ

/-! ### what rows of numbers come to, in whatever order -/
namespace MX
theorem fr_erase {α β : Type} {f : α → β → β} (lc : ∀ a b z, f a (f b z) = f b (f a z)) {e : β} : ∀ (rs : List α) (k : Nat) (q : α), rs[k]? = some q → rs.foldr f e = f q ((rs.eraseIdx k).foldr f e)
  | [], k, q, h => by simp at h
  | a :: r, 0, q, h => by
    have h' : a = q := by simpa using h
    subst h'; rfl
  | a :: r, k + 1, q, h => by
    have ih := fr_erase lc (e := e) r k q (by simpa using h)
    show f a (r.foldr f e) = f q (f a ((r.eraseIdx k).foldr f e))
    rw [ih, lc]
theorem fr_ins {α β : Type} {f : α → β → β} (lc : ∀ a b z, f a (f b z) = f b (f a z)) {e : β} : ∀ (rs : List α) (i : Nat) (q : α), (rs.take i ++ [q] ++ rs.drop i).foldr f e = f q (rs.foldr f e)
  | rs, 0, q => by simp
  | [], i + 1, q => by simp
  | a :: r, i + 1, q => by
    have ih := fr_ins lc (e := e) r i q
    show f a ((r.take i ++ [q] ++ r.drop i).foldr f e) = f q (f a (r.foldr f e))
    rw [ih, lc]
def opR (b : Bool) (p q : Rat) : Rat := if b = true then p + q else p * q
def unR (b : Bool) : Rat := if b = true then 0 else 1
theorem opR_lc (b : Bool) (p q z : Rat) : opR b p (opR b q z) = opR b q (opR b p z) := by
  unfold opR
  cases b
  · simp only [Bool.false_eq_true, if_false]; rw [← Rat.mul_assoc, ← Rat.mul_assoc, Rat.mul_comm p q]
  · simp only [if_true]; rw [← Rat.add_assoc, ← Rat.add_assoc, Rat.add_comm p q]
theorem opR_as (b : Bool) (p q z : Rat) : opR b p (opR b q z) = opR b (opR b p q) z := by
  unfold opR
  cases b
  · simp only [Bool.false_eq_true, if_false]; rw [Rat.mul_assoc]
  · simp only [if_true]; rw [Rat.add_assoc]
theorem opR_un (b : Bool) (p : Rat) : opR b p (unR b) = p := by
  unfold opR unR
  cases b
  · simp only [Bool.false_eq_true, if_false]; rw [Rat.mul_one]
  · simp only [if_true]; rw [Rat.add_zero]
def cmb (b : Bool) (rs : List Rat) : Rat := rs.foldr (opR b) (unR b)
/-- a number's size: top and bottom -/
def sz (q : Rat) : Nat := q.num.natAbs + q.den
theorem sz_pos (q : Rat) : 0 < sz q := by have := q.den_nz; unfold sz; omega
theorem sz_div {a b : Int} (nz : b ≠ 0) : sz (Rat.divInt a b) ≤ a.natAbs + b.natAbs := by
  unfold sz
  have h1 : (Rat.divInt a b).num.natAbs ≤ a.natAbs := by
    rw [Rat.num_divInt]
    refine Nat.le_trans (Int.natAbs_ediv_le_natAbs _ _) ?_
    rw [Int.natAbs_mul]
    rcases Int.lt_trichotomy b 0 with h | h | h
    · rw [Int.sign_eq_neg_one_of_neg h]; simp
    · exact absurd h nz
    · rw [Int.sign_eq_one_of_pos h]; simp
  have h2 : (Rat.divInt a b).den ≤ b.natAbs := by rw [Rat.den_divInt, if_neg nz]; exact Nat.div_le_self _ _
  omega
theorem mul4 (a b c d : Nat) : a * d + c * b + b * d ≤ (a + b) * (c + d) := by
  rw [Nat.add_mul, Nat.mul_add, Nat.mul_add]
  have : c * b = b * c := Nat.mul_comm _ _
  omega
theorem sz_frac {a b c d : Int} : (a * d + c * b).natAbs + (b * d).natAbs ≤ (a.natAbs + b.natAbs) * (c.natAbs + d.natAbs) := by
  have h := Int.natAbs_add_le (a * d) (c * b)
  rw [Int.natAbs_mul, Int.natAbs_mul] at h
  rw [Int.natAbs_mul]
  have := mul4 a.natAbs b.natAbs c.natAbs d.natAbs
  omega
theorem sz_prod {a b c d : Int} : (a * c).natAbs + (b * d).natAbs ≤ (a.natAbs + b.natAbs) * (c.natAbs + d.natAbs) := by
  rw [Int.natAbs_mul, Int.natAbs_mul, Nat.add_mul, Nat.mul_add, Nat.mul_add]
  omega
theorem sz_op (b : Bool) (p q : Rat) : sz (opR b p q) ≤ sz p * sz q := by
  have hp := p.den_nz
  have hq := q.den_nz
  have np : (p.den : Int) ≠ 0 := by omega
  have nq : (q.den : Int) ≠ 0 := by omega
  have nn : (p.den : Int) * (q.den : Int) ≠ 0 := Int.mul_ne_zero np nq
  have ep : Rat.divInt p.num p.den = p := Rat.num_divInt_den p
  have eq : Rat.divInt q.num q.den = q := Rat.num_divInt_den q
  unfold opR
  cases b
  · simp only [Bool.false_eq_true, if_false]
    have e : p * q = Rat.divInt (p.num * q.num) (p.den * q.den) := by conv => lhs; rw [← ep, ← eq, Rat.divInt_mul_divInt]
    rw [e]
    refine Nat.le_trans (sz_div nn) (Nat.le_trans sz_prod ?_)
    rw [Int.natAbs_natCast, Int.natAbs_natCast]
    exact Nat.le_refl _
  · simp only [if_true]
    have e : p + q = Rat.divInt (p.num * q.den + q.num * p.den) (p.den * q.den) := by conv => lhs; rw [← ep, ← eq, Rat.divInt_add_divInt _ _ np nq]
    rw [e]
    refine Nat.le_trans (sz_div nn) (Nat.le_trans sz_frac ?_)
    rw [Int.natAbs_natCast, Int.natAbs_natCast]
    exact Nat.le_refl _
theorem sz_neg (p : Rat) : sz (-p) = sz p := by
  show (-p.num).natAbs + p.den = p.num.natAbs + p.den
  rw [Int.natAbs_neg]
def szs (rs : List Rat) : Nat := rs.foldr (fun q n => sz q * n) 1
theorem szs_lc (p q : Rat) (n : Nat) : sz p * (sz q * n) = sz q * (sz p * n) := Nat.mul_left_comm _ _ _
theorem szs_pos : ∀ rs : List Rat, 0 < szs rs
  | [] => Nat.one_pos
  | q :: r => Nat.mul_pos (sz_pos q) (szs_pos r)
theorem szs_le {n : Nat} : ∀ {rs : List Rat}, (∀ q ∈ rs, sz q ≤ n) → szs rs ≤ n ^ rs.length
  | [], _ => Nat.le_refl _
  | q :: r, h => by
    have ih := szs_le (rs := r) fun x hx => h x (List.mem_cons_of_mem _ hx)
    have h1 := h q List.mem_cons_self
    show sz q * szs r ≤ n ^ (r.length + 1)
    rw [Nat.pow_succ, Nat.mul_comm]
    exact Nat.mul_le_mul ih h1
theorem sz_mem : ∀ {rs : List Rat} {q : Rat}, q ∈ rs → sz q ≤ szs rs
  | a :: r, q, h => by
    show sz q ≤ sz a * szs r
    rcases List.mem_cons.mp h with rfl | h
    · exact Nat.le_mul_of_pos_right _ (szs_pos r)
    · exact Nat.le_trans (sz_mem h) (Nat.le_mul_of_pos_left _ (sz_pos a))
theorem sz_cmb (b : Bool) : ∀ rs : List Rat, sz (cmb b rs) ≤ 2 * szs rs
  | [] => by cases b <;> decide
  | q :: r => by
    have ih := sz_cmb b r
    refine Nat.le_trans (sz_op b q (cmb b r)) ?_
    show sz q * sz (cmb b r) ≤ 2 * (sz q * szs r)
    rw [Nat.mul_left_comm]
    exact Nat.mul_le_mul_left _ ih
theorem cmb_mulL (f : Rat) : ∀ rs : List Rat, cmb true (rs.map fun q => f * q) = f * cmb true rs
  | [] => by show (0 : Rat) = f * 0; rw [Rat.mul_zero]
  | q :: r => by
    have ih := cmb_mulL f r
    show f * q + cmb true (r.map fun q => f * q) = f * (q + cmb true r)
    rw [ih, Rat.mul_add]
theorem cmb_mulR (f : Rat) : ∀ rs : List Rat, cmb true (rs.map fun q => q * f) = cmb true rs * f
  | [] => by show (0 : Rat) = 0 * f; rw [Rat.zero_mul]
  | q :: r => by
    have ih := cmb_mulR f r
    show q * f + cmb true (r.map fun q => q * f) = (q + cmb true r) * f
    rw [ih, Rat.add_mul]
theorem add_sub' (a b : Rat) : a + b - b = a := by rw [Rat.sub_eq_add_neg, Rat.add_assoc, Rat.add_neg_cancel, Rat.add_zero]
theorem sub_add' (a b : Rat) : a - b + b = a := by rw [Rat.sub_eq_add_neg, Rat.add_assoc, Rat.neg_add_cancel, Rat.add_zero]
theorem sub_self' (a : Rat) : a - a = 0 := by rw [Rat.sub_eq_add_neg, Rat.add_neg_cancel]
theorem mul_div' {a b : Rat} (h : b ≠ 0) : a * b / b = a := by rw [Rat.div_def, Rat.mul_assoc, Rat.mul_inv_cancel _ h, Rat.mul_one]
theorem tri (a b : Rat) : [decide (a < b), decide (b < a), decide (a = b)].count true = 1 := by
  by_cases h1 : a < b
  · have h2 : ¬ b < a := fun z => Rat.not_le.mpr h1 (Rat.le_of_lt z)
    have h3 : a ≠ b := fun z => by rw [z] at h1; exact Rat.lt_irrefl h1
    simp [h1, h2, h3]
  · by_cases h2 : b < a
    · have h3 : a ≠ b := fun z => by rw [z] at h2; exact Rat.lt_irrefl h2
      simp [h1, h2, h3]
    · have h3 : a = b := Rat.le_antisymm (Rat.not_lt.mp h2) (Rat.not_lt.mp h1)
      simp [h1, h2, h3]
theorem lt_add {a b f : Rat} : (a + f < b + f) ↔ a < b := by
  exact Rat.add_lt_add_right
end MX

open RD in
local macro_rules | `(tactic| walk_at "rd1") => `(tactic| with_reducible first
  | refine d_seq ?_ | refine d_asg ?_ | refine d_op ?_ | refine d_c ?_ | refine d_gname ?_ | refine d_ifS ?_ | refine d_test ?_ | refine d_bl ?_ | refine d_ret ?_ | refine d_next ?_ | refine d_drop ?_
  | refine d_and ?_ | refine d_or ?_ | refine d_not ?_ | refine d_andV ?_ | refine d_orV ?_ | refine d_notV ?_ | refine d_if ?_ | refine d_tB ?_
  | refine d_rI0 ?_ | refine d_rU ?_ | refine d_eqI ?_ | refine d_neI ?_ | refine d_eqS ?_ | refine d_neS ?_ | refine d_eqB ?_ | refine d_isN ?_ | refine d_notN ?_ | refine d_intB ?_ | refine d_un ?_ | refine d_cb ?_ | refine d_cons ?_ | refine d_nil ?_ | refine d_lst ?_ | refine d_tup ?_ | refine d_call ?_
  | refine d_iList ?_ | refine d_rng1 ?_ | refine d_lc ?_ | refine d_yes ?_ | refine d_iteT ?_ | refine d_iteF ?_ | refine d_sl ?_ | refine d_noPart ?_ | refine d_part ?_ | refine d_exI ?_ | refine d_fld ?_ | refine d_iteNF ?_ | refine d_iteNT ?_ | refine d_gcd ?_ | refine d_sfld ?_ | refine d_for ?_ | refine OQ.d_makeS ?_ | refine OQ.d_make ?_ | refine OQ.d_methS ?_ | refine OQ.d_meth ?_ | refine d_gsub ?_ | refine d_par ?_ | refine d_int ?_ | refine d_abs ?_)
local macro_rules | `(tactic| walk_at "rdH") => `(tactic| first | assumption | exact L2.upd_same | (simp only [L2.upd_same, L2.upd_ne, ne_eq, not_false_eq_true, *]; done))
local macro_rules | `(tactic| walk_at "rdC") => `(tactic| first | assumption | (refine Or.inr ⟨?_, ?_⟩ <;> first | decide | omega) | (refine Or.inl ⟨?_, ?_⟩ <;> first | decide | omega) | (show (0 : Int) < _; first | assumption | decide | omega) | exact ⟨by decide, by decide +kernel⟩ | exact ⟨by decide, by decide, by decide +kernel⟩ | exact ⟨by assumption, by assumption⟩)
local macro_rules | `(tactic| walk_at "rd2") => `(tactic| first
  | refine RD.d_var rfl ?_
  | ((with_reducible (refine' RD.d_ixL ?hs ?e ?k)); (case hs => exact L2.SqL.of (by walk_at "rdH")); (case e => rfl))
  | ((with_reducible (refine' RD.d_ixT ?hs ?e ?k)); (case hs => exact L2.SqT.of (by walk_at "rdH")); (case e => rfl))
  | ((with_reducible (refine' RD.d_lenL ?hs ?k)); (case hs => exact L2.SqL.of (by walk_at "rdH")))
  | ((with_reducible (refine' RD.d_wipe ?e ?k)); (case e => rfl))
  | ((with_reducible (refine' RD.d_refL ?hs ?k)); (case hs => exact L2.SqL.of (by walk_at "rdH")))
  | ((with_reducible (refine' RD.d_lenT ?hs ?k)); (case hs => exact L2.SqT.of (by walk_at "rdH")))
  | ((with_reducible (refine' RD.d_lenS ?hs ?k)); (case hs => first | assumption | omega))
  | ((with_reducible (refine' RD.d_rI ?c ?k)); (case c => walk_at "rdC"))
  | ((with_reducible (refine' RD.d_setL ?hs ?e ?k)); (case hs => walk_at "rdH"); (case e => rfl)))
local macro_rules | `(tactic| walk_at "rd") => `(tactic| repeat (first | walk_at "rd1" | walk_at "rd2"))

namespace Toy
open PySem L2
def top (i : Nat) : Stmt := PySem.Challenge.pw_watchedways_k24_whole_sums_and_products.main.body.getD i (.Pass ⟨0, 0, 0, 0⟩)
abbrev s_WayError__init : Stmt := inClass (top 2) 0
theorem sc_WayError__init : FnScope ["self", "value"] ["self", "value"] (defScope s_WayError__init) := ⟨rfl, rfl, rfl, by decide +kernel, rfl, by decide +kernel, by decide +kernel⟩
abbrev s_is_integer : Stmt := top 5
theorem sc_is_integer : FnScope ["thing"] ["thing"] (defScope s_is_integer) := ⟨rfl, rfl, rfl, by decide +kernel, rfl, by decide +kernel, by decide +kernel⟩
abbrev s_Ratio__init : Stmt := inClass (top 7) 0
theorem sc_Ratio__init : FnScope ["self", "top", "bottom", "shared"] ["self", "top", "bottom"] (defScope s_Ratio__init) := ⟨rfl, rfl, rfl, by decide +kernel, rfl, by decide +kernel, by decide +kernel⟩
abbrev s_Ratio__eq : Stmt := inClass (top 7) 1
theorem sc_Ratio__eq : FnScope ["self", "other"] ["self", "other"] (defScope s_Ratio__eq) := ⟨rfl, rfl, rfl, by decide +kernel, rfl, by decide +kernel, by decide +kernel⟩
abbrev s_Ratio__add : Stmt := inClass (top 7) 2
theorem sc_Ratio__add : FnScope ["self", "other"] ["self", "other"] (defScope s_Ratio__add) := ⟨rfl, rfl, rfl, by decide +kernel, rfl, by decide +kernel, by decide +kernel⟩
abbrev s_Ratio__radd : Stmt := inClass (top 7) 3
theorem sc_Ratio__radd : FnScope ["self", "other"] ["self", "other"] (defScope s_Ratio__radd) := ⟨rfl, rfl, rfl, by decide +kernel, rfl, by decide +kernel, by decide +kernel⟩
abbrev s_Ratio__sub : Stmt := inClass (top 7) 4
theorem sc_Ratio__sub : FnScope ["self", "other"] ["self", "other"] (defScope s_Ratio__sub) := ⟨rfl, rfl, rfl, by decide +kernel, rfl, by decide +kernel, by decide +kernel⟩
abbrev s_Ratio__rsub : Stmt := inClass (top 7) 5
theorem sc_Ratio__rsub : FnScope ["self", "other"] ["self", "other"] (defScope s_Ratio__rsub) := ⟨rfl, rfl, rfl, by decide +kernel, rfl, by decide +kernel, by decide +kernel⟩
abbrev s_Ratio__mul : Stmt := inClass (top 7) 6
theorem sc_Ratio__mul : FnScope ["self", "other"] ["self", "other"] (defScope s_Ratio__mul) := ⟨rfl, rfl, rfl, by decide +kernel, rfl, by decide +kernel, by decide +kernel⟩
abbrev s_Ratio__rmul : Stmt := inClass (top 7) 7
theorem sc_Ratio__rmul : FnScope ["self", "other"] ["self", "other"] (defScope s_Ratio__rmul) := ⟨rfl, rfl, rfl, by decide +kernel, rfl, by decide +kernel, by decide +kernel⟩
abbrev s_Ratio__neg : Stmt := inClass (top 7) 8
theorem sc_Ratio__neg : FnScope ["self"] ["self"] (defScope s_Ratio__neg) := ⟨rfl, rfl, rfl, by decide +kernel, rfl, by decide +kernel, by decide +kernel⟩
abbrev s_Ratio_over : Stmt := inClass (top 7) 9
theorem sc_Ratio_over : FnScope ["self", "other", "mate"] ["self", "other"] (defScope s_Ratio_over) := ⟨rfl, rfl, rfl, by decide +kernel, rfl, by decide +kernel, by decide +kernel⟩
abbrev s_Ratio_less : Stmt := inClass (top 7) 10
theorem sc_Ratio_less : FnScope ["self", "other", "mate"] ["self", "other"] (defScope s_Ratio_less) := ⟨rfl, rfl, rfl, by decide +kernel, rfl, by decide +kernel, by decide +kernel⟩
abbrev s_is_number : Stmt := top 8
theorem sc_is_number : FnScope ["thing"] ["thing"] (defScope s_is_number) := ⟨rfl, rfl, rfl, by decide +kernel, rfl, by decide +kernel, by decide +kernel⟩
abbrev s_as_ratio : Stmt := top 9
theorem sc_as_ratio : FnScope ["thing"] ["thing"] (defScope s_as_ratio) := ⟨rfl, rfl, rfl, by decide +kernel, rfl, by decide +kernel, by decide +kernel⟩
abbrev s_sum_of : Stmt := top 10
theorem sc_sum_of : FnScope ["one", "other"] ["one", "other"] (defScope s_sum_of) := ⟨rfl, rfl, rfl, by decide +kernel, rfl, by decide +kernel, by decide +kernel⟩
abbrev s_product_of : Stmt := top 11
theorem sc_product_of : FnScope ["one", "other"] ["one", "other"] (defScope s_product_of) := ⟨rfl, rfl, rfl, by decide +kernel, rfl, by decide +kernel, by decide +kernel⟩
abbrev s_law_hand : Stmt := top 13
theorem sc_law_hand : FnScope ["script", "cells", "cell"] ["script"] (defScope s_law_hand) := ⟨rfl, rfl, rfl, by decide +kernel, rfl, by decide +kernel, by decide +kernel⟩
abbrev s_law_draw : Stmt := top 14
theorem sc_law_draw : FnScope ["hand", "many", "cell", "digit", "number"] ["hand", "many"] (defScope s_law_draw) := ⟨rfl, rfl, rfl, by decide +kernel, rfl, by decide +kernel, by decide +kernel⟩
abbrev s_law_pair : Stmt := top 15
theorem sc_law_pair : FnScope ["hand", "bottom"] ["hand"] (defScope s_law_pair) := ⟨rfl, rfl, rfl, by decide +kernel, rfl, by decide +kernel, by decide +kernel⟩
abbrev s_law_by_turns : Stmt := top 16
theorem sc_law_by_turns : FnScope ["hand", "row", "sums", "rest", "turn", "one", "other"] ["hand", "row", "sums"] (defScope s_law_by_turns) := ⟨rfl, rfl, rfl, by decide +kernel, rfl, by decide +kernel, by decide +kernel⟩
abbrev s_law_is : Stmt := top 17
theorem sc_law_is : FnScope ["thing", "top", "bottom"] ["thing", "top", "bottom"] (defScope s_law_is) := ⟨rfl, rfl, rfl, by decide +kernel, rfl, by decide +kernel, by decide +kernel⟩
abbrev s_law : Stmt := top 18
theorem sc_law : FnScope ["script", "hand", "pairs", "k", "row", "top", "bottom", "sums", "products", "total", "whole", "factor", "ratio", "at"] ["script"] (defScope s_law) := ⟨rfl, rfl, rfl, by decide +kernel, rfl, by decide +kernel, by decide +kernel⟩
structure Top (K : PySem.W.Frag) (mg : Str → Option Value) where
  C_Ratio : Addr
  cl_Ratio : Cls K C_Ratio
  g_Ratio : mg "Ratio" = some (.ref C_Ratio)
  na_Ratio_top : NoAttr K C_Ratio "top"
  na_Ratio_bottom : NoAttr K C_Ratio "bottom"
  f_WayError__init : Addr
  fd_WayError__init : FuncData
  F_WayError__init : Fun K "__init__" "WayError.__init__" s_WayError__init f_WayError__init fd_WayError__init
  b_WayError__init : Binds K fd_WayError__init ["self", "value"] []
  f_is_integer : Addr
  fd_is_integer : FuncData
  F_is_integer : Fun K "is_integer" "is_integer" s_is_integer f_is_integer fd_is_integer
  b_is_integer : Binds K fd_is_integer ["thing"] []
  g_is_integer : mg "is_integer" = some (.ref f_is_integer)
  f_Ratio__init : Addr
  fd_Ratio__init : FuncData
  F_Ratio__init : FunD K "__init__" "Ratio.__init__" (defArgs s_Ratio__init) (defBody s_Ratio__init) (defScope s_Ratio__init) [V.int 1] [] f_Ratio__init fd_Ratio__init
  b1_Ratio__init : ∃ ds, Vals [V.int 1] ds ∧ Binds K fd_Ratio__init ["self", "top", "bottom"] ds
  b_Ratio__init : Binds K fd_Ratio__init ["self", "top", "bottom"] []
  M_Ratio : Mk K C_Ratio f_Ratio__init
  f_Ratio__eq : Addr
  fd_Ratio__eq : FuncData
  F_Ratio__eq : Fun K "__eq__" "Ratio.__eq__" s_Ratio__eq f_Ratio__eq fd_Ratio__eq
  b_Ratio__eq : Binds K fd_Ratio__eq ["self", "other"] []
  m_Ratio__eq : Meth K C_Ratio "__eq__" f_Ratio__eq
  f_Ratio__add : Addr
  fd_Ratio__add : FuncData
  F_Ratio__add : Fun K "__add__" "Ratio.__add__" s_Ratio__add f_Ratio__add fd_Ratio__add
  b_Ratio__add : Binds K fd_Ratio__add ["self", "other"] []
  m_Ratio__add : Meth K C_Ratio "__add__" f_Ratio__add
  f_Ratio__radd : Addr
  fd_Ratio__radd : FuncData
  F_Ratio__radd : Fun K "__radd__" "Ratio.__radd__" s_Ratio__radd f_Ratio__radd fd_Ratio__radd
  b_Ratio__radd : Binds K fd_Ratio__radd ["self", "other"] []
  m_Ratio__radd : Meth K C_Ratio "__radd__" f_Ratio__radd
  f_Ratio__sub : Addr
  fd_Ratio__sub : FuncData
  F_Ratio__sub : Fun K "__sub__" "Ratio.__sub__" s_Ratio__sub f_Ratio__sub fd_Ratio__sub
  b_Ratio__sub : Binds K fd_Ratio__sub ["self", "other"] []
  m_Ratio__sub : Meth K C_Ratio "__sub__" f_Ratio__sub
  f_Ratio__rsub : Addr
  fd_Ratio__rsub : FuncData
  F_Ratio__rsub : Fun K "__rsub__" "Ratio.__rsub__" s_Ratio__rsub f_Ratio__rsub fd_Ratio__rsub
  b_Ratio__rsub : Binds K fd_Ratio__rsub ["self", "other"] []
  m_Ratio__rsub : Meth K C_Ratio "__rsub__" f_Ratio__rsub
  f_Ratio__mul : Addr
  fd_Ratio__mul : FuncData
  F_Ratio__mul : Fun K "__mul__" "Ratio.__mul__" s_Ratio__mul f_Ratio__mul fd_Ratio__mul
  b_Ratio__mul : Binds K fd_Ratio__mul ["self", "other"] []
  m_Ratio__mul : Meth K C_Ratio "__mul__" f_Ratio__mul
  f_Ratio__rmul : Addr
  fd_Ratio__rmul : FuncData
  F_Ratio__rmul : Fun K "__rmul__" "Ratio.__rmul__" s_Ratio__rmul f_Ratio__rmul fd_Ratio__rmul
  b_Ratio__rmul : Binds K fd_Ratio__rmul ["self", "other"] []
  m_Ratio__rmul : Meth K C_Ratio "__rmul__" f_Ratio__rmul
  f_Ratio__neg : Addr
  fd_Ratio__neg : FuncData
  F_Ratio__neg : Fun K "__neg__" "Ratio.__neg__" s_Ratio__neg f_Ratio__neg fd_Ratio__neg
  b_Ratio__neg : Binds K fd_Ratio__neg ["self"] []
  m_Ratio__neg : Meth K C_Ratio "__neg__" f_Ratio__neg
  f_Ratio_over : Addr
  fd_Ratio_over : FuncData
  F_Ratio_over : Fun K "over" "Ratio.over" s_Ratio_over f_Ratio_over fd_Ratio_over
  b_Ratio_over : Binds K fd_Ratio_over ["self", "other"] []
  m_Ratio_over : Meth K C_Ratio "over" f_Ratio_over
  f_Ratio_less : Addr
  fd_Ratio_less : FuncData
  F_Ratio_less : Fun K "less" "Ratio.less" s_Ratio_less f_Ratio_less fd_Ratio_less
  b_Ratio_less : Binds K fd_Ratio_less ["self", "other"] []
  m_Ratio_less : Meth K C_Ratio "less" f_Ratio_less
  f_is_number : Addr
  fd_is_number : FuncData
  F_is_number : Fun K "is_number" "is_number" s_is_number f_is_number fd_is_number
  b_is_number : Binds K fd_is_number ["thing"] []
  g_is_number : mg "is_number" = some (.ref f_is_number)
  f_as_ratio : Addr
  fd_as_ratio : FuncData
  F_as_ratio : Fun K "as_ratio" "as_ratio" s_as_ratio f_as_ratio fd_as_ratio
  b_as_ratio : Binds K fd_as_ratio ["thing"] []
  g_as_ratio : mg "as_ratio" = some (.ref f_as_ratio)
  f_sum_of : Addr
  fd_sum_of : FuncData
  F_sum_of : Fun K "sum_of" "sum_of" s_sum_of f_sum_of fd_sum_of
  b_sum_of : Binds K fd_sum_of ["one", "other"] []
  g_sum_of : mg "sum_of" = some (.ref f_sum_of)
  f_product_of : Addr
  fd_product_of : FuncData
  F_product_of : Fun K "product_of" "product_of" s_product_of f_product_of fd_product_of
  b_product_of : Binds K fd_product_of ["one", "other"] []
  g_product_of : mg "product_of" = some (.ref f_product_of)
  f_law_hand : Addr
  fd_law_hand : FuncData
  F_law_hand : Fun K "_law_hand" "_law_hand" s_law_hand f_law_hand fd_law_hand
  b_law_hand : Binds K fd_law_hand ["script"] []
  g_law_hand : mg "_law_hand" = some (.ref f_law_hand)
  f_law_draw : Addr
  fd_law_draw : FuncData
  F_law_draw : Fun K "_law_draw" "_law_draw" s_law_draw f_law_draw fd_law_draw
  b_law_draw : Binds K fd_law_draw ["hand", "many"] []
  g_law_draw : mg "_law_draw" = some (.ref f_law_draw)
  f_law_pair : Addr
  fd_law_pair : FuncData
  F_law_pair : Fun K "_law_pair" "_law_pair" s_law_pair f_law_pair fd_law_pair
  b_law_pair : Binds K fd_law_pair ["hand"] []
  g_law_pair : mg "_law_pair" = some (.ref f_law_pair)
  f_law_by_turns : Addr
  fd_law_by_turns : FuncData
  F_law_by_turns : Fun K "_law_by_turns" "_law_by_turns" s_law_by_turns f_law_by_turns fd_law_by_turns
  b_law_by_turns : Binds K fd_law_by_turns ["hand", "row", "sums"] []
  g_law_by_turns : mg "_law_by_turns" = some (.ref f_law_by_turns)
  f_law_is : Addr
  fd_law_is : FuncData
  F_law_is : Fun K "_law_is" "_law_is" s_law_is f_law_is fd_law_is
  b_law_is : Binds K fd_law_is ["thing", "top", "bottom"] []
  g_law_is : mg "_law_is" = some (.ref f_law_is)
  f_law : Addr
  fd_law : FuncData
  F_law : Fun K "law" "law" s_law f_law fd_law
  b_law : Binds K fd_law ["script"] []
  g_law : mg "law" = some (.ref f_law)
  n_abs : mg "abs" = none
  n_int : mg "int" = none
  n_len : mg "len" = none
  n_range : mg "range" = none
  n_isinstance : mg "isinstance" = none
  n_list : mg "list" = none
  n_sum : mg "sum" = none
  n_bool : mg "bool" = none
  C_BN : Addr
  g_BadNumber : mg "BadNumber" = some (.ref C_BN)
  g_gcd : mg "gcd" = some (.builtin "math.gcd")
  haR : PySem.W.findIn K (.ref C_Ratio) "__class__" = some (some (.builtin "object.__class__"))
  hnO : PySem.W.specialIn K (.builtin "object.__class__") "__get__" = some (some (.builtin "getset_descriptor.__get__"))
  htO : PySem.W.takesIn K (.builtin "object.__class__") = some true
  hmR : PySem.W.mroIn K C_Ratio (.type "object") = some true
  neR : PySem.W.findIn K (.ref C_Ratio) "__ne__" = some (some (.builtin "object.__ne__"))
  oex_BadNumber : OexC K C_BN
  i_BadNumber : PySem.W.findIn K (.ref C_BN) "__init__" = some (some (.ref f_WayError__init))
  tI : PySem.W.typeIn K (.ref f_WayError__init) = some (.type "function")
  v_BadNumber : PySem.W.findIn K (.ref C_BN) "value" = some none
  xf_BadNumber : XfC K C_BN
  exI_BadNumber : ExcC K C_BN
  exm : PySem.W.exmOne K (.ref C_BN) (.ref C_BN) = some true
  kBN : PySem.W.kitOne K (.ref C_BN) (.ref C_BN) = some true
  kRR : PySem.W.kitOne K (.ref C_Ratio) (.ref C_Ratio) = some true
  kRi : PySem.W.kitOne K (.ref C_Ratio) (.type "int") = some false
  kRb : PySem.W.kitOne K (.ref C_Ratio) (.type "bool") = some false
  nfR : PySem.W.notFirst K C_Ratio (.ref C_Ratio) = true
  kT : ∀ t : String, t ∈ ["NoneType", "bool", "int", "str", "list", "tuple", "dict"] → PySem.W.kitOne K (.type t) (.ref C_Ratio) = some false ∧ PySem.W.notFirst K C_Ratio (.type t) = true
  sfR : PySem.W.selfFirst K C_Ratio = true
  subIR : PySem.W.subIn K (.type "int") (.ref C_Ratio) = some false
  subRI : PySem.W.subIn K (.ref C_Ratio) (.type "int") = some false
  fo_add : Option Value
  ro_add : Option Value
  at_add : PySem.W.findIn K (.ref C_Ratio) (PySem.dunder Operator.Add.info.2) = some (some (.ref f_Ratio__add))
  at_radd : PySem.W.findIn K (.ref C_Ratio) (dunderR Operator.Add.info.2) = some (some (.ref f_Ratio__radd))
  ia_add : PySem.W.findIn K (.type "int") (PySem.dunder Operator.Add.info.2) = some fo_add
  ib_add : PySem.W.findIn K (.type "int") (dunderR Operator.Add.info.2) = some ro_add
  fo_sub : Option Value
  ro_sub : Option Value
  at_sub : PySem.W.findIn K (.ref C_Ratio) (PySem.dunder Operator.Sub.info.2) = some (some (.ref f_Ratio__sub))
  at_rsub : PySem.W.findIn K (.ref C_Ratio) (dunderR Operator.Sub.info.2) = some (some (.ref f_Ratio__rsub))
  ia_sub : PySem.W.findIn K (.type "int") (PySem.dunder Operator.Sub.info.2) = some fo_sub
  ib_sub : PySem.W.findIn K (.type "int") (dunderR Operator.Sub.info.2) = some ro_sub
  fo_mul : Option Value
  ro_mul : Option Value
  at_mul : PySem.W.findIn K (.ref C_Ratio) (PySem.dunder Operator.Mult.info.2) = some (some (.ref f_Ratio__mul))
  at_rmul : PySem.W.findIn K (.ref C_Ratio) (dunderR Operator.Mult.info.2) = some (some (.ref f_Ratio__rmul))
  ia_mul : PySem.W.findIn K (.type "int") (PySem.dunder Operator.Mult.info.2) = some fo_mul
  ib_mul : PySem.W.findIn K (.type "int") (dunderR Operator.Mult.info.2) = some ro_mul
/-! ### the law's draws -/
def handV (c : Addr) (p q m n : Int) : List V := [.ref c, .int p, .int q, .int m, .int n]
/-- the hand at h -/
def HandAt (H : Hp) (h c : Addr) : Prop := ∃ (cs : List Int) (p q m n : Int), H h = some (.lst (handV c p q m n)) ∧ H c = some (.lst (cs.map V.int)) ∧ c ≠ h ∧ 0 ≤ p
/-- all but what stands at h is as it was -/
def But (h : Addr) (H H' : Hp) : Prop := ∀ b, b ≠ h → H' b = H b
def spDraw : Sp := fun vs H Q _ => ∃ (h c : Addr) (many : Int), vs = [.ref h, .int many] ∧ HandAt H h c ∧ 0 < many ∧ many.natAbs.log2 < 9000 ∧
  ∀ (r : Int) (H' : Hp), 0 ≤ r → r < many → HandAt H' h c → But h H H' → Q (.int r) H'
def spHand (K : PySem.W.Frag) : Sp := fun vs H Q _ => ∃ (a : Addr) (ns : List Int), vs = [.ref a] ∧ SqL K H a (ns.map V.int) ∧ ns.length ≤ 63 ∧
  ∀ (h c : Addr) (H' : Hp), HandAt H' h c → Same H H' → H h = none → Q (.ref h) H'
theorem upd_upd {H : Hp} {p : Addr} {o u : HO} : upd (upd H p o) p u = upd H p u := by
  funext b
  by_cases e : b = p
  · subst e; rw [upd_same, upd_same]
  · rw [upd_ne e, upd_ne e, upd_ne e]
theorem upd_id {H : Hp} {p : Addr} {o : HO} (e : H p = some o) : upd H p o = H := by
  funext b
  by_cases h : b = p
  · subst h; rw [upd_same, e]
  · rw [upd_ne h]
theorem upd_none {H : Hp} {p q : Addr} {o : HO} (e : upd H p o q = none) : q ≠ p ∧ H q = none := by
  by_cases h : q = p
  · subst h; rw [upd_same] at e; cases e
  · rw [upd_ne h] at e; exact ⟨h, e⟩
theorem ne_of_free {H : Hp} {p q : Addr} {o : HO} (e : upd H p o q = none) : q ≠ p := (upd_none e).1

/-! ### integers -/
/-- whether x is an integer (a flag is none) -/
def IsI (K : PySem.W.Frag) (H : Hp) (x : V) (b : Bool) : Prop := ∃ (t : Value) (b1 b2 : Bool), TyX K H x t ∧ PySem.W.kitOne K t (.type "int") = some b1 ∧ PySem.W.kitOne K t (.type "bool") = some b2 ∧ b = (b1 && !b2)
theorem isI_int {K : PySem.W.Frag} {H : Hp} (i : Int) : IsI K H (.int i) true := ⟨.type "int", true, false, .base (.int i), kit_ty (by decide +kernel), kit_ty (by decide +kernel), rfl⟩
theorem isI_bl {K : PySem.W.Frag} {H : Hp} (i : Bool) : IsI K H (.bl i) false := ⟨.type "bool", true, true, .base (.bl i), kit_ty (by decide +kernel), kit_ty (by decide +kernel), rfl⟩
theorem isI_non {K : PySem.W.Frag} {H : Hp} : IsI K H .non false := ⟨.type "NoneType", false, false, .base .non, kit_ty (by decide +kernel), kit_ty (by decide +kernel), rfl⟩
theorem isI_str {K : PySem.W.Frag} {H : Hp} (z : Str) : IsI K H (.str z) false := ⟨.type "str", false, false, .base (.str z), kit_ty (by decide +kernel), kit_ty (by decide +kernel), rfl⟩
theorem isI_lst {K : PySem.W.Frag} {H : Hp} {a : Addr} {xs : List V} (e : H a = some (.lst xs)) : IsI K H (.ref a) false := ⟨.type "list", false, false, .base (.lst e), kit_ty (by decide +kernel), kit_ty (by decide +kernel), rfl⟩
theorem isI_tup {K : PySem.W.Frag} {H : Hp} {a : Addr} {xs : List V} (e : H a = some (.tup xs)) : IsI K H (.ref a) false := ⟨.type "tuple", false, false, .base (.tup e), kit_ty (by decide +kernel), kit_ty (by decide +kernel), rfl⟩
theorem isI_dK {K : PySem.W.Frag} {H : Hp} {a : Addr} {xs : List (Key × V)} (e : H a = some (.dK xs)) : IsI K H (.ref a) false := ⟨.type "dict", false, false, .base (.dK e), kit_ty (by decide +kernel), kit_ty (by decide +kernel), rfl⟩
def spIsInt (K : PySem.W.Frag) : Sp := fun vs H Q _ => ∃ (x : V) (b : Bool), vs = [x] ∧ IsI K H x b ∧ Q (.bl b) H
section
variable {P : Program} {w : World} {K : PySem.W.Frag} {mg : Str → Option Value} {base : Heap}
theorem ok_is_integer (T : Top K mg) : FnOk P w K mg base CX0 1 T.f_is_integer T.fd_is_integer ["thing"] (spIsInt K) := by
  refine T.F_is_integer.ok sc_is_integer (fun vs H Q E h => ?_) (fun cdv A outer s H vs Q E hr h => ?_)
  · obtain ⟨x, b, rfl, _⟩ := h; rfl
  · obtain ⟨x, b, rfl, ⟨t, b1, b2, ty, e1, e2, eb⟩, q⟩ := h
    refine ⟨_, (pss_one (ps_ret (pe_and (pe_callB call_isi (by rfl) T.n_isinstance (by decide +kernel) (pa_cons (pv 0) (pa_cons (pe_bltn (v := V.ty "int") (by rfl) T.n_int (by decide +kernel) rfl) pa_nil))) (pe_one (pe_not (pe_callB call_isi (by rfl) T.n_isinstance (by decide +kernel) (pa_cons (pv 0) (pa_cons (pe_bltn (v := V.ty "bool") (by rfl) T.n_bool (by decide +kernel) rfl) pa_nil)))))))), ?_⟩
    walk_at "rd"
    refine RD.d_isi (.ty _) ty e1 ?_
    walk_at "rd"
    cases b1 with
    | false =>
      walk_at "rd"
      rw [eb] at q; exact q
    | true =>
      walk_at "rd"
      refine RD.d_isi (.ty _) ty e2 ?_
      walk_at "rd"
      rw [eb] at q
      simpa using q
end

/-! ### errors with a value -/
def spWE (K : PySem.W.Frag) : Sp := fun vs H Q _ => ∃ (a C : Addr) (v : V), vs = [.ref a, v] ∧ OexC K C ∧ PySem.W.findIn K (.ref C) "value" = some none ∧ H a = some (exo a C none) ∧
  ∀ d, H d = none → d ≠ a → Q .non (upd (upd H d (exd d [("value", v)])) a (exo a C (some d)))
/-- an error's own dict, with its value -/
def ErrD (v : V) : HO := .xd [(("value" : Str), v)]
theorem errD_v (v : V) : List.lookup ("value" : Str) [(("value" : Str), v)] = some v := by simp [List.lookup]
section
variable {P : Program} {w : World} {K : PySem.W.Frag} {mg : Str → Option Value} {base : Heap}
theorem ok_WayError__init (T : Top K mg) : FnOk P w K mg base CX0 1 T.f_WayError__init T.fd_WayError__init ["self", "value"] (spWE K) := by
  refine T.F_WayError__init.ok sc_WayError__init (fun vs H Q E h => ?_) (fun cdv A outer s H vs Q E hr h => ?_)
  · obtain ⟨a, C, v, rfl, _⟩ := h; rfl
  · obtain ⟨a, C, v, rfl, oc, nv, ha, q⟩ := h
    refine ⟨_, (pss_one (ps_ost (pv 0) (pv 1))), ?_⟩
    exact ⟨_, rfl, _, rfl, a, C, rfl, oc, nv, .inl ⟨ha, fun d hd ne => q d hd ne⟩⟩
end
/-- what is asked where such an error is raised -/
theorem d_mkO {K : PySem.W.Frag} {H : Hp} {C : Addr} {v : V} {R : XK} (oc : OexC K C) (nv : PySem.W.findIn K (.ref C) "value" = some none) (k : ∀ d, H d = none → R (.ref C) (some d) (upd H d (ErrD v))) :
    [v].length ≤ 1000 ∧ ∀ a, H a = none → spWE K (.ref a :: ([v] ++ [])) (upd H a (exo a C none))
      (fun u H2 => u = .non ∧ ∃ (d : Addr) (fs : List (Str × V)), H2 a = some (exo a C (some d)) ∧ H2 d = some (exd d fs) ∧ H d = none ∧ R (.ref C) (some d) (upd (del H2 a) d (.xd fs))) (fun _ _ _ => False) := by
  refine ⟨by simp, fun a ha => ⟨a, C, v, rfl, oc, nv, upd_same, fun d hd ne => ⟨rfl, d, [(("value" : Str), v)], upd_same, ?_, ?_, ?_⟩⟩⟩
  · rw [upd_ne ne, upd_same]
  · rw [upd_ne ne] at hd; exact hd
  · have hd0 : H d = none := by rw [upd_ne ne] at hd; exact hd
    have e : upd (del (upd (upd (upd H a (exo a C none)) d (exd d [("value", v)])) a (exo a C (some d))) a) d (.xd [("value", v)]) = upd H d (ErrD v) := by
      funext b
      by_cases hb : b = d
      · subst hb; rw [upd_same, upd_same]; rfl
      · rw [upd_ne hb, upd_ne hb]
        by_cases hba : b = a
        · subst hba; rw [del_same, ha]
        · rw [del_ne hba, upd_ne hba, upd_ne hb, upd_ne hba]
    rw [e]; exact k d hd0
theorem d_raise {K : PySem.W.Frag} {σ : L2.St} {H : Hp} {C : Addr} {ta : TA} {R : XK} (h : ta σ H fun vs H1 => vs.length ≤ 1000 ∧ ∀ a, H1 a = none → spWE K (.ref a :: (vs ++ [])) (upd H1 a (exo a C none))
      (fun u H2 => u = .non ∧ ∃ (d : Addr) (fs : List (Str × V)), H2 a = some (exo a C (some d)) ∧ H2 d = some (exd d fs) ∧ H1 d = none ∧ R (.ref C) (some d) (upd (del H2 a) d (.xd fs))) (fun _ _ _ => False)) :
    tMkO C (spWE K) [] ta σ H R := h

/-! ### the class Ratio -/
def ratF (q : Rat) : List (Str × V) := [(("top" : Str), V.int q.num), (("bottom" : Str), V.int (q.den : Int))]
def RatAt (C : Addr) (H : Hp) (a : Addr) (q : Rat) : Prop := ∃ dx, H a = some (.ins C dx (ratF q))
def spRat (K : PySem.W.Frag) (C BN : Addr) : Sp := fun vs H Q E => ∃ (x dx : Addr) (t b : V), vs = [.ref x, t, b] ∧ H x = some (.ins C dx []) ∧
  ((IsI K H t false ∧ ∀ d, H d = none → E (.ref BN) (some d) (upd H d (ErrD t))) ∨
   (∃ i : Int, t = .int i ∧ (IsI K H b false ∨ b = .int 0) ∧ ∀ d, H d = none → E (.ref BN) (some d) (upd H d (ErrD b))) ∨
   ∃ i j : Int, t = .int i ∧ b = .int j ∧ j ≠ 0 ∧ j.natAbs.log2 < 9000 ∧ Q .non (upd H x (.ins C dx (ratF (Rat.divInt i j)))))
theorem ratF_put (u v : V) : putF "bottom" v (putF "top" u []) = [(("top" : Str), u), (("bottom" : Str), v)] := by
  show (if ("top" : Str) = "bottom" then [(("top" : Str), v)] else (("top" : Str), u) :: putF "bottom" v []) = _
  rw [if_neg (by decide +kernel)]; rfl
theorem ratF_top (q : Rat) : (ratF q).lookup ("top" : Str) = some (.int q.num) := by unfold ratF; simp [List.lookup]
theorem tb_ne : (("bottom" : Str) == ("top" : Str)) = false := by decide +kernel
theorem ratF_bottom (q : Rat) : (ratF q).lookup ("bottom" : Str) = some (.int (q.den : Int)) := by unfold ratF; simp [List.lookup, tb_ne]
theorem log2_mono {a b : Nat} (h : a ≤ b) : a.log2 ≤ b.log2 := by
  by_cases ha : a = 0
  · subst ha; simp
  · exact (Nat.le_log2 (by omega)).mpr (Nat.le_trans (Nat.log2_self_le ha) h)
section
variable {P : Program} {w : World} {K : PySem.W.Frag} {mg : Str → Option Value} {base : Heap}
theorem ok_Ratio__init (T : Top K mg) : FnOk P w K mg base (L2.CX P w) 3 T.f_Ratio__init T.fd_Ratio__init ["self", "top", "bottom"] (spRat K T.C_Ratio T.C_BN) := by
  refine T.F_Ratio__init.ok sc_Ratio__init (fun vs H Q E h => ?_) (fun cdv A outer s H vs Q E hr h => ?_)
  · obtain ⟨x, dx, t, b, rfl, _⟩ := h; rfl
  · obtain ⟨x, dx, t, b, rfl, hx, h⟩ := h
    refine ⟨_, (pss_cons (ps_if (pt_not (pt_val (pe_call (ok_is_integer T) (hr.mono (by decide)) (by rfl) T.g_is_integer T.F_is_integer.kp T.b_is_integer .nil pass0 (pa_cons (pv 1) pa_nil))))
 (pss_one (ps_raise rfl (takes_of rfl rfl rfl rfl) (pmk_oex T.oex_BadNumber T.i_BadNumber T.tI (ok_WayError__init T) (hr.mono (by decide)) T.b_WayError__init .nil pass0 (by rfl) T.g_BadNumber (pa_cons (pv 1) pa_nil))))
 pss_nil)
 (pss_cons (ps_if (PW.pt (pw_or (pt_not (pt_val (pe_call (ok_is_integer T) (hr.mono (by decide)) (by rfl) T.g_is_integer T.F_is_integer.kp T.b_is_integer .nil pass0 (pa_cons (pv 2) pa_nil)))) (pw_or1 (pt_cmpR op_eq (pv 2) pe_int (nomark _)))))
 (pss_one (ps_raise rfl (takes_of rfl rfl rfl rfl) (pmk_oex T.oex_BadNumber T.i_BadNumber T.tI (ok_WayError__init T) (hr.mono (by decide)) T.b_WayError__init .nil pass0 (by rfl) T.g_BadNumber (pa_cons (pv 2) pa_nil))))
 pss_nil)
 (pss_cons (ps_set (i := 3) sc_Ratio__init.nd rfl (Or.inl rfl) (pe_callBfun cr_gcd (by rfl) T.g_gcd (pa_cons (pv 1) (pa_cons (pv 2) pa_nil))))
 (C8.pss_cut (ps_if (pt_cmpR op_lt (pv 2) pe_int (nomark _))
 (pss_one (ps_set (i := 3) sc_Ratio__init.nd rfl (Or.inl rfl) (pe_un un_neg (pv 3))))
 pss_nil)
 (pss_cons (ps_fld (pv 0) (pe_op OQ.op_fdivX (pv 1) (pv 3)) rfl)
 (pss_one (ps_fld (pv 0) (pe_op OQ.op_fdivX (pv 2) (pv 3)) rfl))))))), ?_⟩
    walk_at "rd"
    rcases h with ⟨ni, k⟩ | ⟨i, rfl, nb, k⟩ | ⟨i, j, rfl, rfl, nz, hl, k⟩
    · refine ⟨t, false, rfl, ni, ?_⟩
      walk_at "rd"
      exact d_mkO T.oex_BadNumber T.v_BadNumber k
    · refine ⟨.int i, true, rfl, isI_int i, ?_⟩
      walk_at "rd"
      rcases nb with nb | rfl
      · refine ⟨b, false, rfl, nb, ?_⟩
        walk_at "rd"
        exact d_mkO T.oex_BadNumber T.v_BadNumber k
      · refine ⟨.int 0, true, rfl, isI_int 0, ?_⟩
        walk_at "rd"
        exact d_mkO T.oex_BadNumber T.v_BadNumber k
    · refine ⟨.int i, true, rfl, isI_int i, ?_⟩
      walk_at "rd"
      refine ⟨.int j, true, rfl, isI_int j, ?_⟩
      walk_at "rd"
      refine RD.d_iteDF nz ?_
      walk_at "rd"
      have hs := RM.shr_ne (i := i) nz
      have hb : (RM.shr i j).natAbs.log2 < 9000 := Nat.lt_of_le_of_lt (log2_mono (RM.shr_le nz)) hl
      refine RD.d_cut (fun σ' H' => σ' = [some (.ref x), some (.int i), some (.int j), some (.int (RM.shr i j))] ∧ H' = H) ?_ ?_
      · walk_at "rd"
        refine RD.iteD (fun c => ?_) (fun c => ?_)
        · walk_at "rd"
          exact ⟨by unfold RM.shr; rw [if_pos c]; rfl, rfl⟩
        · walk_at "rd"
          exact ⟨by unfold RM.shr; rw [if_neg c]; rfl, rfl⟩
      · rintro σ' H' ⟨rfl, rfl⟩
        walk_at "rd"
        refine ⟨x, T.C_Ratio, dx, [], rfl, hx, T.cl_Ratio, T.na_Ratio_top, by show 0 < 1000; decide, ?_⟩
        walk_at "rd"
        refine ⟨x, T.C_Ratio, dx, _, rfl, upd_same, T.cl_Ratio, T.na_Ratio_bottom, by show 1 < 1000; decide, ?_⟩
        rw [upd_upd, RM.num_eq nz, RM.den_eq nz, ratF_put]
        exact k
end

section
variable {P : Program} {w : World} {K : PySem.W.Frag} {mg : Str → Option Value} {base : Heap} {H : Hp} {R : V → Prop}
theorem ratTop (T : Top K mg) {a : Addr} {q : Rat} (h : RatAt T.C_Ratio H a q) (k : R (.int q.num)) : ∃ a' C dx fs v, V.ref a = .ref a' ∧ H a' = some (.ins C dx fs) ∧ Cls K C ∧ NoAttr K C "top" ∧ fs.lookup ("top" : Str) = some v ∧ R v := by
  obtain ⟨dx, e⟩ := h
  exact ⟨a, _, dx, _, _, rfl, e, T.cl_Ratio, T.na_Ratio_top, ratF_top q, k⟩
theorem ratBottom (T : Top K mg) {a : Addr} {q : Rat} (h : RatAt T.C_Ratio H a q) (k : R (.int (q.den : Int))) : ∃ a' C dx fs v, V.ref a = .ref a' ∧ H a' = some (.ins C dx fs) ∧ Cls K C ∧ NoAttr K C "bottom" ∧ fs.lookup ("bottom" : Str) = some v ∧ R v := by
  obtain ⟨dx, e⟩ := h
  exact ⟨a, _, dx, _, _, rfl, e, T.cl_Ratio, T.na_Ratio_bottom, ratF_bottom q, k⟩
theorem tyR (T : Top K mg) {a : Addr} {q : Rat} (h : RatAt T.C_Ratio H a q) : TyX K H (.ref a) (.ref T.C_Ratio) := by
  obtain ⟨dx, e⟩ := h
  exact .base (.ins e T.cl_Ratio T.haR T.hnO T.htO T.hmR)
theorem isI_rat (T : Top K mg) {a : Addr} {q : Rat} (h : RatAt T.C_Ratio H a q) : IsI K H (.ref a) false := ⟨_, false, false, tyR T h, T.kRi, T.kRb, rfl⟩
def spEq (K : PySem.W.Frag) (C : Addr) : Sp := fun vs H Q _ => ∃ (a : Addr) (p : Rat) (y : V), vs = [.ref a, y] ∧ RatAt C H a p ∧
  ((∃ b q, y = .ref b ∧ RatAt C H b q ∧ Q (.bl (decide (p = q))) H) ∨ (∃ i : Int, y = .int i ∧ Q (.bl (decide (p = (i : Rat)))) H) ∨
   (∃ t, TyX K H y t ∧ PySem.W.kitOne K t (.ref C) = some false ∧ IsI K H y false ∧ Q (.bl false) H))
theorem ok_Ratio__eq (T : Top K mg) : FnOk P w K mg base CX0 2 T.f_Ratio__eq T.fd_Ratio__eq ["self", "other"] (spEq K T.C_Ratio) := by
  refine T.F_Ratio__eq.ok sc_Ratio__eq (fun vs H Q E h => ?_) (fun cdv A outer s H vs Q E hr h => ?_)
  · obtain ⟨a, p, y, rfl, _⟩ := h; rfl
  · obtain ⟨a, p, y, rfl, ha, h⟩ := h
    refine ⟨_, (pss_cons (ps_if (pt_val (pe_callB call_isi (by rfl) T.n_isinstance (by decide +kernel) (pa_cons (pv 1) (pa_cons (pe_glob (v := V.ref T.C_Ratio) (by rfl) T.g_Ratio rfl) pa_nil))))
 (pss_one (ps_ret (pe_and (pe_cmpR op_eq (pe_fld (pv 0) rfl) (pe_fld (pv 1) rfl) (nomark _)) (pe_one (pe_cmpR op_eq (pe_fld (pv 0) rfl) (pe_fld (pv 1) rfl) (nomark _))))))
 pss_nil)
 (pss_one (ps_ret (pe_and (pe_call (ok_is_integer T) (hr.mono (by decide)) (by rfl) T.g_is_integer T.F_is_integer.kp T.b_is_integer .nil pass0 (pa_cons (pv 1) pa_nil)) (pe_and (pe_cmpR op_eq (pe_fld (pv 0) rfl) pe_int (nomark _)) (pe_one (pe_cmpR op_eq (pe_fld (pv 0) rfl) (pv 1) (nomark _)))))))), ?_⟩
    walk_at "rd"
    rcases h with ⟨b, q, rfl, hb, k⟩ | ⟨i, rfl, k⟩ | ⟨t, ty, kt, ni, k⟩
    · refine RD.d_isi (.own _) (tyR T hb) T.kRR ?_
      walk_at "rd"
      refine ratTop T ha ?_
      walk_at "rd"
      refine ratTop T hb ?_
      walk_at "rd"
      refine RD.iteD (fun c => ?_) (fun c => ?_)
      · walk_at "rd"
        refine ratBottom T ha ?_
        walk_at "rd"
        refine ratBottom T hb ?_
        walk_at "rd"
        have e : decide ((p.den : Int) = (q.den : Int)) = decide (p = q) := by
          rw [decide_eq_decide]
          exact ⟨fun z => Rat.ext c (by omega), fun z => by rw [z]⟩
        rw [e]; exact k
      · walk_at "rd"
        have e : false = decide (p = q) := by
          symm; exact decide_eq_false (fun z => c (by rw [z]))
        rw [e]; exact k
    · refine RD.d_isi (.own _) (.base (.int i)) (T.kT "int" (by simp)).1 ?_
      walk_at "rd"
      refine ⟨.int i, true, rfl, isI_int i, ?_⟩
      walk_at "rd"
      refine ratBottom T ha ?_
      walk_at "rd"
      refine RD.iteD (fun c => ?_) (fun c => ?_)
      · walk_at "rd"
        refine ratTop T ha ?_
        walk_at "rd"
        have e : decide (p.num = i) = decide (p = (i : Rat)) := by
          rw [decide_eq_decide]
          exact ⟨fun z => Rat.ext (by rw [Rat.num_intCast]; exact z) (by rw [Rat.den_intCast]; omega), fun z => by rw [z, Rat.num_intCast]⟩
        rw [e]; exact k
      · walk_at "rd"
        have e : false = decide (p = (i : Rat)) := by
          symm; exact decide_eq_false (fun z => c (by rw [z, Rat.den_intCast]; rfl))
        rw [e]; exact k
    · refine RD.d_isi (.own _) ty kt ?_
      walk_at "rd"
      refine ⟨y, false, rfl, ni, ?_⟩
      walk_at "rd"
      exact k
end

/-! ### what the law asks of a Ratio, and of refusals -/
theorem tyX_same {K : PySem.W.Frag} {H H' : Hp} {x : V} {t : Value} (h : TyX K H x t) (s : Same H H') : TyX K H' x t := by
  cases h with
  | base b =>
    refine .base ?_
    cases b with
    | non => exact .non
    | bl x => exact .bl x
    | int i => exact .int i
    | str x => exact .str x
    | flt x => exact .flt x
    | lst e => exact .lst (s _ _ e)
    | frz e => exact .frz (s _ _ e)
    | tup e => exact .tup (s _ _ e)
    | dK e => exact .dK (s _ _ e)
    | dT e => exact .dT (s _ _ e)
    | ins e cl a n k m => exact .ins (s _ _ e) cl a n k m
  | byt b => exact .byt b
  | set e => exact .set (s _ _ e)
  | kList e c => exact .kList e c
  | kTuple e c => exact .kTuple e c
  | kDict e c => exact .kDict e c
  | fTuple e => exact .fTuple (s _ _ e)
  | fDict e => exact .fDict (s _ _ e)
theorem IsI.same {K : PySem.W.Frag} {H H' : Hp} {x : V} {b : Bool} (h : IsI K H x b) (s : Same H H') : IsI K H' x b := by
  obtain ⟨t, b1, b2, ty, e1, e2, e⟩ := h
  exact ⟨t, b1, b2, tyX_same ty s, e1, e2, e⟩
theorem RatAt.same {C : Addr} {H H' : Hp} {a : Addr} {q : Rat} (h : RatAt C H a q) (s : Same H H') : RatAt C H' a q := by
  obtain ⟨dx, e⟩ := h
  exact ⟨dx, s _ _ e⟩
theorem HandAt.same {H H' : Hp} {h c : Addr} (x : HandAt H h c) (s : Same H H') : HandAt H' h c := by
  obtain ⟨cs, p, q, m, n, e1, e2, ne, hp⟩ := x
  exact ⟨cs, p, q, m, n, s _ _ e1, s _ _ e2, ne, hp⟩
theorem same_upd {H : Hp} {p : Addr} {o : HO} (h : H p = none) : Same H (upd H p o) := fun b u e => by
  rw [upd_ne (ne_of_none e h)]; exact e
theorem same_made {H : Hp} {x dx C : Addr} (nx : H x = none) (ndx : H dx = none) (ne : dx ≠ x) : Same H (upd (upd H dx (.own x)) x (.ins C dx [])) := fun b u e => by
  rw [upd_ne (ne_of_none e nx), upd_ne (ne_of_none e ndx)]; exact e

section
variable {P : Program} {w : World} {K : PySem.W.Frag} {mg : Str → Option Value} {base : Heap}
theorem ok_law_draw (T : Top K mg) : FnOk P w K mg base CX0 1 T.f_law_draw T.fd_law_draw ["hand", "many"] spDraw := by
  refine T.F_law_draw.ok sc_law_draw (fun vs H Q E h => ?_) (fun cdv A outer s H vs Q E hr h => ?_)
  · obtain ⟨h, c, many, rfl, _⟩ := h; rfl
  · obtain ⟨h, c, many, rfl, ⟨cs, p, q, m, n, e1, e2, ne, hp⟩, m0, ml, k⟩ := h
    refine ⟨_, (C8.pss_cut (ps_if (PW.pt (pw_and (pt_cmpR op_eq (pe_ix ix_list (pv 0) pe_int (fun _ _ => rfl)) pe_int (nomark _)) (pw_and1 (pt_cmpR op_lt (pe_ix ix_list (pv 0) pe_int (fun _ _ => rfl)) (pe_callB RD.c_len (by rfl) T.n_len (by decide +kernel) (pa_cons (pe_ix ix_list (pv 0) pe_int (fun _ _ => rfl)) pa_nil)) (nomark _)))))
 (pss_cons (ps_set (i := 2) sc_law_draw.nd rfl (Or.inl rfl) (pe_ix ix_list (pe_ix ix_list (pv 0) pe_int (fun _ _ => rfl)) (pe_ix ix_list (pv 0) pe_int (fun _ _ => rfl)) (fun _ _ => rfl)))
 (pss_cons (ps_asg (pe_op op_add (pe_ix ix_list (pv 0) pe_int (fun _ _ => rfl)) pe_int) (pg_sub (pv 0) pe_int set_list))
 (pss_cons (ps_asg (pe_op op_mod (pe_callTy RD.c_int (by rfl) T.n_int (by decide +kernel) (pa_cons (pe_op op_add (pe_op op_add (pe_op op_mul (pe_ix ix_list (pv 0) pe_int (fun _ _ => rfl)) pe_int) (pv 2)) pe_int) pa_nil)) pe_int) (pg_sub (pv 0) pe_int set_list))
 (pss_one (ps_if (pt_cmpR op_ge (pv 2) (pe_op op_pow pe_int pe_int) (nomark _))
 (pss_one (ps_asg (pv 2) (pg_sub (pv 0) pe_int set_list)))
 pss_nil)))))
 pss_nil)
 (pss_cons (ps_if (pt_cmpR op_gt (pe_ix ix_list (pv 0) pe_int (fun _ _ => rfl)) pe_int (nomark _))
 (pss_cons (ps_set (i := 3) sc_law_draw.nd rfl (Or.inl rfl) (pe_op op_mod (pe_callTy RD.c_int (by rfl) T.n_int (by decide +kernel) (pa_cons (pe_ix ix_list (pv 0) pe_int (fun _ _ => rfl)) pa_nil)) (pv 1)))
 (pss_cons (ps_asg (pe_op op_fdivW (pe_ix ix_list (pv 0) pe_int (fun _ _ => rfl)) (pv 1)) (pg_sub (pv 0) pe_int set_list))
 (pss_one (ps_ret (pv 3)))))
 pss_nil)
 (pss_cons (ps_asg (pe_op op_add (pe_ix ix_list (pv 0) pe_int (fun _ _ => rfl)) pe_int) (pg_sub (pv 0) pe_int set_list))
 (pss_cons (ps_set (i := 4) sc_law_draw.nd rfl (Or.inl rfl) (pe_op op_mod (pe_callTy RD.c_int (by rfl) T.n_int (by decide +kernel) (pa_cons (pe_op op_mul (pe_callTy RD.c_int (by rfl) T.n_int (by decide +kernel) (pa_cons (pe_op op_add (pe_ix ix_list (pv 0) pe_int (fun _ _ => rfl)) (pe_op op_mul pe_int (pe_ix ix_list (pv 0) pe_int (fun _ _ => rfl)))) pa_nil)) pe_int) pa_nil)) pe_int))
 (pss_cons (ps_set (i := 4) sc_law_draw.nd rfl (Or.inl rfl) (pe_op op_mod (pe_callTy RD.c_int (by rfl) T.n_int (by decide +kernel) (pa_cons (pe_op op_mul (pv 4) (pe_op op_add (pe_op op_fdivW (pv 4) pe_int) pe_int)) pa_nil)) pe_int))
 (pss_cons (ps_set (i := 4) sc_law_draw.nd rfl (Or.inl rfl) (pe_op op_mod (pe_callTy RD.c_int (by rfl) T.n_int (by decide +kernel) (pa_cons (pe_op op_mul (pv 4) (pe_op op_add (pe_op op_fdivW (pv 4) pe_int) pe_int)) pa_nil)) pe_int))
 (pss_one (ps_ret (pe_op op_mod (pe_callTy RD.c_int (by rfl) T.n_int (by decide +kernel) (pa_cons (pe_op op_fdivW (pv 4) pe_int) pa_nil)) (pv 1)))))))))), ?_⟩
    unfold handV at e1
    refine RD.d_cut (fun σ' H' => ∃ x p' q' m', σ' = [some (.ref h), some (.int many), x, none, none] ∧ H' = upd H h (.lst [.ref c, .int p', .int q', .int m', .int n]) ∧ 0 ≤ p') ?_ ?_
    · walk_at "rd"
      refine RD.iteD (fun c1 => ?_) (fun c1 => ?_)
      · walk_at "rd"
        refine RD.iteD (fun c2 => ?_) (fun c2 => ?_)
        · have hl : p.toNat < cs.length := by rw [List.length_map] at c2; omega
          have hg : (cs.map V.int)[p.toNat]? = some (V.int cs[p.toNat]) := by simp [hl]
          have ha : atI (cs.map V.int) p = some (V.int cs[p.toNat]) := by
            have z := atI_nat hg
            rwa [Int.toNat_of_nonneg hp] at z
          walk_at "rd"
          refine RD.d_ixL (SqL.of e2) ha ?_
          walk_at "rd"
          refine RD.iteD (fun c3 => ?_) (fun c3 => ?_)
          · walk_at "rd"
            exact ⟨_, p + 1, cs[p.toNat], (m * 69621 + cs[p.toNat] + 11) % 2147483629, rfl, (by rw [upd_upd, upd_upd]; rfl), by omega⟩
          · walk_at "rd"
            exact ⟨_, p + 1, q, (m * 69621 + cs[p.toNat] + 11) % 2147483629, rfl, (by rw [upd_upd]; rfl), by omega⟩
        · walk_at "rd"
          exact ⟨none, p, q, m, rfl, (upd_id e1).symm, hp⟩
      · walk_at "rd"
        exact ⟨none, p, q, m, rfl, (upd_id e1).symm, hp⟩
    · rintro σ' H' ⟨x, p', q', m', rfl, rfl, hp'⟩
      have fin : ∀ q2 n2 : Int, HandAt (upd H h (.lst [.ref c, .int p', .int q2, .int m', .int n2])) h c ∧ But h H (upd H h (.lst [.ref c, .int p', .int q2, .int m', .int n2])) := fun q2 n2 =>
        ⟨⟨cs, p', q2, m', n2, upd_same, (by rw [upd_ne ne]; exact e2), ne, hp'⟩, fun b hb => upd_ne hb⟩
      walk_at "rd"
      refine RD.iteD (fun c1 => ?_) (fun c1 => ?_)
      · walk_at "rd"
        rw [upd_upd]
        exact k _ _ (Int.emod_nonneg _ (by omega)) (Int.emod_lt_of_pos _ m0) (fin _ _).1 (fin _ _).2
      · walk_at "rd"
        rw [upd_upd]
        exact k _ _ (Int.emod_nonneg _ (by omega)) (Int.emod_lt_of_pos _ m0) (fin _ _).1 (fin _ _).2
end
section
variable {P : Program} {w : World} {K : PySem.W.Frag} {mg : Str → Option Value} {base : Heap}
theorem ok_law_hand (T : Top K mg) : FnOk P w K mg base CX0 1 T.f_law_hand T.fd_law_hand ["script"] (spHand K) := by
  refine T.F_law_hand.ok sc_law_hand (fun vs H Q E h => ?_) (fun cdv A outer s H vs Q E hr h => ?_)
  · obtain ⟨a, ns, rfl, _⟩ := h; rfl
  · obtain ⟨a, ns, rfl, hS, hl, k⟩ := h
    refine ⟨_, (pss_cons (ps_setLc (i := 1) (own := [("cell", 2)]) (g := (gName 2)) (tt := tYes) rfl sc_law_hand.nd rfl rfl (sw_true rfl rfl rfl (by decide +kernel)) (pi_list (pe_slice sl_list (pv 0) po_none (po_some pe_int))) (blkOk_by (own := [("cell", 2)]) (N := ["script", "cells", "cell"]) (sc := defScope s_law_hand) (by decide +kernel)) (fun _ _ _ _ _ => (pg_name (i := 2) sc_law_hand.nd rfl (Or.inl rfl))) (fun _ _ _ _ _ => pts_nil) (fun _ _ _ _ _ => (pe_callB RD.c_abs (by rfl) T.n_abs (by decide +kernel) (pa_cons (pe_callTy RD.c_int (by rfl) T.n_int (by decide +kernel) (pa_cons (pv 2) pa_nil)) pa_nil))))
 (pss_one (ps_ret (pe_lst (pa_cons (pv 1) (pa_cons pe_int (pa_cons pe_int (pa_cons (pe_op op_add pe_int (pe_callB RD.c_len (by rfl) T.n_len (by decide +kernel) (pa_cons (pv 1) pa_nil))) (pa_cons pe_int pa_nil))))))))), ?_⟩
    walk_at "rd"
    refine ⟨a, ns.map V.int, rfl, hS, fun p hp => ?_⟩
    walk_at "rd"
    intro D hD
    have nD : D ≠ p := ne_of_free hD
    have hz : ∀ v ∈ cutV (ns.map V.int) none (some 63), ∃ z : Int, v = V.int z := fun v hv => by
      have q := List.mem_of_mem_take hv
      have q2 := List.mem_of_mem_drop q
      obtain ⟨z, _, rfl⟩ := List.mem_map.mp q2
      exact ⟨z, rfl⟩
    have hlen : (cutV (ns.map V.int) none (some 63)).length ≤ 63 := Nat.le_trans (cutV_length _ _ _) (by rw [List.length_map]; exact hl)
    refine lc_list (K := K) (a := p) (xs := cutV (ns.map V.int) none (some 63)) (fun i H' => Same H H' ∧ H D = none ∧ H' p = some (.lst (cutV (ns.map V.int) none (some 63))) ∧ ∃ cs : List Int, H' D = some (.lst (cs.map V.int)) ∧ cs.length ≤ i) ?_ ?_ ?_ ?_
    · refine ⟨fun b o e => ?_, (upd_none hD).2, by rw [upd_ne nD.symm, upd_same], [], upd_same, Nat.le_refl _⟩
      rw [upd_ne (ne_of_none e (upd_none hD).2), upd_ne (ne_of_none e hp)]; exact e
    · exact fun i H' _ q => SqL.of q.2.2.1
    · rintro i x H' hi ⟨s0, d0, hp', cs, hc, hcl⟩
      obtain ⟨z, rfl⟩ := hz x (List.mem_of_getElem? hi)
      have hi' : i < 63 := Nat.lt_of_lt_of_le (List.getElem?_eq_some_iff.mp hi).1 hlen
      walk_at "rd"
      refine ⟨_, hc, Nat.lt_of_le_of_lt (by rw [List.length_map]; exact hcl) (Nat.lt_of_lt_of_le hi' (by decide)), fun b o e => ?_, d0, by rw [upd_ne nD.symm]; exact hp', cs ++ [_], by rw [upd_same, List.map_append]; rfl, by simp; omega⟩
      rw [upd_ne (ne_of_none e d0)]; exact s0 b o e
    · rintro H' ⟨s0, d0, hp', cs, hc, hcl⟩
      walk_at "rd"
      refine ⟨by show 5 ≤ sizeLine; decide, fun h hh => ?_⟩
      refine k h D _ ⟨cs, 0, 0, _, 0, upd_same, by rw [upd_ne (ne_of_none hc hh)]; exact hc, ne_of_none hc hh, Int.le_refl _⟩ (fun b o e => ?_) (s0.free hh)
      rw [upd_ne (ne_of_none (s0 b o e) hh)]; exact s0 b o e
end

theorem rat_one (i : Int) : Rat.divInt i 1 = (i : Rat) := by
  have := Rat.num_divInt_den (i : Rat)
  rw [Rat.num_intCast, Rat.den_intCast] at this
  exact this

/-! ### the operators of Ratios -/
/-- a Ratio, or an integer -/
def Num (C : Addr) (H : Hp) (v : V) (q : Rat) : Prop := (∃ a, v = .ref a ∧ RatAt C H a q) ∨ ∃ i : Int, v = .int i ∧ q = (i : Rat)
theorem Num.same {C : Addr} {H H' : Hp} {v : V} {q : Rat} (n : Num C H v q) (s : Same H H') : Num C H' v q := n.imp (fun ⟨a, e, h⟩ => ⟨a, e, h.same s⟩) id
/-- both parts below 2 ^ n -/
def Bd (n : Nat) (q : Rat) : Prop := q.num.natAbs < 2 ^ n ∧ q.den < 2 ^ n
theorem Bd.mono {m n : Nat} {q : Rat} (b : Bd m q) (h : m ≤ n) : Bd n q := ⟨Nat.lt_of_lt_of_le b.1 (Nat.pow_le_pow_right (by decide) h), Nat.lt_of_lt_of_le b.2 (Nat.pow_le_pow_right (by decide) h)⟩
theorem den_pos (q : Rat) : (0 : Int) < (q.den : Int) := by have := q.den_nz; omega
theorem log_of {j : Int} {n : Nat} (h : j.natAbs < 2 ^ n) (hn : n ≤ 8000) : j.natAbs.log2 < 9000 := by
  by_cases z : j.natAbs = 0
  · rw [z]; decide +kernel
  · exact Nat.lt_of_lt_of_le ((Nat.log2_lt z).mpr (Nat.lt_of_lt_of_le h (Nat.pow_le_pow_right (by decide) (by omega : n ≤ 9000)))) (Nat.le_refl _)
theorem den_bd {q : Rat} {n : Nat} (b : Bd n q) : ((q.den : Int)).natAbs < 2 ^ n := by rw [Int.natAbs_natCast]; exact b.2
theorem rat_add (p q : Rat) : Rat.divInt (p.num * q.den + q.num * p.den) (p.den * q.den) = p + q := by
  conv => rhs; rw [← Rat.num_divInt_den p, ← Rat.num_divInt_den q]
  rw [Rat.divInt_add_divInt _ _ (by have := p.den_nz; omega) (by have := q.den_nz; omega)]
theorem rat_mul (p q : Rat) : Rat.divInt (p.num * q.num) (p.den * q.den) = p * q := by
  conv => rhs; rw [← Rat.num_divInt_den p, ← Rat.num_divInt_den q]
  rw [Rat.divInt_mul_divInt]
theorem rat_neg (p : Rat) : Rat.divInt (-p.num) p.den = -p := by
  conv => rhs; rw [← Rat.num_divInt_den p]
  rw [Rat.neg_divInt]
theorem spare {p q : Rat} : (p.den : Int) * (q.den : Int) ≠ 0 := by
  have h1 := den_pos p
  have h2 := den_pos q
  exact Int.mul_ne_zero (by omega) (by omega)
def spNum1 (C : Addr) : Sp := fun vs H Q _ => ∃ (v : V) (q : Rat), vs = [v] ∧ Num C H v q ∧ Q (.bl true) H
/-- what is no number -/
def NoNum (K : PySem.W.Frag) (C : Addr) (H : Hp) (y : V) : Prop := ∃ t, TyX K H y t ∧ PySem.W.kitOne K t (.ref C) = some false ∧ IsI K H y false
theorem NoNum.same {K : PySem.W.Frag} {C : Addr} {H H' : Hp} {y : V} (n : NoNum K C H y) (s : Same H H') : NoNum K C H' y := by
  obtain ⟨t, ty, e, i⟩ := n
  exact ⟨t, tyX_same ty s, e, i.same s⟩
def spAs (K : PySem.W.Frag) (C BN : Addr) : Sp := fun vs H Q E => ∃ v : V, vs = [v] ∧
  ((∃ q, Num C H v q ∧ ∀ a H', Same H H' → RatAt C H' a q → Q (.ref a) H') ∨ (NoNum K C H v ∧ ∀ d H', Same H H' → H d = none → H' d = some (ErrD v) → E (.ref BN) (some d) H'))
def spTwo (C : Addr) (g : Rat → Rat → Rat) : Sp := fun vs H Q _ => ∃ (a b : Addr) (p q : Rat), vs = [.ref a, .ref b] ∧ RatAt C H a p ∧ RatAt C H b q ∧ Bd 2000 p ∧ Bd 2000 q ∧ ∀ c H', Same H H' → RatAt C H' c (g p q) → Q (.ref c) H'
def spNeg (C : Addr) : Sp := fun vs H Q _ => ∃ (a : Addr) (p : Rat), vs = [.ref a] ∧ RatAt C H a p ∧ Bd 8000 p ∧ ∀ c H', Same H H' → RatAt C H' c (-p) → Q (.ref c) H'
def spOp (C : Addr) (g : Rat → Rat → Rat) : Sp := fun vs H Q _ => ∃ (a : Addr) (y : V) (p q : Rat), vs = [.ref a, y] ∧ RatAt C H a p ∧ Num C H y q ∧ Bd 2000 p ∧ Bd 2000 q ∧ ∀ c H', Same H H' → RatAt C H' c (g p q) → Q (.ref c) H'
section
variable {P : Program} {w : World} {K : PySem.W.Frag} {mg : Str → Option Value} {base : Heap} {H : Hp} {Q : VK} {E : XK}
theorem mk_rat (T : Top K mg) {i j : Int} {R : Addr → Hp → Prop} (nz : j ≠ 0) (hl : j.natAbs.log2 < 9000) (k : ∀ x H', Same H H' → H x = none → RatAt T.C_Ratio H' x (Rat.divInt i j) → R x H') :
    ∀ x dx, H x = none → H dx = none → dx ≠ x → spRat K T.C_Ratio T.C_BN (.ref x :: ([V.int i, V.int j] ++ [])) (upd (upd H dx (.own x)) x (.ins T.C_Ratio dx [])) (fun v H2 => v = .non ∧ R x H2) E := by
  intro x dx nx ndx ne
  refine ⟨x, dx, .int i, .int j, rfl, upd_same, .inr (.inr ⟨i, j, rfl, rfl, nz, hl, rfl, ?_⟩)⟩
  refine k x _ (fun b o e => ?_) nx ⟨dx, upd_same⟩
  rw [upd_ne (ne_of_none e nx), upd_ne (ne_of_none e nx), upd_ne (ne_of_none e ndx)]; exact e
theorem num_of (T : Top K mg) {v : V} {q : Rat} (n : Num T.C_Ratio H v q) : ∃ t b, TyX K H v t ∧ PySem.W.kitOne K t (.ref T.C_Ratio) = some b ∧ (b = false → ∃ i : Int, v = .int i ∧ q = (i : Rat)) ∧ (b = true → ∃ a, v = .ref a ∧ RatAt T.C_Ratio H a q) := by
  rcases n with ⟨a, rfl, h⟩ | ⟨i, rfl, e⟩
  · exact ⟨_, true, tyR T h, T.kRR, (fun z => Bool.noConfusion z), fun _ => ⟨a, rfl, h⟩⟩
  · exact ⟨_, false, .base (.int i), (T.kT "int" (by simp)).1, (fun _ => ⟨i, rfl, e⟩), fun z => Bool.noConfusion z⟩
theorem ok_is_number (T : Top K mg) : FnOk P w K mg base CX0 2 T.f_is_number T.fd_is_number ["thing"] (spNum1 T.C_Ratio) := by
  refine T.F_is_number.ok sc_is_number (fun vs H Q E h => ?_) (fun cdv A outer s H vs Q E hr h => ?_)
  · obtain ⟨v, q, rfl, _⟩ := h; rfl
  · obtain ⟨v, q, rfl, n, k⟩ := h
    obtain ⟨t, b, ty, e, hi, _⟩ := num_of T n
    refine ⟨_, (pss_one (ps_ret (pe_or (pe_callB call_isi (by rfl) T.n_isinstance (by decide +kernel) (pa_cons (pv 0) (pa_cons (pe_glob (v := V.ref T.C_Ratio) (by rfl) T.g_Ratio rfl) pa_nil))) (pe_one (pe_call (ok_is_integer T) (hr.mono (by decide)) (by rfl) T.g_is_integer T.F_is_integer.kp T.b_is_integer .nil pass0 (pa_cons (pv 0) pa_nil)))))), ?_⟩
    walk_at "rd"
    refine RD.d_isi (.own _) ty e ?_
    walk_at "rd"
    cases b with
    | true => walk_at "rd"; exact k
    | false =>
      obtain ⟨i, rfl, _⟩ := hi rfl
      walk_at "rd"
      exact ⟨.int i, true, rfl, isI_int i, k⟩
theorem ok_as_ratio (T : Top K mg) : FnOk P w K mg base (L2.CX P w) 5 T.f_as_ratio T.fd_as_ratio ["thing"] (spAs K T.C_Ratio T.C_BN) := by
  refine T.F_as_ratio.okX sc_as_ratio (fun vs H Q E h => ?_) (fun cdv A outer s H vs Q E hr h => ?_)
  · obtain ⟨v, rfl, _⟩ := h; rfl
  · obtain ⟨v, rfl, h⟩ := h
    obtain ⟨ds1, hv_Ratio__init, hb_Ratio__init⟩ := T.b1_Ratio__init
    refine ⟨_, (pss_one (ps_ret (pe_ifExp (pt_val (pe_callB call_isi (by rfl) T.n_isinstance (by decide +kernel) (pa_cons (pv 0) (pa_cons (pe_glob (v := V.ref T.C_Ratio) (by rfl) T.g_Ratio rfl) pa_nil)))) (pv 0) (pe_make T.M_Ratio (ok_Ratio__init T) (hr.mono (by decide)) (by rfl) T.g_Ratio hb_Ratio__init hv_Ratio__init (passes_call (takes_of rfl rfl rfl rfl) (fun _ _ _ _ h => h)) (pa_cons (pv 0) pa_nil))))), ?_⟩
    walk_at "rd"
    rcases h with ⟨q, n, k⟩ | ⟨⟨t, ty, e, ni⟩, k⟩
    · obtain ⟨t, b, ty, e, hi, hr'⟩ := num_of T n
      refine RD.d_isi (.own _) ty e ?_
      walk_at "rd"
      cases b with
      | true =>
        obtain ⟨a, rfl, h⟩ := hr' rfl
        walk_at "rd"
        exact k a _ (Same.refl _) h
      | false =>
        obtain ⟨i, rfl, rfl⟩ := hi rfl
        walk_at "rd"
        refine mk_rat T (i := i) (j := 1) (by decide) (by decide +kernel) (fun x H6 s6 nx hx => ?_)
        exact k x _ s6 (by rw [rat_one] at hx; exact hx)
    · refine RD.d_isi (.own _) ty e ?_
      walk_at "rd"
      intro x dx nx ndx ne
      refine ⟨x, dx, v, .int 1, rfl, upd_same, .inl ⟨ni.same (same_made nx ndx ne), fun d hd => ?_⟩⟩
      have s1 := (same_made (C := T.C_Ratio) nx ndx ne)
      exact k d _ (s1.trans (same_upd hd)) (s1.free hd) upd_same
end

theorem bd_div {n : Nat} {t b : Int} (nz : b ≠ 0) (ht : t.natAbs < 2 ^ n) (hb : b.natAbs < 2 ^ n) : Bd n (Rat.divInt t b) := by
  refine ⟨Nat.lt_of_le_of_lt ?_ ht, Nat.lt_of_le_of_lt ?_ hb⟩
  · rw [Rat.num_divInt]
    refine Nat.le_trans (Int.natAbs_ediv_le_natAbs _ _) ?_
    rw [Int.natAbs_mul]
    rcases Int.lt_trichotomy b 0 with h | h | h
    · rw [Int.sign_eq_neg_one_of_neg h]; simp
    · subst h; simp
    · rw [Int.sign_eq_one_of_pos h]; simp
  · rw [Rat.den_divInt, if_neg nz]; exact Nat.div_le_self _ _
theorem two_add {i j : Int} {n : Nat} (h1 : i.natAbs < 2 ^ n) (h2 : j.natAbs < 2 ^ n) : (i + j).natAbs < 2 ^ (n + 1) := by
  have := Int.natAbs_add_le i j
  rw [Nat.pow_succ]; omega
theorem two_sub {i j : Int} {n : Nat} (h1 : i.natAbs < 2 ^ n) (h2 : j.natAbs < 2 ^ n) : (i - j).natAbs < 2 ^ (n + 1) := by
  have := Int.natAbs_sub_le i j
  rw [Nat.pow_succ]; omega
theorem up2 {i : Int} {m n : Nat} (h : i.natAbs < 2 ^ m) (hn : m ≤ n) : i.natAbs < 2 ^ n := Nat.lt_of_lt_of_le h (Nat.pow_le_pow_right (by decide) hn)

def Kp (h : Addr) (H H' : Hp) : Prop := ∀ b o, b ≠ h → H b = some o → H' b = some o
theorem Kp.rfl' {h : Addr} {H : Hp} : Kp h H H := fun _ _ _ e => e
theorem Kp.trans {h : Addr} {H H1 H2 : Hp} (a : Kp h H H1) (b : Kp h H1 H2) : Kp h H H2 := fun c o n e => b c o n (a c o n e)
theorem But.kp {h : Addr} {H H' : Hp} (b : But h H H') : Kp h H H' := fun c o n e => by rw [b c n]; exact e
theorem kp_upd {h p : Addr} {H : Hp} {o : HO} (hp : H p = none) : Kp h H (upd H p o) := fun b u _ e => by rw [upd_ne (ne_of_none e hp)]; exact e

theorem wm {i j : Int} {m n : Nat} (h1 : i.natAbs < 2 ^ m) (h2 : j.natAbs < 2 ^ n) (h0 : 0 < m) (h3 : 0 < n) (h : m + n ≤ 1000000) : CMulW i j := wide_mul h1 h2 h0 h3 h
section
variable {P : Program} {w : World} {K : PySem.W.Frag} {mg : Str → Option Value} {base : Heap}
theorem ok_sum_of (T : Top K mg) : FnOk P w K mg base CX0 5 T.f_sum_of T.fd_sum_of ["one", "other"] (spTwo T.C_Ratio (· + ·)) := by
  refine T.F_sum_of.ok sc_sum_of (fun vs H Q E h => ?_) (fun cdv A outer s H vs Q E hr h => ?_)
  · obtain ⟨a, b, p, q, rfl, _⟩ := h; rfl
  · obtain ⟨a, b, p, q, rfl, ha, hb, bp, bq, k⟩ := h
    refine ⟨_, (pss_one (ps_ret (pe_make T.M_Ratio (ok_Ratio__init T) (hr.mono (by decide)) (by rfl) T.g_Ratio T.b_Ratio__init .nil OQ.passN (pa_cons (pe_op op_add (pe_op op_mulW (pe_fld (pv 0) rfl) (pe_fld (pv 1) rfl)) (pe_op op_mulW (pe_fld (pv 1) rfl) (pe_fld (pv 0) rfl))) (pa_cons (pe_op op_mulW (pe_fld (pv 0) rfl) (pe_fld (pv 1) rfl)) pa_nil))))), ?_⟩
    walk_at "rd"
    refine ratTop T ha ?_
    walk_at "rd"
    refine ratBottom T hb ?_
    walk_at "rd"
    refine RD.d_rI (wm bp.1 (den_bd bq) (by decide) (by decide) (by decide)) ?_
    walk_at "rd"
    refine ratTop T hb ?_
    walk_at "rd"
    refine ratBottom T ha ?_
    walk_at "rd"
    refine RD.d_rI (wm bq.1 (den_bd bp) (by decide) (by decide) (by decide)) ?_
    walk_at "rd"
    refine ratBottom T ha ?_
    walk_at "rd"
    refine ratBottom T hb ?_
    walk_at "rd"
    refine RD.d_rI (wm (den_bd bp) (den_bd bq) (by decide) (by decide) (by decide)) ?_
    walk_at "rd"
    refine mk_rat T spare (log_of (wide_lt (den_bd bp) (den_bd bq)) (by decide)) (fun x H6 s6 nx hx => ?_)
    rw [rat_add] at hx
    exact k x _ s6 hx
theorem ok_product_of (T : Top K mg) : FnOk P w K mg base CX0 5 T.f_product_of T.fd_product_of ["one", "other"] (spTwo T.C_Ratio (· * ·)) := by
  refine T.F_product_of.ok sc_product_of (fun vs H Q E h => ?_) (fun cdv A outer s H vs Q E hr h => ?_)
  · obtain ⟨a, b, p, q, rfl, _⟩ := h; rfl
  · obtain ⟨a, b, p, q, rfl, ha, hb, bp, bq, k⟩ := h
    refine ⟨_, (pss_one (ps_ret (pe_make T.M_Ratio (ok_Ratio__init T) (hr.mono (by decide)) (by rfl) T.g_Ratio T.b_Ratio__init .nil OQ.passN (pa_cons (pe_op op_mulW (pe_fld (pv 0) rfl) (pe_fld (pv 1) rfl)) (pa_cons (pe_op op_mulW (pe_fld (pv 0) rfl) (pe_fld (pv 1) rfl)) pa_nil))))), ?_⟩
    walk_at "rd"
    refine ratTop T ha ?_
    walk_at "rd"
    refine ratTop T hb ?_
    walk_at "rd"
    refine RD.d_rI (wm bp.1 bq.1 (by decide) (by decide) (by decide)) ?_
    walk_at "rd"
    refine ratBottom T ha ?_
    walk_at "rd"
    refine ratBottom T hb ?_
    walk_at "rd"
    refine RD.d_rI (wm (den_bd bp) (den_bd bq) (by decide) (by decide) (by decide)) ?_
    walk_at "rd"
    refine mk_rat T spare (log_of (wide_lt (den_bd bp) (den_bd bq)) (by decide)) (fun x H6 s6 nx hx => ?_)
    rw [rat_mul] at hx
    exact k x _ s6 hx
theorem ok_Ratio__neg (T : Top K mg) : FnOk P w K mg base CX0 5 T.f_Ratio__neg T.fd_Ratio__neg ["self"] (spNeg T.C_Ratio) := by
  refine T.F_Ratio__neg.ok sc_Ratio__neg (fun vs H Q E h => ?_) (fun cdv A outer s H vs Q E hr h => ?_)
  · obtain ⟨a, p, rfl, _⟩ := h; rfl
  · obtain ⟨a, p, rfl, ha, bp, k⟩ := h
    refine ⟨_, (pss_one (ps_ret (pe_make T.M_Ratio (ok_Ratio__init T) (hr.mono (by decide)) (by rfl) T.g_Ratio T.b_Ratio__init .nil OQ.passN (pa_cons (pe_un un_neg (pe_fld (pv 0) rfl)) (pa_cons (pe_fld (pv 0) rfl) pa_nil))))), ?_⟩
    walk_at "rd"
    refine ratTop T ha ?_
    walk_at "rd"
    refine ratBottom T ha ?_
    walk_at "rd"
    have hp := den_pos p
    refine mk_rat T (by omega) (log_of (den_bd bp) (by decide)) (fun x H6 s6 nx hx => ?_)
    rw [rat_neg] at hx
    exact k x _ s6 hx
/-- -x of a Ratio -/
theorem neg_r (T : Top K mg) {H : Hp} {Q : VK} {E : XK} {a : Addr} {p : Rat} (ha : RatAt T.C_Ratio H a p) (bp : Bd 8000 p) (k : ∀ c H', Same H H' → RatAt T.C_Ratio H' c (-p) → Q (.ref c) H') : OQ.rOwnU T.C_Ratio (spNeg T.C_Ratio) E (.ref a) H Q := by
  obtain ⟨dx, e⟩ := id ha
  exact ⟨a, dx, _, rfl, e, a, p, rfl, ha, bp, k⟩
theorem bd_neg {n : Nat} {p : Rat} (b : Bd n p) : Bd n (-p) := ⟨by show (-p.num).natAbs < _; rw [Int.natAbs_neg]; exact b.1, b.2⟩
theorem ok_Ratio__add (T : Top K mg) : FnOk P w K mg base CX0 7 T.f_Ratio__add T.fd_Ratio__add ["self", "other"] (spOp T.C_Ratio (fun p q => p + q)) := by
  refine T.F_Ratio__add.ok sc_Ratio__add (fun vs H Q E h => ?_) (fun cdv A outer s H vs Q E hr h => ?_)
  · obtain ⟨a, y, p, q, rfl, _⟩ := h; rfl
  · obtain ⟨a, y, p, q, rfl, ha, n, bp, bq, k⟩ := h
    refine ⟨_, (pss_cons (ps_if (pt_not (pt_val (pe_call (ok_is_number T) (hr.mono (by decide)) (by rfl) T.g_is_number T.F_is_number.kp T.b_is_number .nil pass0 (pa_cons (pv 1) pa_nil))))
 (pss_one ps_never)
 pss_nil)
 (pss_one (ps_ret (pe_call (ok_sum_of T) (hr.mono (by decide)) (by rfl) T.g_sum_of T.F_sum_of.kp T.b_sum_of .nil pass0 (pa_cons (pv 0) (pa_cons (pe_call (ok_as_ratio T) (hr.mono (by decide)) (by rfl) T.g_as_ratio T.F_as_ratio.kp T.b_as_ratio .nil OQ.passN (pa_cons (pv 1) pa_nil)) pa_nil)))))), ?_⟩
    walk_at "rd"
    refine ⟨y, q, rfl, n, ?_⟩
    walk_at "rd"
    refine ⟨y, rfl, .inl ⟨q, n, fun b H6 s6 hb => ?_⟩⟩
    walk_at "rd"
    refine ⟨a, b, p, q, rfl, ha.same s6, hb, bp, bq, fun z H8 s8 hz => ?_⟩
    walk_at "rd"
    exact k z _ (s6.trans s8) hz
theorem ok_Ratio__radd (T : Top K mg) : FnOk P w K mg base CX0 7 T.f_Ratio__radd T.fd_Ratio__radd ["self", "other"] (spOp T.C_Ratio (fun p q => q + p)) := by
  refine T.F_Ratio__radd.ok sc_Ratio__radd (fun vs H Q E h => ?_) (fun cdv A outer s H vs Q E hr h => ?_)
  · obtain ⟨a, y, p, q, rfl, _⟩ := h; rfl
  · obtain ⟨a, y, p, q, rfl, ha, n, bp, bq, k⟩ := h
    refine ⟨_, (pss_cons (ps_if (pt_not (pt_val (pe_call (ok_is_number T) (hr.mono (by decide)) (by rfl) T.g_is_number T.F_is_number.kp T.b_is_number .nil pass0 (pa_cons (pv 1) pa_nil))))
 (pss_one ps_never)
 pss_nil)
 (pss_one (ps_ret (pe_call (ok_sum_of T) (hr.mono (by decide)) (by rfl) T.g_sum_of T.F_sum_of.kp T.b_sum_of .nil pass0 (pa_cons (pe_call (ok_as_ratio T) (hr.mono (by decide)) (by rfl) T.g_as_ratio T.F_as_ratio.kp T.b_as_ratio .nil OQ.passN (pa_cons (pv 1) pa_nil)) (pa_cons (pv 0) pa_nil)))))), ?_⟩
    walk_at "rd"
    refine ⟨y, q, rfl, n, ?_⟩
    walk_at "rd"
    refine ⟨y, rfl, .inl ⟨q, n, fun b H6 s6 hb => ?_⟩⟩
    walk_at "rd"
    refine ⟨b, a, q, p, rfl, hb, ha.same s6, bq, bp, fun z H8 s8 hz => ?_⟩
    walk_at "rd"
    exact k z _ (s6.trans s8) hz
theorem ok_Ratio__sub (T : Top K mg) : FnOk P w K mg base CX0 7 T.f_Ratio__sub T.fd_Ratio__sub ["self", "other"] (spOp T.C_Ratio (fun p q => p - q)) := by
  refine T.F_Ratio__sub.ok sc_Ratio__sub (fun vs H Q E h => ?_) (fun cdv A outer s H vs Q E hr h => ?_)
  · obtain ⟨a, y, p, q, rfl, _⟩ := h; rfl
  · obtain ⟨a, y, p, q, rfl, ha, n, bp, bq, k⟩ := h
    refine ⟨_, (pss_cons (ps_if (pt_not (pt_val (pe_call (ok_is_number T) (hr.mono (by decide)) (by rfl) T.g_is_number T.F_is_number.kp T.b_is_number .nil pass0 (pa_cons (pv 1) pa_nil))))
 (pss_one ps_never)
 pss_nil)
 (pss_one (ps_ret (pe_call (ok_sum_of T) (hr.mono (by decide)) (by rfl) T.g_sum_of T.F_sum_of.kp T.b_sum_of .nil pass0 (pa_cons (pv 0) (pa_cons (pe_un (OQ.un_ownNeg (ok_Ratio__neg T) (hr.mono (by decide)) T.m_Ratio__neg.at_ T.m_Ratio__neg.fn T.b_Ratio__neg pass0) (pe_call (ok_as_ratio T) (hr.mono (by decide)) (by rfl) T.g_as_ratio T.F_as_ratio.kp T.b_as_ratio .nil OQ.passN (pa_cons (pv 1) pa_nil))) pa_nil)))))), ?_⟩
    walk_at "rd"
    refine ⟨y, q, rfl, n, ?_⟩
    walk_at "rd"
    refine ⟨y, rfl, .inl ⟨q, n, fun b H6 s6 hb => ?_⟩⟩
    walk_at "rd"
    refine neg_r T hb (bq.mono (by decide)) (fun c H7 s7 hc => ?_)
    walk_at "rd"
    refine ⟨a, c, p, -q, rfl, (ha.same s6).same s7, hc, bp, bd_neg bq, fun z H8 s8 hz => ?_⟩
    walk_at "rd"
    exact k z _ ((s6.trans s7).trans s8) (by have hz' : RatAt T.C_Ratio H8 z (p + -q) := hz; rw [← Rat.sub_eq_add_neg] at hz'; exact hz')
theorem ok_Ratio__rsub (T : Top K mg) : FnOk P w K mg base CX0 7 T.f_Ratio__rsub T.fd_Ratio__rsub ["self", "other"] (spOp T.C_Ratio (fun p q => q - p)) := by
  refine T.F_Ratio__rsub.ok sc_Ratio__rsub (fun vs H Q E h => ?_) (fun cdv A outer s H vs Q E hr h => ?_)
  · obtain ⟨a, y, p, q, rfl, _⟩ := h; rfl
  · obtain ⟨a, y, p, q, rfl, ha, n, bp, bq, k⟩ := h
    refine ⟨_, (pss_cons (ps_if (pt_not (pt_val (pe_call (ok_is_number T) (hr.mono (by decide)) (by rfl) T.g_is_number T.F_is_number.kp T.b_is_number .nil pass0 (pa_cons (pv 1) pa_nil))))
 (pss_one ps_never)
 pss_nil)
 (pss_one (ps_ret (pe_call (ok_sum_of T) (hr.mono (by decide)) (by rfl) T.g_sum_of T.F_sum_of.kp T.b_sum_of .nil pass0 (pa_cons (pe_call (ok_as_ratio T) (hr.mono (by decide)) (by rfl) T.g_as_ratio T.F_as_ratio.kp T.b_as_ratio .nil OQ.passN (pa_cons (pv 1) pa_nil)) (pa_cons (pe_un (OQ.un_ownNeg (ok_Ratio__neg T) (hr.mono (by decide)) T.m_Ratio__neg.at_ T.m_Ratio__neg.fn T.b_Ratio__neg pass0) (pv 0)) pa_nil)))))), ?_⟩
    walk_at "rd"
    refine ⟨y, q, rfl, n, ?_⟩
    walk_at "rd"
    refine ⟨y, rfl, .inl ⟨q, n, fun b H6 s6 hb => ?_⟩⟩
    walk_at "rd"
    refine neg_r T (ha.same s6) (bp.mono (by decide)) (fun c H7 s7 hc => ?_)
    walk_at "rd"
    refine ⟨b, c, q, -p, rfl, hb.same s7, hc, bq, bd_neg bp, fun z H8 s8 hz => ?_⟩
    walk_at "rd"
    exact k z _ ((s6.trans s7).trans s8) (by have hz' : RatAt T.C_Ratio H8 z (q + -p) := hz; rw [← Rat.sub_eq_add_neg] at hz'; exact hz')
theorem ok_Ratio__mul (T : Top K mg) : FnOk P w K mg base CX0 7 T.f_Ratio__mul T.fd_Ratio__mul ["self", "other"] (spOp T.C_Ratio (fun p q => p * q)) := by
  refine T.F_Ratio__mul.ok sc_Ratio__mul (fun vs H Q E h => ?_) (fun cdv A outer s H vs Q E hr h => ?_)
  · obtain ⟨a, y, p, q, rfl, _⟩ := h; rfl
  · obtain ⟨a, y, p, q, rfl, ha, n, bp, bq, k⟩ := h
    refine ⟨_, (pss_cons (ps_if (pt_not (pt_val (pe_call (ok_is_number T) (hr.mono (by decide)) (by rfl) T.g_is_number T.F_is_number.kp T.b_is_number .nil pass0 (pa_cons (pv 1) pa_nil))))
 (pss_one ps_never)
 pss_nil)
 (pss_one (ps_ret (pe_call (ok_product_of T) (hr.mono (by decide)) (by rfl) T.g_product_of T.F_product_of.kp T.b_product_of .nil pass0 (pa_cons (pv 0) (pa_cons (pe_call (ok_as_ratio T) (hr.mono (by decide)) (by rfl) T.g_as_ratio T.F_as_ratio.kp T.b_as_ratio .nil OQ.passN (pa_cons (pv 1) pa_nil)) pa_nil)))))), ?_⟩
    walk_at "rd"
    refine ⟨y, q, rfl, n, ?_⟩
    walk_at "rd"
    refine ⟨y, rfl, .inl ⟨q, n, fun b H6 s6 hb => ?_⟩⟩
    walk_at "rd"
    refine ⟨a, b, p, q, rfl, ha.same s6, hb, bp, bq, fun z H8 s8 hz => ?_⟩
    walk_at "rd"
    exact k z _ (s6.trans s8) hz
theorem ok_Ratio__rmul (T : Top K mg) : FnOk P w K mg base CX0 7 T.f_Ratio__rmul T.fd_Ratio__rmul ["self", "other"] (spOp T.C_Ratio (fun p q => q * p)) := by
  refine T.F_Ratio__rmul.ok sc_Ratio__rmul (fun vs H Q E h => ?_) (fun cdv A outer s H vs Q E hr h => ?_)
  · obtain ⟨a, y, p, q, rfl, _⟩ := h; rfl
  · obtain ⟨a, y, p, q, rfl, ha, n, bp, bq, k⟩ := h
    refine ⟨_, (pss_cons (ps_if (pt_not (pt_val (pe_call (ok_is_number T) (hr.mono (by decide)) (by rfl) T.g_is_number T.F_is_number.kp T.b_is_number .nil pass0 (pa_cons (pv 1) pa_nil))))
 (pss_one ps_never)
 pss_nil)
 (pss_one (ps_ret (pe_call (ok_product_of T) (hr.mono (by decide)) (by rfl) T.g_product_of T.F_product_of.kp T.b_product_of .nil pass0 (pa_cons (pe_call (ok_as_ratio T) (hr.mono (by decide)) (by rfl) T.g_as_ratio T.F_as_ratio.kp T.b_as_ratio .nil OQ.passN (pa_cons (pv 1) pa_nil)) (pa_cons (pv 0) pa_nil)))))), ?_⟩
    walk_at "rd"
    refine ⟨y, q, rfl, n, ?_⟩
    walk_at "rd"
    refine ⟨y, rfl, .inl ⟨q, n, fun b H6 s6 hb => ?_⟩⟩
    walk_at "rd"
    refine ⟨b, a, q, p, rfl, hb, ha.same s6, bq, bp, fun z H8 s8 hz => ?_⟩
    walk_at "rd"
    exact k z _ (s6.trans s8) hz
end

def spOver (K : PySem.W.Frag) (C BN : Addr) : Sp := fun vs H Q E => ∃ (a : Addr) (y : V) (p : Rat), vs = [.ref a, y] ∧ RatAt C H a p ∧ Bd 2000 p ∧
  ((∃ q, Num C H y q ∧ Bd 2000 q ∧ q ≠ 0 ∧ ∀ c H', Same H H' → RatAt C H' c (p / q) → Q (.ref c) H') ∨
   ((Num C H y 0 ∨ NoNum K C H y) ∧ ∀ d H', Same H H' → H d = none → H' d = some (ErrD y) → E (.ref BN) (some d) H'))
def spLess (K : PySem.W.Frag) (C BN : Addr) : Sp := fun vs H Q E => ∃ (a : Addr) (y : V) (p : Rat), vs = [.ref a, y] ∧ RatAt C H a p ∧ Bd 2000 p ∧
  ((∃ q, Num C H y q ∧ Bd 2000 q ∧ ∀ H', Same H H' → Q (.bl (decide (p < q))) H') ∨
   (NoNum K C H y ∧ ∀ d H', Same H H' → H d = none → H' d = some (ErrD y) → E (.ref BN) (some d) H'))
theorem rat_div (p q : Rat) : Rat.divInt (p.num * q.den) (p.den * q.num) = p / q := by
  rw [Rat.div_def, Rat.inv_def]
  conv => rhs; rw [← Rat.num_divInt_den p]
  rw [Rat.divInt_mul_divInt]
theorem num_ne {q : Rat} (h : q ≠ 0) : q.num ≠ 0 := fun z => h (Rat.ext z (by
  have r := q.reduced
  rw [z] at r
  have e : q.den = 1 := by simpa [Nat.Coprime] using r
  exact e))
section
variable {P : Program} {w : World} {K : PySem.W.Frag} {mg : Str → Option Value} {base : Heap}
theorem ok_Ratio_over (T : Top K mg) : FnOk P w K mg base (L2.CX P w) 7 T.f_Ratio_over T.fd_Ratio_over ["self", "other"] (spOver K T.C_Ratio T.C_BN) := by
  refine T.F_Ratio_over.okX sc_Ratio_over (fun vs H Q E h => ?_) (fun cdv A outer s H vs Q E hr h => ?_)
  · obtain ⟨a, y, p, rfl, _⟩ := h; rfl
  · obtain ⟨a, y, p, rfl, ha, bp, h⟩ := h
    refine ⟨_, (pss_cons (ps_set (i := 2) sc_Ratio_over.nd rfl (Or.inl rfl) (pe_call (ok_as_ratio T) (hr.mono (by decide)) (by rfl) T.g_as_ratio T.F_as_ratio.kp T.b_as_ratio .nil (passes_call (takes_of rfl rfl rfl rfl) (fun _ _ _ _ h => h)) (pa_cons (pv 1) pa_nil)))
 (pss_cons (ps_if (pt_cmpR op_eq (pe_fld (pv 2) rfl) pe_int (nomark _))
 (pss_one (ps_raise rfl (takes_of rfl rfl rfl rfl) (pmk_oex T.oex_BadNumber T.i_BadNumber T.tI (ok_WayError__init T) (hr.mono (by decide)) T.b_WayError__init .nil pass0 (by rfl) T.g_BadNumber (pa_cons (pv 1) pa_nil))))
 pss_nil)
 (pss_one (ps_ret (pe_make T.M_Ratio (ok_Ratio__init T) (hr.mono (by decide)) (by rfl) T.g_Ratio T.b_Ratio__init .nil (passes_call (takes_of rfl rfl rfl rfl) (fun _ _ _ _ h => h)) (pa_cons (pe_op op_mulW (pe_fld (pv 0) rfl) (pe_fld (pv 2) rfl)) (pa_cons (pe_op op_mulW (pe_fld (pv 0) rfl) (pe_fld (pv 2) rfl)) pa_nil))))))), ?_⟩
    walk_at "rd"
    rcases h with ⟨q, n, bq, nz, k⟩ | ⟨n | n, k⟩
    · refine ⟨y, rfl, .inl ⟨q, n, fun b H6 s6 hb => ?_⟩⟩
      walk_at "rd"
      refine ratTop T hb ?_
      walk_at "rd"
      refine RD.d_iteDF (num_ne nz) ?_
      walk_at "rd"
      refine ratTop T (ha.same s6) ?_
      walk_at "rd"
      refine ratBottom T hb ?_
      walk_at "rd"
      refine RD.d_rI (wm bp.1 (den_bd bq) (by decide) (by decide) (by decide)) ?_
      walk_at "rd"
      refine ratBottom T (ha.same s6) ?_
      walk_at "rd"
      refine ratTop T hb ?_
      walk_at "rd"
      refine RD.d_rI (wm (den_bd bp) bq.1 (by decide) (by decide) (by decide)) ?_
      walk_at "rd"
      have hp := den_pos p
      refine mk_rat T (Int.mul_ne_zero (by omega) (num_ne nz)) (log_of (wide_lt (den_bd bp) bq.1) (by decide)) (fun x H7 s7 nx hx => ?_)
      rw [rat_div] at hx
      exact k x _ (s6.trans s7) hx
    · refine ⟨y, rfl, .inl ⟨0, n, fun b H6 s6 hb => ?_⟩⟩
      walk_at "rd"
      refine ratTop T hb ?_
      walk_at "rd"
      exact d_mkO T.oex_BadNumber T.v_BadNumber (fun d hd => k d _ (s6.trans (same_upd hd)) (s6.free hd) upd_same)
    · exact ⟨y, rfl, .inr ⟨n, fun d H' s6 hd e => k d H' s6 hd e⟩⟩
theorem ok_Ratio_less (T : Top K mg) : FnOk P w K mg base (L2.CX P w) 7 T.f_Ratio_less T.fd_Ratio_less ["self", "other"] (spLess K T.C_Ratio T.C_BN) := by
  refine T.F_Ratio_less.okX sc_Ratio_less (fun vs H Q E h => ?_) (fun cdv A outer s H vs Q E hr h => ?_)
  · obtain ⟨a, y, p, rfl, _⟩ := h; rfl
  · obtain ⟨a, y, p, rfl, ha, bp, h⟩ := h
    refine ⟨_, (pss_cons (ps_set (i := 2) sc_Ratio_less.nd rfl (Or.inl rfl) (pe_call (ok_as_ratio T) (hr.mono (by decide)) (by rfl) T.g_as_ratio T.F_as_ratio.kp T.b_as_ratio .nil (passes_call (takes_of rfl rfl rfl rfl) (fun _ _ _ _ h => h)) (pa_cons (pv 1) pa_nil)))
 (pss_one (ps_ret (pe_cmpR op_lt (pe_op op_mulW (pe_fld (pv 0) rfl) (pe_fld (pv 2) rfl)) (pe_op op_mulW (pe_fld (pv 2) rfl) (pe_fld (pv 0) rfl)) (nomark _))))), ?_⟩
    walk_at "rd"
    rcases h with ⟨q, n, bq, k⟩ | ⟨n, k⟩
    · refine ⟨y, rfl, .inl ⟨q, n, fun b H6 s6 hb => ?_⟩⟩
      walk_at "rd"
      refine ratTop T (ha.same s6) ?_
      walk_at "rd"
      refine ratBottom T hb ?_
      walk_at "rd"
      refine RD.d_rI (wm bp.1 (den_bd bq) (by decide) (by decide) (by decide)) ?_
      walk_at "rd"
      refine ratTop T hb ?_
      walk_at "rd"
      refine ratBottom T (ha.same s6) ?_
      walk_at "rd"
      refine RD.d_rI (wm bq.1 (den_bd bp) (by decide) (by decide) (by decide)) ?_
      walk_at "rd"
      have e : decide (p.num * (q.den : Int) < q.num * (p.den : Int)) = decide (p < q) := by rw [decide_eq_decide]; exact (Rat.lt_iff p q).symm
      rw [e]
      exact k _ s6
    · exact ⟨y, rfl, .inr ⟨n, fun d H' s6 hd e => k d H' s6 hd e⟩⟩
end

/-! ### a row of Ratios put together by turns -/
theorem bd_sz {n : Nat} {q : Rat} (h : MX.sz q < 2 ^ n) : Bd n q := by
  unfold MX.sz at h
  exact ⟨by omega, by omega⟩
def refs (bs : List (Addr × Rat)) : List V := bs.map fun x => V.ref x.1
def rats (bs : List (Addr × Rat)) : List Rat := bs.map fun x => x.2
theorem refs_erase (bs : List (Addr × Rat)) (k : Nat) : (refs bs).eraseIdx k = refs (bs.eraseIdx k) := by
  unfold refs
  induction bs generalizing k with
  | nil => simp
  | cons a r ih =>
    cases k with
    | zero => simp
    | succ k => simp [ih]
theorem rats_erase (bs : List (Addr × Rat)) (k : Nat) : rats (bs.eraseIdx k) = (rats bs).eraseIdx k := by
  unfold rats
  induction bs generalizing k with
  | nil => simp
  | cons a r ih =>
    cases k with
    | zero => simp
    | succ k => simp [ih]
theorem refs_ins (bs : List (Addr × Rat)) (i : Nat) (a : Addr) (q : Rat) : (refs bs).take i ++ [V.ref a] ++ (refs bs).drop i = refs (bs.take i ++ [(a, q)] ++ bs.drop i) := by
  unfold refs
  simp [List.map_take, List.map_drop]
theorem rats_ins (bs : List (Addr × Rat)) (i : Nat) (a : Addr) (q : Rat) : rats (bs.take i ++ [(a, q)] ++ bs.drop i) = (rats bs).take i ++ [q] ++ (rats bs).drop i := by
  unfold rats
  simp [List.map_take, List.map_drop]
theorem six {i : Int} {n : Nat} (h0 : 0 ≤ i) (h1 : i < n) : seqIndex? i n = some i.toNat := by
  unfold seqIndex?
  have e : (if i < 0 then i + (n : Int) else i) = i := if_neg (by omega)
  simp only [e]
  rw [if_pos (by simp; omega)]
/-- the hand at h, its numbers at c; the list at L, of Ratios -/
structure Rst (C h c L : Addr) (H : Hp) (bs : List (Addr × Rat)) : Prop where
  hd : HandAt H h c
  nh : L ≠ h
  nc : L ≠ c
  at_ : H L = some (.lst (refs bs))
  all : ∀ x ∈ bs, RatAt C H x.1 x.2
theorem ratKp {C h c : Addr} {H H' : Hp} {a : Addr} {q : Rat} (r : RatAt C H a q) (hd : HandAt H h c) (k : Kp h H H') : RatAt C H' a q := by
  obtain ⟨dx, e⟩ := r
  obtain ⟨cs, p, q', m, n, e1, _⟩ := hd
  exact ⟨dx, k _ _ (fun z => by rw [z, e1] at e; cases e) e⟩
theorem Rst.draw {C h c L : Addr} {H H' : Hp} {bs : List (Addr × Rat)} (f : Rst C h c L H bs) (hd : HandAt H' h c) (b : But h H H') : Rst C h c L H' bs :=
  ⟨hd, f.nh, f.nc, by rw [b L f.nh]; exact f.at_, fun x hx => ratKp (f.all x hx) f.hd b.kp⟩
theorem Rst.same {C h c L : Addr} {H H' : Hp} {bs : List (Addr × Rat)} (f : Rst C h c L H bs) (s : Same H H') : Rst C h c L H' bs :=
  ⟨f.hd.same s, f.nh, f.nc, s _ _ f.at_, fun x hx => (f.all x hx).same s⟩
theorem ratUpd {C L : Addr} {H : Hp} {xs ys : List V} {a : Addr} {q : Rat} (r : RatAt C H a q) (e1 : H L = some (.lst xs)) : RatAt C (upd H L (.lst ys)) a q := by
  obtain ⟨dx, e⟩ := r
  exact ⟨dx, by rw [upd_ne (fun z => by rw [z, e1] at e; cases e)]; exact e⟩
theorem Rst.put {C h c L : Addr} {H : Hp} {bs : List (Addr × Rat)} (f : Rst C h c L H bs) {cs : List (Addr × Rat)} (sub : ∀ x ∈ cs, RatAt C H x.1 x.2) : Rst C h c L (upd H L (.lst (refs cs))) cs := by
  obtain ⟨⟨ks, p, q, m, n, e1, e2, ne, hp⟩, nh, nc, at_, all⟩ := f
  exact ⟨⟨ks, p, q, m, n, by rw [upd_ne (Ne.symm nh)]; exact e1, by rw [upd_ne (Ne.symm nc)]; exact e2, ne, hp⟩, nh, nc, upd_same, fun x hx => ratUpd (sub x hx) at_⟩
theorem kp_put {h L : Addr} {H0 H : Hp} {o : HO} (k : Kp h H0 H) (hL : H0 L = none) : Kp h H0 (upd H L o) := fun b u n e => by
  rw [upd_ne (ne_of_none e hL)]; exact k b u n e
theorem mem_erase {bs : List (Addr × Rat)} {k : Nat} {x : Addr × Rat} (h : x ∈ bs.eraseIdx k) : x ∈ bs := List.mem_of_mem_eraseIdx h
theorem len_er {bs : List (Addr × Rat)} {k : Nat} (h : k < bs.length) : (bs.eraseIdx k).length + 1 = bs.length := by
  rw [List.length_eraseIdx, if_pos h]; omega
theorem rats_get {bs : List (Addr × Rat)} {k : Nat} {x : Addr × Rat} (h : bs[k]? = some x) : (rats bs)[k]? = some x.2 := by unfold rats; simp [h]
theorem refs_get {bs : List (Addr × Rat)} {k : Nat} {x : Addr × Rat} (h : bs[k]? = some x) : (refs bs)[k]? = some (V.ref x.1) := by unfold refs; simp [h]
theorem refs_len (bs : List (Addr × Rat)) : (refs bs).length = bs.length := by unfold refs; simp
theorem rats_len (bs : List (Addr × Rat)) : (rats bs).length = bs.length := by unfold rats; simp
theorem log_small {n : Int} (h0 : 0 ≤ n) (h : n ≤ 20) : n.natAbs.log2 < 9000 := Nat.lt_of_le_of_lt (log2_mono (show n.natAbs ≤ 20 by omega)) (by decide)
theorem tyL {K : PySem.W.Frag} {H : Hp} {p : Addr} {xs : List V} (e : H p = some (.lst xs)) : tyV K "list" (.ref p) H := .inl ⟨rfl, _, SqL.of e⟩
def spTurns (C : Addr) : Sp := fun vs H Q _ => ∃ (h c p : Addr) (as : List (Addr × Rat)) (b : Bool), vs = [.ref h, .ref p, .bl b] ∧ HandAt H h c ∧ H p = some (.lst (refs as)) ∧ (∀ x ∈ as, RatAt C H x.1 x.2) ∧ 0 < as.length ∧ as.length ≤ 12 ∧ MX.szs (rats as) < 2 ^ 1000 ∧
  ∀ z H', HandAt H' h c → Kp h H H' → RatAt C H' z (MX.cmb b (rats as)) → MX.sz (MX.cmb b (rats as)) ≤ MX.szs (rats as) → Q (.ref z) H'
section
variable {P : Program} {w : World} {K : PySem.W.Frag} {mg : Str → Option Value} {base : Heap}
theorem own_op {C : Addr} {g : Rat → Rat → Rat} {E : XK} {H : Hp} {Q : VK} {a b : Addr} {p q : Rat} (ha : RatAt C H a p) (hb : RatAt C H b q) (bp : Bd 2000 p) (bq : Bd 2000 q) (k : ∀ z H', Same H H' → RatAt C H' z (g p q) → Q (.ref z) H') :
    OQ.rOwnB C (spOp C g) E (.ref a) (.ref b) H Q := by
  obtain ⟨dx, ea⟩ := id ha
  obtain ⟨dy, eb⟩ := id hb
  exact ⟨a, dx, _, rfl, ea, .inl ⟨b, dy, _, rfl, eb⟩, a, .ref b, p, q, rfl, ha, .inl ⟨b, rfl, hb⟩, bp, bq, k⟩
theorem ok_law_by_turns (T : Top K mg) : FnOk P w K mg base CX0 9 T.f_law_by_turns T.fd_law_by_turns ["hand", "row", "sums"] (spTurns T.C_Ratio) := by
  refine T.F_law_by_turns.ok sc_law_by_turns (fun vs H Q E h => ?_) (fun cdv A outer s H vs Q E hr h => ?_)
  · obtain ⟨h, c, p, as, b, rfl, _⟩ := h; rfl
  · obtain ⟨h, c, p, as, b, rfl, hd, hp, all, l0, l1, small, k⟩ := h
    refine ⟨_, (pss_cons (ps_set (i := 3) sc_law_by_turns.nd rfl (Or.inl rfl) (pe_callTy call_list_of (by rfl) T.n_list (by decide +kernel) (pa_cons (pv 1) pa_nil)))
 (pss_cons (ps_for PassesOwn.never rfl (pi_range1 (by rfl) T.n_range (pa_cons (pe_op op_sub (pe_callB RD.c_len (by rfl) T.n_len (by decide +kernel) (pa_cons (pv 1) pa_nil)) pe_int) pa_nil)) (pg_name (i := 4) sc_law_by_turns.nd rfl (Or.inl rfl))
 (pss_cons (ps_set (i := 5) sc_law_by_turns.nd rfl (Or.inl rfl) (pe_bm PySem.F.plainAttrs_list PySem.F.slot_list_pop PySem.F.type_list_pop mt_popAt (pv 3) (pa_cons (pe_call (ok_law_draw T) (hr.mono (by decide)) (by rfl) T.g_law_draw T.F_law_draw.kp T.b_law_draw .nil pass0 (pa_cons (pv 0) (pa_cons (pe_callB RD.c_len (by rfl) T.n_len (by decide +kernel) (pa_cons (pv 3) pa_nil)) pa_nil))) pa_nil)))
 (pss_cons (ps_set (i := 6) sc_law_by_turns.nd rfl (Or.inl rfl) (pe_bm PySem.F.plainAttrs_list PySem.F.slot_list_pop PySem.F.type_list_pop mt_popAt (pv 3) (pa_cons (pe_call (ok_law_draw T) (hr.mono (by decide)) (by rfl) T.g_law_draw T.F_law_draw.kp T.b_law_draw .nil pass0 (pa_cons (pv 0) (pa_cons (pe_callB RD.c_len (by rfl) T.n_len (by decide +kernel) (pa_cons (pv 3) pa_nil)) pa_nil))) pa_nil)))
 (pss_one (ps_if (pt_val (pv 2))
 (pss_one (ps_expr (pe_bm PySem.F.plainAttrs_list PySem.F.slot_list_insert PySem.F.type_list_insert mt_insert (pv 3) (pa_cons (pe_call (ok_law_draw T) (hr.mono (by decide)) (by rfl) T.g_law_draw T.F_law_draw.kp T.b_law_draw .nil pass0 (pa_cons (pv 0) (pa_cons (pe_op op_add (pe_callB RD.c_len (by rfl) T.n_len (by decide +kernel) (pa_cons (pv 3) pa_nil)) pe_int) pa_nil))) (pa_cons (pe_op (OQ.op_ownB (ok_Ratio__add T) (hr.mono (by decide)) T.sfR (T.at_add) T.m_Ratio__add.fn T.at_radd T.ia_add T.ib_add T.subIR T.b_Ratio__add pass0) (pv 5) (pv 6)) pa_nil)))))
 (pss_one (ps_expr (pe_bm PySem.F.plainAttrs_list PySem.F.slot_list_insert PySem.F.type_list_insert mt_insert (pv 3) (pa_cons (pe_call (ok_law_draw T) (hr.mono (by decide)) (by rfl) T.g_law_draw T.F_law_draw.kp T.b_law_draw .nil pass0 (pa_cons (pv 0) (pa_cons (pe_op op_add (pe_callB RD.c_len (by rfl) T.n_len (by decide +kernel) (pa_cons (pv 3) pa_nil)) pe_int) pa_nil))) (pa_cons (pe_op (OQ.op_ownB (ok_Ratio__mul T) (hr.mono (by decide)) T.sfR (T.at_mul) T.m_Ratio__mul.fn T.at_rmul T.ia_mul T.ib_mul T.subIR T.b_Ratio__mul pass0) (pv 5) (pv 6)) pa_nil))))))))))
 (pss_one (ps_ret (pe_ix ix_list (pv 3) pe_int (fun _ _ => rfl)))))), ?_⟩
    walk_at "rd"
    refine ⟨p, refs as, rfl, .inl (SqL.of hp), fun L hL => ?_⟩
    have sL : Same H (upd H L (.lst (refs as))) := same_upd hL
    have pL := sL _ _ hp
    have nh : L ≠ h := by
      obtain ⟨cs, p', q', m', n', e1', _⟩ := hd
      exact (ne_of_none e1' hL).symm
    have nc : L ≠ c := by
      obtain ⟨cs, p', q', m', n', _, e2', _⟩ := hd
      exact (ne_of_none e2' hL).symm
    walk_at "rd"
    have hlen := refs_len as
    refine ⟨_, rfl, by omega, by omega, ?_⟩
    refine RD.f_range (lo := 0) (n := _) (fun t σ' H' => ∃ (v4 v5 v6 : Option V) (bs : List (Addr × Rat)), σ' = [some (.ref h), some (.ref p), some (.bl b), some (.ref L), v4, v5, v6] ∧ Rst T.C_Ratio h c L H' bs ∧ bs.length + t = as.length ∧ MX.cmb b (rats bs) = MX.cmb b (rats as) ∧ MX.szs (rats bs) ≤ MX.szs (rats as) ∧ Kp h H H') ⟨none, none, none, as, rfl, ⟨hd.same sL, nh, nc, upd_same, fun x hx => (all x hx).same sL⟩, by omega, rfl, Nat.le_refl _, fun b u _ e => sL b u e⟩ ?_ ?_
    · rintro t σ' H1 ht ⟨v4, v5, v6, bs, rfl, st, hl, hc, hz, kp⟩
      have hb2 : 2 ≤ bs.length := by omega
      have e1 := st.at_
      have r1 := refs_len bs
      walk_at "rd"
      refine ⟨tyL e1, ?_⟩
      walk_at "rd"
      refine ⟨h, c, _, rfl, st.hd, by omega, log_small (by omega) (by omega), fun i1 H2 i1a i1b hd2 b2 => ?_⟩
      have st2 := st.draw hd2 b2
      have kp2 := kp.trans b2.kp
      obtain ⟨⟨a1, q1⟩, g1⟩ : ∃ x, bs[i1.toNat]? = some x := ⟨_, List.getElem?_eq_getElem (by omega)⟩
      have ra1 := st2.all _ (List.mem_of_getElem? g1)
      have m1 := MX.fr_erase (MX.opR_lc b) (e := MX.unR b) (rats bs) i1.toNat q1 (rats_get g1)
      have z1 := MX.fr_erase MX.szs_lc (e := 1) (rats bs) i1.toNat q1 (rats_get g1)
      have l1' := len_er (bs := bs) (k := i1.toNat) (by omega)
      walk_at "rd"
      refine ⟨L, refs bs, i1, i1.toNat, .ref a1, rfl, rfl, st2.at_, by omega, by omega, six i1a (by omega), refs_get g1, ?_⟩
      rw [refs_erase]
      have st3 := st2.put (cs := bs.eraseIdx i1.toNat) (fun x hx => st2.all x (mem_erase hx))
      have kp3 : Kp h H (upd H2 L (.lst (refs (bs.eraseIdx i1.toNat)))) := kp_put kp2 hL
      have ra3 : RatAt T.C_Ratio (upd H2 L (.lst (refs (bs.eraseIdx i1.toNat)))) a1 q1 := ratUpd ra1 st2.at_
      rw [← rats_erase] at m1 z1
      generalize bs.eraseIdx i1.toNat = bs1 at *
      generalize upd H2 L (.lst (refs bs1)) = H3 at *
      have e3 := st3.at_
      have r3 := refs_len bs1
      walk_at "rd"
      refine ⟨tyL e3, ?_⟩
      walk_at "rd"
      refine ⟨h, c, _, rfl, st3.hd, by omega, log_small (by omega) (by omega), fun i2 H4 i2a i2b hd4 b4 => ?_⟩
      have st4 := st3.draw hd4 b4
      have kp4 := kp3.trans b4.kp
      have ra4 := ratKp ra3 st3.hd b4.kp
      obtain ⟨⟨a2, q2⟩, g2⟩ : ∃ x, bs1[i2.toNat]? = some x := ⟨_, List.getElem?_eq_getElem (by omega)⟩
      have rb4 := st4.all _ (List.mem_of_getElem? g2)
      have m2 := MX.fr_erase (MX.opR_lc b) (e := MX.unR b) (rats bs1) i2.toNat q2 (rats_get g2)
      have z2 := MX.fr_erase MX.szs_lc (e := 1) (rats bs1) i2.toNat q2 (rats_get g2)
      have l2' := len_er (bs := bs1) (k := i2.toNat) (by omega)
      walk_at "rd"
      refine ⟨L, refs bs1, i2, i2.toNat, .ref a2, rfl, rfl, st4.at_, by omega, by omega, six i2a (by omega), refs_get g2, ?_⟩
      rw [refs_erase]
      have st5 := st4.put (cs := bs1.eraseIdx i2.toNat) (fun x hx => st4.all x (mem_erase hx))
      have kp5 : Kp h H (upd H4 L (.lst (refs (bs1.eraseIdx i2.toNat)))) := kp_put kp4 hL
      have ra5 : RatAt T.C_Ratio (upd H4 L (.lst (refs (bs1.eraseIdx i2.toNat)))) a1 q1 := ratUpd ra4 st4.at_
      have rb5 : RatAt T.C_Ratio (upd H4 L (.lst (refs (bs1.eraseIdx i2.toNat)))) a2 q2 := ratUpd rb4 st4.at_
      rw [← rats_erase] at m2 z2
      generalize bs1.eraseIdx i2.toNat = bs2 at *
      generalize upd H4 L (.lst (refs bs2)) = H5 at *
      have e5 := st5.at_
      have r5 := refs_len bs2
      have em : MX.cmb b (rats as) = MX.opR b (MX.opR b q1 q2) (MX.cmb b (rats bs2)) := by
        rw [← hc]
        show (rats bs).foldr (MX.opR b) (MX.unR b) = _
        rw [m1, m2, MX.opR_as]; rfl
      have ez : MX.szs (rats bs) = MX.sz q1 * (MX.sz q2 * MX.szs (rats bs2)) := by
        show (rats bs).foldr (fun q n => MX.sz q * n) 1 = _
        rw [z1, z2]; rfl
      have p1 := MX.sz_pos q1
      have p2 := MX.sz_pos q2
      have p3 := MX.szs_pos (rats bs2)
      have bz : MX.szs (rats bs) < 2 ^ 1000 := Nat.lt_of_le_of_lt hz small
      have bq1 : Bd 2000 q1 := (bd_sz (n := 1000) (Nat.lt_of_le_of_lt (by rw [ez]; exact Nat.le_mul_of_pos_right _ (Nat.mul_pos p2 p3)) bz)).mono (by decide)
      have bq2 : Bd 2000 q2 := (bd_sz (n := 1000) (Nat.lt_of_le_of_lt (by rw [ez, Nat.mul_left_comm]; exact Nat.le_mul_of_pos_right _ (Nat.mul_pos p1 p3)) bz)).mono (by decide)
      have zo : MX.sz (MX.opR b q1 q2) * MX.szs (rats bs2) ≤ MX.szs (rats as) := by
        refine Nat.le_trans (Nat.mul_le_mul_right _ (MX.sz_op b q1 q2)) (Nat.le_trans (Nat.le_of_eq ?_) hz)
        rw [ez, Nat.mul_assoc]
      -- the list with what was put together in it
      have tail : ∀ {H7 : Hp} {i3 : Int} {z : Addr}, Rst T.C_Ratio h c L H7 bs2 → 0 ≤ i3 → i3 < (bs2.length : Int) + 1 → RatAt T.C_Ratio H7 z (MX.opR b q1 q2) → Kp h H H7 →
          ∃ cs, upd H7 L (.lst ((refs bs2).take i3.toNat ++ [V.ref z] ++ (refs bs2).drop i3.toNat)) = upd H7 L (.lst (refs cs)) ∧ Rst T.C_Ratio h c L (upd H7 L (.lst (refs cs))) cs ∧ cs.length + (t + 1) = as.length ∧ MX.cmb b (rats cs) = MX.cmb b (rats as) ∧ MX.szs (rats cs) ≤ MX.szs (rats as) ∧ Kp h H (upd H7 L (.lst (refs cs))) := by
        intro H7 i3 z st7 i3a i3b hz7 kp7
        refine ⟨bs2.take i3.toNat ++ [(z, MX.opR b q1 q2)] ++ bs2.drop i3.toNat, by rw [refs_ins], st7.put (fun x hx => ?_), ?_, ?_, ?_, kp_put kp7 hL⟩
        · rcases List.mem_append.mp hx with hx | hx
          · rcases List.mem_append.mp hx with hx | hx
            · exact st7.all x (List.mem_of_mem_take hx)
            · have e : x = (z, MX.opR b q1 q2) := by simpa using hx
              rw [e]; exact hz7
          · exact st7.all x (List.mem_of_mem_drop hx)
        · rw [List.length_append, List.length_append, List.length_take, List.length_drop, List.length_singleton]; omega
        · rw [rats_ins, em]; exact MX.fr_ins (MX.opR_lc b) _ _ _
        · rw [rats_ins]
          have := MX.fr_ins MX.szs_lc (e := 1) (rats bs2) i3.toNat (MX.opR b q1 q2)
          show List.foldr (fun q n => MX.sz q * n) 1 _ ≤ _
          rw [this]; exact zo
      walk_at "rd"
      cases b
      · walk_at "rd"
        refine ⟨tyL e5, ?_⟩
        walk_at "rd"
        refine ⟨h, c, _, rfl, st5.hd, by omega, log_small (by omega) (by omega), fun i3 H6 i3a i3b hd6 b6 => ?_⟩
        have st6 := st5.draw hd6 b6
        have kp6 := kp5.trans b6.kp
        walk_at "rd"
        refine own_op (ratKp ra5 st5.hd b6.kp) (ratKp rb5 st5.hd b6.kp) bq1 bq2 (fun z H7 s7 hz7 => ?_)
        have st7 := st6.same s7
        obtain ⟨cs, ec, st8, lc, cc, zc, kc⟩ := tail (i3 := i3) st7 i3a (by omega) hz7 (kp6.trans (fun b u _ e => s7 b u e))
        walk_at "rd"
        refine ⟨L, refs bs2, i3, .ref z, rfl, rfl, st7.at_, Nat.lt_of_le_of_lt (show (refs bs2).length ≤ 20 by omega) (by decide), i3a, by omega, ?_⟩
        rw [ec]
        walk_at "rd"
        exact ⟨_, _, _, cs, rfl, st8, lc, cc, zc, kc⟩
      · walk_at "rd"
        refine ⟨tyL e5, ?_⟩
        walk_at "rd"
        refine ⟨h, c, _, rfl, st5.hd, by omega, log_small (by omega) (by omega), fun i3 H6 i3a i3b hd6 b6 => ?_⟩
        have st6 := st5.draw hd6 b6
        have kp6 := kp5.trans b6.kp
        walk_at "rd"
        refine own_op (ratKp ra5 st5.hd b6.kp) (ratKp rb5 st5.hd b6.kp) bq1 bq2 (fun z H7 s7 hz7 => ?_)
        have st7 := st6.same s7
        obtain ⟨cs, ec, st8, lc, cc, zc, kc⟩ := tail (i3 := i3) st7 i3a (by omega) hz7 (kp6.trans (fun b u _ e => s7 b u e))
        walk_at "rd"
        refine ⟨L, refs bs2, i3, .ref z, rfl, rfl, st7.at_, Nat.lt_of_le_of_lt (show (refs bs2).length ≤ 20 by omega) (by decide), i3a, by omega, ?_⟩
        rw [ec]
        walk_at "rd"
        exact ⟨_, _, _, cs, rfl, st8, lc, cc, zc, kc⟩
    · rintro σ' H1 ⟨v4, v5, v6, bs, rfl, st, hl, hc, hz, kp⟩
      have hb1 : bs.length = 1 := by omega
      obtain ⟨⟨a1, q1⟩, rfl⟩ : ∃ x, bs = [x] := List.length_eq_one_iff.mp hb1
      have e1 := st.at_
      walk_at "rd"
      have ec : MX.cmb b (rats [(a1, q1)]) = q1 := MX.opR_un b q1
      rw [ec] at hc
      subst hc
      refine k a1 _ st.hd kp (st.all (a1, MX.cmb b (rats as)) (List.mem_singleton.mpr rfl)) ?_
      have ez : MX.szs (rats [(a1, MX.cmb b (rats as))]) = MX.sz (MX.cmb b (rats as)) := Nat.mul_one _
      rw [ez] at hz; exact hz
end

/-! ### two drawn numbers, the second not 0; what is asked of a Ratio -/
theorem But.trans {h : Addr} {H H1 H2 : Hp} (a : But h H H1) (b : But h H1 H2) : But h H H2 := fun c n => (b c n).trans (a c n)
def spPair : Sp := fun vs H Q _ => ∃ (h c : Addr), vs = [.ref h] ∧ HandAt H h c ∧ ∀ (i j : Int) (p : Addr) (H' : Hp), i.natAbs ≤ 20 → j.natAbs ≤ 999 → j ≠ 0 → HandAt H' h c → H' p = some (.tup [.int i, .int j]) → H p = none → Kp h H H' → Q (.ref p) H'
theorem bt_none {h p : Addr} {H H' : Hp} (b : But h H H') (n : H' p = none) (e : ∃ o, H' h = some o) : H p = none := by
  have : p ≠ h := fun z => by obtain ⟨o, e⟩ := e; rw [z, e] at n; cases n
  rw [← b p this]; exact n
section
variable {P : Program} {w : World} {K : PySem.W.Frag} {mg : Str → Option Value} {base : Heap}
theorem log_most {n : Int} (h0 : 0 ≤ n) (h : n ≤ 1000) : n.natAbs.log2 < 9000 := Nat.lt_of_le_of_lt (log2_mono (show n.natAbs ≤ 1000 by omega)) (by decide)
theorem HandAt.some {H : Hp} {h c : Addr} (x : HandAt H h c) : ∃ o, H h = some o := by
  obtain ⟨cs, p, q, m, n, e1, _⟩ := x
  exact ⟨_, e1⟩
theorem ok_law_pair (T : Top K mg) : FnOk P w K mg base CX0 3 T.f_law_pair T.fd_law_pair ["hand"] spPair := by
  refine T.F_law_pair.ok sc_law_pair (fun vs H Q E h => ?_) (fun cdv A outer s H vs Q E hr h => ?_)
  · obtain ⟨h, c, rfl, _⟩ := h; rfl
  · obtain ⟨h, c, rfl, hd, k⟩ := h
    refine ⟨_, (pss_cons (ps_set (i := 1) sc_law_pair.nd rfl (Or.inl rfl) (pe_op op_add pe_int (pe_call (ok_law_draw T) (hr.mono (by decide)) (by rfl) T.g_law_draw T.F_law_draw.kp T.b_law_draw .nil pass0 (pa_cons (pv 0) (pa_cons pe_int pa_nil)))))
 (C8.pss_cut (ps_if (pt_cmpR op_eq (pe_call (ok_law_draw T) (hr.mono (by decide)) (by rfl) T.g_law_draw T.F_law_draw.kp T.b_law_draw .nil pass0 (pa_cons (pv 0) (pa_cons pe_int pa_nil))) pe_int (nomark _))
 (pss_one (ps_set (i := 1) sc_law_pair.nd rfl (Or.inl rfl) (pe_op op_add pe_int (pe_call (ok_law_draw T) (hr.mono (by decide)) (by rfl) T.g_law_draw T.F_law_draw.kp T.b_law_draw .nil pass0 (pa_cons (pv 0) (pa_cons pe_int pa_nil))))))
 pss_nil)
 (C8.pss_cut (ps_if (pt_cmpR op_eq (pe_call (ok_law_draw T) (hr.mono (by decide)) (by rfl) T.g_law_draw T.F_law_draw.kp T.b_law_draw .nil pass0 (pa_cons (pv 0) (pa_cons pe_int pa_nil))) pe_int (nomark _))
 (pss_one (ps_set (i := 1) sc_law_pair.nd rfl (Or.inl rfl) (pe_op op_sub pe_int (pv 1))))
 pss_nil)
 (pss_one (ps_ret (pe_tup (pa_cons (pe_op op_sub (pe_call (ok_law_draw T) (hr.mono (by decide)) (by rfl) T.g_law_draw T.F_law_draw.kp T.b_law_draw .nil pass0 (pa_cons (pv 0) (pa_cons pe_int pa_nil))) pe_int) (pa_cons (pv 1) pa_nil)))))))), ?_⟩
    walk_at "rd"
    refine ⟨h, c, 12, rfl, hd, by decide, log_most (by decide) (by decide), fun i1 H1 i1a i1b hd1 b1 => ?_⟩
    walk_at "rd"
    refine RD.d_cut (fun σ' H' => ∃ j : Int, σ' = [some (.ref h), some (.int j)] ∧ 0 < j ∧ j ≤ 999 ∧ HandAt H' h c ∧ But h H H') ?_ ?_
    · walk_at "rd"
      refine ⟨h, c, 6, rfl, hd1, by decide, log_most (by decide) (by decide), fun i2 H2 i2a i2b hd2 b2 => ?_⟩
      walk_at "rd"
      refine RD.iteD (fun q => ?_) (fun q => ?_)
      · walk_at "rd"
        refine ⟨h, c, 999, rfl, hd2, by decide, log_most (by decide) (by decide), fun i3 H3 i3a i3b hd3 b3 => ?_⟩
        walk_at "rd"
        exact ⟨1 + i3, rfl, by omega, by omega, hd3, (b1.trans b2).trans b3⟩
      · walk_at "rd"
        exact ⟨1 + i1, rfl, by omega, by omega, hd2, b1.trans b2⟩
    rintro σ' H2 ⟨j, rfl, j0, j1, hd2, b2⟩
    refine RD.d_cut (fun σ' H' => ∃ j : Int, σ' = [some (.ref h), some (.int j)] ∧ j ≠ 0 ∧ j.natAbs ≤ 999 ∧ HandAt H' h c ∧ But h H H') ?_ ?_
    · walk_at "rd"
      refine ⟨h, c, 2, rfl, hd2, by decide, log_most (by decide) (by decide), fun i3 H3 i3a i3b hd3 b3 => ?_⟩
      walk_at "rd"
      refine RD.iteD (fun q => ?_) (fun q => ?_)
      · walk_at "rd"
        exact ⟨0 - j, rfl, by omega, by omega, hd3, b2.trans b3⟩
      · walk_at "rd"
        exact ⟨j, rfl, by omega, by omega, hd3, b2.trans b3⟩
    rintro σ' H3 ⟨j, rfl, j0, j1, hd3, b3⟩
    walk_at "rd"
    refine ⟨h, c, 41, rfl, hd3, by decide, log_most (by decide) (by decide), fun i H4 ia ib hd4 b4 => ?_⟩
    walk_at "rd"
    refine ⟨by show 2 ≤ sizeLine; decide, fun p hp => ?_⟩
    have b5 := b3.trans b4
    exact k (i - 20) j p _ (by omega) j1 j0 (hd4.same (same_upd hp)) upd_same (bt_none b5 hp hd4.some) (b5.kp.trans (kp_upd hp))
def spIs (C : Addr) : Sp := fun vs H Q _ => ∃ (a : Addr) (t b : Int) (q : Rat), vs = [.ref a, .int t, .int b] ∧ RatAt C H a q ∧ Bd 2000 q ∧ b ≠ 0 ∧ t.natAbs < 2 ^ 2000 ∧ b.natAbs < 2 ^ 2000 ∧ q = Rat.divInt t b ∧ Q (.bl true) H
theorem ok_law_is (T : Top K mg) : FnOk P w K mg base CX0 3 T.f_law_is T.fd_law_is ["thing", "top", "bottom"] (spIs T.C_Ratio) := by
  refine T.F_law_is.ok sc_law_is (fun vs H Q E h => ?_) (fun cdv A outer s H vs Q E hr h => ?_)
  · obtain ⟨a, t, b, q, rfl, _⟩ := h; rfl
  · obtain ⟨a, t, b, q, rfl, ha, bq, nz, ht, hb, eq, k⟩ := h
    refine ⟨_, (pss_one (ps_ret (pe_and (pe_callB call_isi (by rfl) T.n_isinstance (by decide +kernel) (pa_cons (pv 0) (pa_cons (pe_glob (v := V.ref T.C_Ratio) (by rfl) T.g_Ratio rfl) pa_nil))) (pe_and (pe_cmpR op_gt (pe_fld (pv 0) rfl) pe_int (nomark _)) (pe_one (pe_cmpR op_eq (pe_op op_mulW (pe_fld (pv 0) rfl) (pv 2)) (pe_op op_mulW (pv 1) (pe_fld (pv 0) rfl)) (nomark _))))))), ?_⟩
    walk_at "rd"
    refine RD.d_isi (.own _) (tyR T ha) T.kRR ?_
    walk_at "rd"
    have dp := den_pos q
    refine ratBottom T ha ?_
    walk_at "rd"
    rw [decide_eq_true dp]
    walk_at "rd"
    refine ratTop T ha ?_
    walk_at "rd"
    refine RD.d_rI (wm bq.1 hb (by decide) (by decide) (by decide)) ?_
    walk_at "rd"
    refine ratBottom T ha ?_
    walk_at "rd"
    refine RD.d_rI (wm ht (den_bd bq) (by decide) (by decide) (by decide)) ?_
    walk_at "rd"
    have e : q.num * b = t * (q.den : Int) := by
      have z : Rat.divInt q.num q.den = Rat.divInt t b := by rw [Rat.num_divInt_den]; exact eq
      exact (Rat.divInt_eq_divInt_iff (by omega) nz).mp z
    rw [decide_eq_true e]
    exact k
end

/-! ### the law's pairs, its row -/
section
variable {K : PySem.W.Frag} {mg : Str → Option Value}
theorem eq_rr (T : Top K mg) {H : Hp} {Q : VK} {E : XK} {x y : Addr} {p q : Rat} (hx : RatAt T.C_Ratio H x p) (hy : RatAt T.C_Ratio H y q) (k : Q (.bl (decide (p = q))) H) : OQ.rOwnEq K T.C_Ratio (spEq K T.C_Ratio) E (.ref x) (.ref y) H Q := by
  obtain ⟨dx, e⟩ := id hx
  exact ⟨x, dx, _, _, rfl, e, tyR T hy, T.nfR, x, p, .ref y, rfl, hx, .inl ⟨y, q, rfl, hy, k⟩⟩
theorem eq_ri (T : Top K mg) {H : Hp} {Q : VK} {E : XK} {x : Addr} {p : Rat} {i : Int} (hx : RatAt T.C_Ratio H x p) (k : Q (.bl (decide (p = (i : Rat)))) H) : OQ.rOwnEq K T.C_Ratio (spEq K T.C_Ratio) E (.ref x) (.int i) H Q := by
  obtain ⟨dx, e⟩ := id hx
  exact ⟨x, dx, _, _, rfl, e, .base (.int i), (T.kT "int" (by simp)).2, x, p, .int i, rfl, hx, .inr (.inl ⟨i, rfl, k⟩)⟩
theorem ne_rr (T : Top K mg) {H : Hp} {Q : VK} {E : XK} {x y : Addr} {p q : Rat} (hx : RatAt T.C_Ratio H x p) (hy : RatAt T.C_Ratio H y q) (e : p = q) (k : Q (.bl false) H) : OQ.rOwnNe K T.C_Ratio (spEq K T.C_Ratio) E (.ref x) (.ref y) H Q := by
  obtain ⟨dx, ex⟩ := id hx
  exact ⟨x, dx, _, _, rfl, ex, tyR T hy, T.nfR, x, p, .ref y, rfl, hx, .inl ⟨y, q, rfl, hy, _, rfl, by rw [decide_eq_true e]; exact k⟩⟩
end
theorem d_neB {H : Hp} {Q : VK} {i j : Bool} (h : Q (.bl (!decide (i = j))) H) : rNe (.bl i) (.bl j) H Q := ⟨rfl, by
  have e : decide (V.bl i = V.bl j) = decide (i = j) := by rw [dec_bl, Bool.eq_iff_iff]; simp
  rw [e]; exact h⟩
theorem d_gtupN {K : PySem.W.Frag} {p : Addr} {v w : V} {i j : Nat} {σ : L2.St} {H : Hp} {R : L2.St → Hp → Prop} (hs : SqT K H p [v, w]) (h : R ((σ.set i (some v)).set j (some w)) H) :
    gTup K 2 (gCons (gName i) (gCons (gName j) gNil)) (.ref p) σ H R := ⟨p, [v, w], rfl, hs, rfl, v, [w], rfl, w, [], rfl, rfl, h⟩
abbrev Pr := Addr × Int × Int
def prefs (ps : List Pr) : List V := ps.map fun x => V.ref x.1
def val (x : Pr) : Rat := Rat.divInt x.2.1 x.2.2
def vals (ps : List Pr) : List Rat := ps.map val
def PrAt (H : Hp) (x : Pr) : Prop := H x.1 = some (.tup [.int x.2.1, .int x.2.2]) ∧ x.2.2 ≠ 0 ∧ x.2.1.natAbs ≤ 20 ∧ x.2.2.natAbs ≤ 999
theorem prefs_len (ps : List Pr) : (prefs ps).length = ps.length := by unfold prefs; simp
theorem prefs_get {ps : List Pr} {k : Nat} {x : Pr} (h : ps[k]? = some x) : (prefs ps)[k]? = some (V.ref x.1) := by unfold prefs; simp [h]
theorem PrAt.kp {h c : Addr} {H H' : Hp} {x : Pr} (p : PrAt H x) (hd : HandAt H h c) (k : Kp h H H') : PrAt H' x := by
  obtain ⟨cs, p', q', m, n, e1, _⟩ := hd
  obtain ⟨p1, p2⟩ := p
  exact ⟨k _ _ (fun z => by rw [z] at p1; rw [p1] at e1; cases e1) p1, p2⟩
theorem PrAt.put {H : Hp} {x : Pr} {D : Addr} {xs ys : List V} (p : PrAt H x) (e : H D = some (.lst xs)) : PrAt (upd H D (.lst ys)) x := by
  obtain ⟨p1, p2⟩ := p
  exact ⟨by rw [upd_ne (fun z => by rw [z] at p1; rw [p1] at e; cases e)]; exact p1, p2⟩
theorem handPut {H : Hp} {h c D : Addr} {o : HO} (hd : HandAt H h c) (nh : D ≠ h) (nc : D ≠ c) : HandAt (upd H D o) h c := by
  obtain ⟨cs, p, q, m, n, e1, e2, ne, hp⟩ := hd
  exact ⟨cs, p, q, m, n, by rw [upd_ne (Ne.symm nh)]; exact e1, by rw [upd_ne (Ne.symm nc)]; exact e2, ne, hp⟩
theorem handFree {H : Hp} {h c D : Addr} (hd : HandAt H h c) (hD : H D = none) : D ≠ h ∧ D ≠ c := by
  obtain ⟨cs, p, q, m, n, e1, e2, ne, hp⟩ := hd
  exact ⟨(ne_of_none e1 hD).symm, (ne_of_none e2 hD).symm⟩
/-- what stands between the law's rows -/
structure Gx (C h c P R : Addr) (H : Hp) (ps : List Pr) (as mo : List (Addr × Rat)) : Prop where
  hd : HandAt H h c
  nP : P ≠ h
  nR : R ≠ h
  atP : H P = some (.lst (prefs ps))
  atR : H R = some (.lst (refs as))
  prs : ∀ x ∈ ps, PrAt H x
  rts : ∀ x ∈ as, RatAt C H x.1 x.2
  mor : ∀ x ∈ mo, RatAt C H x.1 x.2
theorem Gx.kp {C h c P R : Addr} {H H' : Hp} {ps : List Pr} {as mo : List (Addr × Rat)} (g : Gx C h c P R H ps as mo) (hd : HandAt H' h c) (k : Kp h H H') : Gx C h c P R H' ps as mo :=
  ⟨hd, g.nP, g.nR, k _ _ g.nP g.atP, k _ _ g.nR g.atR, fun x hx => (g.prs x hx).kp g.hd k, fun x hx => ratKp (g.rts x hx) g.hd k, fun x hx => ratKp (g.mor x hx) g.hd k⟩
theorem Gx.same {C h c P R : Addr} {H H' : Hp} {ps : List Pr} {as mo : List (Addr × Rat)} (g : Gx C h c P R H ps as mo) (s : Same H H') : Gx C h c P R H' ps as mo :=
  g.kp (g.hd.same s) fun b u _ e => s b u e
theorem Gx.put {C h c P R D : Addr} {H : Hp} {ps : List Pr} {as mo : List (Addr × Rat)} {xs ys : List V} (g : Gx C h c P R H ps as mo) (nh : D ≠ h) (nc : D ≠ c) (nP : D ≠ P) (nR : D ≠ R) (e : H D = some (.lst xs)) : Gx C h c P R (upd H D (.lst ys)) ps as mo :=
  ⟨handPut g.hd nh nc, g.nP, g.nR, by rw [upd_ne (Ne.symm nP)]; exact g.atP, by rw [upd_ne (Ne.symm nR)]; exact g.atR, fun x hx => (g.prs x hx).put e, fun x hx => ratUpd (g.rts x hx) e, fun x hx => ratUpd (g.mor x hx) e⟩
theorem Gx.add {C h c P R a : Addr} {q : Rat} {H : Hp} {ps : List Pr} {as mo : List (Addr × Rat)} (g : Gx C h c P R H ps as mo) (r : RatAt C H a q) : Gx C h c P R H ps as ((a, q) :: mo) :=
  ⟨g.hd, g.nP, g.nR, g.atP, g.atR, g.prs, g.rts, fun x hx => by
    rcases List.mem_cons.mp hx with rfl | hx
    · exact r
    · exact g.mor x hx⟩
theorem Gx.free {C h c P R D : Addr} {H : Hp} {ps : List Pr} {as mo : List (Addr × Rat)} (g : Gx C h c P R H ps as mo) (hD : H D = none) : D ≠ h ∧ D ≠ c ∧ D ≠ P ∧ D ≠ R :=
  ⟨(handFree g.hd hD).1, (handFree g.hd hD).2, (ne_of_none g.atP hD).symm, (ne_of_none g.atR hD).symm⟩
theorem log_most' {n : Int} (h : n.natAbs ≤ 999) : n.natAbs.log2 < 9000 := Nat.lt_of_le_of_lt (log2_mono h) (by decide)
theorem lk_no {q : Rat} {m : Str} (h1 : (m == ("top" : Str)) = false) (h2 : (m == ("bottom" : Str)) = false) : (ratF q).lookup m = none := by unfold ratF; simp [List.lookup, h1, h2]
/-- the law's own fractions, behind i of the numbers -/
def Acc (b : Bool) (i : Nat) (N D : Int) (vs : List Rat) : Prop := D ≠ 0 ∧ N.natAbs + D.natAbs ≤ 2 * 1024 ^ i ∧ MX.opR b (Rat.divInt N D) (MX.cmb b (vs.drop i)) = MX.cmb b vs
theorem drop_at {vs : List Rat} {i : Nat} {q : Rat} (h : vs[i]? = some q) : vs.drop i = q :: vs.drop (i + 1) := by
  obtain ⟨h1, h2⟩ := List.getElem?_eq_some_iff.mp h
  rw [List.drop_eq_getElem_cons h1, h2]
theorem cmb_cons (b : Bool) (q : Rat) (r : List Rat) : MX.cmb b (q :: r) = MX.opR b q (MX.cmb b r) := rfl
theorem acc_next {b : Bool} {v q : Rat} {i : Nat} {vs : List Rat} (h : vs[i]? = some q) (e : MX.opR b v (MX.cmb b (vs.drop i)) = MX.cmb b vs) : MX.opR b (MX.opR b v q) (MX.cmb b (vs.drop (i + 1))) = MX.cmb b vs := by
  rw [← e, drop_at h, cmb_cons, MX.opR_as]
theorem acc_bd {n m i : Nat} (h : n ≤ m * 1019) (hm : m ≤ 2 * 1024 ^ i) : n ≤ 2 * 1024 ^ (i + 1) := by
  rw [Nat.pow_succ]
  have : m * 1019 ≤ 2 * 1024 ^ i * 1024 := Nat.mul_le_mul hm (by decide)
  rw [Nat.mul_assoc] at this
  omega
theorem Acc.sum {i : Nat} {N D t b : Int} {vs : List Rat} (a : Acc true i N D vs) (h : vs[i]? = some (Rat.divInt t b)) (nb : b ≠ 0) (ht : t.natAbs ≤ 20) (hb : b.natAbs ≤ 999) : Acc true (i + 1) (N * b + t * D) (D * b) vs := by
  obtain ⟨nD, bd, e⟩ := a
  refine ⟨Int.mul_ne_zero nD nb, acc_bd (Nat.le_trans MX.sz_frac (Nat.mul_le_mul_left _ (by omega))) bd, ?_⟩
  have x := acc_next h e
  have y : MX.opR true (Rat.divInt N D) (Rat.divInt t b) = Rat.divInt (N * b + t * D) (D * b) := by
    show Rat.divInt N D + Rat.divInt t b = _
    rw [Rat.divInt_add_divInt _ _ nD nb]
  rw [y] at x; exact x
theorem Acc.prod {i : Nat} {N D t b : Int} {vs : List Rat} (a : Acc false i N D vs) (h : vs[i]? = some (Rat.divInt t b)) (nb : b ≠ 0) (ht : t.natAbs ≤ 20) (hb : b.natAbs ≤ 999) : Acc false (i + 1) (N * t) (D * b) vs := by
  obtain ⟨nD, bd, e⟩ := a
  refine ⟨Int.mul_ne_zero nD nb, acc_bd (Nat.le_trans MX.sz_prod (Nat.mul_le_mul_left _ (by omega))) bd, ?_⟩
  have x := acc_next h e
  have y : MX.opR false (Rat.divInt N D) (Rat.divInt t b) = Rat.divInt (N * t) (D * b) := by
    show Rat.divInt N D * Rat.divInt t b = _
    rw [Rat.divInt_mul_divInt]
  rw [y] at x; exact x
theorem Acc.done {b : Bool} {n : Nat} {N D : Int} {vs : List Rat} (a : Acc b n N D vs) (h : n = vs.length) : Rat.divInt N D = MX.cmb b vs := by
  obtain ⟨_, _, e⟩ := a
  rw [h, List.drop_length] at e
  rw [← e]; exact (MX.opR_un b _).symm
theorem Acc.bds {b : Bool} {n : Nat} {N D : Int} {vs : List Rat} (a : Acc b n N D vs) (h : n ≤ 12) : N.natAbs < 2 ^ 200 ∧ D.natAbs < 2 ^ 200 := by
  obtain ⟨_, e, _⟩ := a
  have h1 : 1024 ^ n ≤ 1024 ^ 12 := Nat.pow_le_pow_right (by decide) h
  have h2 : 2 * 1024 ^ 12 < 2 ^ 200 := by decide
  omega
theorem tupKp {h c p : Addr} {H H' : Hp} {xs : List V} (e : H p = some (.tup xs)) (hd : HandAt H h c) (k : Kp h H H') : H' p = some (.tup xs) := by
  obtain ⟨cs, p', q, m, n, e1, _⟩ := hd
  exact k _ _ (fun z => by rw [z, e1] at e; cases e) e
theorem vals_sz {ps : List Pr} (h : ∀ x ∈ ps, x.2.2 ≠ 0 ∧ x.2.1.natAbs ≤ 20 ∧ x.2.2.natAbs ≤ 999) : ∀ q ∈ vals ps, MX.sz q ≤ 1024 := by
  intro q hq
  obtain ⟨x, hx, rfl⟩ := List.mem_map.mp hq
  obtain ⟨a, b, c⟩ := h x hx
  exact Nat.le_trans (MX.sz_div a) (by omega)
theorem vals_get {ps : List Pr} {k : Nat} {x : Pr} (h : ps[k]? = some x) : (vals ps)[k]? = some (Rat.divInt x.2.1 x.2.2) := by unfold vals; simp [h, val]
theorem kpSame {h : Addr} {H H' : Hp} (s : Same H H') : Kp h H H' := fun b u _ e => s b u e
def spLaw (K : PySem.W.Frag) : Sp := fun vs H Q _ => ∃ (a : Addr) (ns : List Int), vs = [.ref a] ∧ SqL K H a (ns.map V.int) ∧ ns.length ≤ 63 ∧ ∀ H', Q (.bl true) H'

section
variable {P : Program} {w : World} {K : PySem.W.Frag} {mg : Str → Option Value} {base : Heap}
theorem ok_law (T : Top K mg) : FnOk P w K mg base CX0 12 T.f_law T.fd_law ["script"] (spLaw K) := by
  refine T.F_law.ok sc_law (fun vs H Q E h => ?_) (fun cdv A outer s H vs Q E hr h => ?_)
  · obtain ⟨a, ns, rfl, _⟩ := h; rfl
  · obtain ⟨ad, ns, rfl, hS, hl, k⟩ := h
    obtain ⟨ds1, hv_Ratio__init, hb_Ratio__init⟩ := T.b1_Ratio__init
    refine ⟨_, (pss_cons (ps_set (i := 1) sc_law.nd rfl (Or.inr rfl) (pe_call (ok_law_hand T) (hr.mono (by decide)) (by rfl) T.g_law_hand T.F_law_hand.kp T.b_law_hand .nil pass0 (pa_cons (pv 0) pa_nil)))
 (C8.pss_cut (ps_setLc (i := 2) (own := [("k", 3)]) (g := (gName 3)) (tt := tYes) rfl sc_law.nd rfl rfl (sw_true rfl rfl rfl (by decide +kernel)) (pi_range1 (by rfl) T.n_range (pa_cons (pe_op op_add pe_int (pe_call (ok_law_draw T) (hr.mono (by decide)) (by rfl) T.g_law_draw T.F_law_draw.kp T.b_law_draw .nil pass0 (pa_cons (pv 1) (pa_cons pe_int pa_nil)))) pa_nil)) (blkOk_by (own := [("k", 3)]) (N := ["script", "hand", "pairs", "k", "row", "top", "bottom", "sums", "products", "total", "whole", "factor", "ratio", "at"]) (sc := defScope s_law) (by decide +kernel)) (fun _ _ _ _ _ => (pg_name (i := 3) sc_law.nd rfl (Or.inl rfl))) (fun _ _ _ _ _ => pts_nil) (fun _ _ _ _ _ => (pe_call (ok_law_pair T) (hr.mono (by decide)) (by rfl) T.g_law_pair T.F_law_pair.kp T.b_law_pair .nil pass0 (pa_cons (pv 1) pa_nil))))
 (C8.pss_cut (ps_setLc (i := 4) (own := [("top", 5), ("bottom", 6)]) (g := (gTup K 2 (gCons (gName 5) (gCons (gName 6) gNil)))) (tt := tYes) rfl sc_law.nd rfl rfl (sw_true rfl rfl rfl (by decide +kernel)) (pi_list (pv 2)) (blkOk_by (own := [("top", 5), ("bottom", 6)]) (N := ["script", "hand", "pairs", "k", "row", "top", "bottom", "sums", "products", "total", "whole", "factor", "ratio", "at"]) (sc := defScope s_law) (by decide +kernel)) (fun _ _ _ _ _ => (pg_tup (by rfl) (pgs_cons (pg_name (i := 5) sc_law.nd rfl (Or.inl rfl)) (pgs_cons (pg_name (i := 6) sc_law.nd rfl (Or.inl rfl)) pgs_nil)))) (fun _ _ _ _ _ => pts_nil) (fun _ _ _ _ _ => (pe_make T.M_Ratio (ok_Ratio__init T) (hr.mono (by decide)) (by rfl) T.g_Ratio T.b_Ratio__init .nil OQ.passN (pa_cons (pv 5) (pa_cons (pv 6) pa_nil)))))
 (pss_cons (ps_set (i := 7) sc_law.nd rfl (Or.inl rfl) (pe_tup (pa_cons pe_int (pa_cons pe_int pa_nil))))
 (pss_cons (ps_set (i := 8) sc_law.nd rfl (Or.inl rfl) (pe_tup (pa_cons pe_int (pa_cons pe_int pa_nil))))
 (C8.pss_cut (ps_for PassesOwn.never rfl (pi_list (pv 2)) (pg_tup (by rfl) (pgs_cons (pg_name (i := 5) sc_law.nd rfl (Or.inl rfl)) (pgs_cons (pg_name (i := 6) sc_law.nd rfl (Or.inl rfl)) pgs_nil)))
 (pss_cons (ps_set (i := 7) sc_law.nd rfl (Or.inl rfl) (pe_tup (pa_cons (pe_op op_add (pe_op op_mulW (pe_ix ix_tup (pv 7) pe_int (fun _ _ => rfl)) (pv 6)) (pe_op op_mulW (pv 5) (pe_ix ix_tup (pv 7) pe_int (fun _ _ => rfl)))) (pa_cons (pe_op op_mulW (pe_ix ix_tup (pv 7) pe_int (fun _ _ => rfl)) (pv 6)) pa_nil))))
 (pss_one (ps_set (i := 8) sc_law.nd rfl (Or.inl rfl) (pe_tup (pa_cons (pe_op op_mulW (pe_ix ix_tup (pv 8) pe_int (fun _ _ => rfl)) (pv 5)) (pa_cons (pe_op op_mulW (pe_ix ix_tup (pv 8) pe_int (fun _ _ => rfl)) (pv 6)) pa_nil)))))))
 (pss_cons (ps_set (i := 9) sc_law.nd rfl (Or.inl rfl) (pe_call (ok_law_by_turns T) (hr.mono (by decide)) (by rfl) T.g_law_by_turns T.F_law_by_turns.kp T.b_law_by_turns .nil pass0 (pa_cons (pv 1) (pa_cons (pv 4) (pa_cons pe_bl pa_nil)))))
 (C8.pss_cut (ps_if (PW.pt (pw_or (pt_not (pt_val (pe_call (ok_law_is T) (hr.mono (by decide)) (by rfl) T.g_law_is T.F_law_is.kp T.b_law_is .nil pass0 (pa_cons (pv 9) (pa_cons (pe_ix ix_tup (pv 7) pe_int (fun _ _ => rfl)) (pa_cons (pe_ix ix_tup (pv 7) pe_int (fun _ _ => rfl)) pa_nil)))))) (pw_or (pt_cmpR (OQ.op_ownNe (ok_Ratio__eq T) (hr.mono (by decide)) T.m_Ratio__eq.at_ T.m_Ratio__eq.fn T.neR T.hmR T.b_Ratio__eq pass0) (pe_call (ok_law_by_turns T) (hr.mono (by decide)) (by rfl) T.g_law_by_turns T.F_law_by_turns.kp T.b_law_by_turns .nil pass0 (pa_cons (pv 1) (pa_cons (pv 4) (pa_cons pe_bl pa_nil)))) (pv 9) (nomark _)) (pw_or1 (pt_cmpR (OQ.op_ownNe (ok_Ratio__eq T) (hr.mono (by decide)) T.m_Ratio__eq.at_ T.m_Ratio__eq.fn T.neR T.hmR T.b_Ratio__eq pass0) (pe_callB (OQ.cr_sumO (OQ.op_or (OQ.op_ownB (ok_Ratio__add T) ((hr.mono (by decide)).in1) T.sfR (T.at_add) T.m_Ratio__add.fn T.at_radd T.ia_add T.ib_add T.subIR T.b_Ratio__add pass0) (OQ.op_reflB OQ.int_add (ok_Ratio__radd T) ((hr.mono (by decide)).in1) T.sfR T.at_add T.at_radd T.m_Ratio__radd.fn T.subRI T.b_Ratio__radd pass0)) rfl) (by rfl) T.n_sum (by decide +kernel) (pa_cons (pv 4) pa_nil)) (pv 9) (nomark _))))))
 (pss_one (ps_ret pe_bl))
 pss_nil)
 (pss_cons (ps_set (i := 10) sc_law.nd rfl (Or.inl rfl) (pe_call (ok_law_by_turns T) (hr.mono (by decide)) (by rfl) T.g_law_by_turns T.F_law_by_turns.kp T.b_law_by_turns .nil pass0 (pa_cons (pv 1) (pa_cons (pv 4) (pa_cons pe_bl pa_nil)))))
 (C8.pss_cut (ps_if (PW.pt (pw_or (pt_not (pt_val (pe_call (ok_law_is T) (hr.mono (by decide)) (by rfl) T.g_law_is T.F_law_is.kp T.b_law_is .nil pass0 (pa_cons (pv 10) (pa_cons (pe_ix ix_tup (pv 8) pe_int (fun _ _ => rfl)) (pa_cons (pe_ix ix_tup (pv 8) pe_int (fun _ _ => rfl)) pa_nil)))))) (pw_or1 (pt_cmpR (OQ.op_ownNe (ok_Ratio__eq T) (hr.mono (by decide)) T.m_Ratio__eq.at_ T.m_Ratio__eq.fn T.neR T.hmR T.b_Ratio__eq pass0) (pe_call (ok_law_by_turns T) (hr.mono (by decide)) (by rfl) T.g_law_by_turns T.F_law_by_turns.kp T.b_law_by_turns .nil pass0 (pa_cons (pv 1) (pa_cons (pv 4) (pa_cons pe_bl pa_nil)))) (pv 10) (nomark _)))))
 (pss_one (ps_ret pe_bl))
 pss_nil)
 (pss_cons (ps_set (i := 11) sc_law.nd rfl (Or.inr rfl) (pe_ix ix_list (pv 4) (pe_call (ok_law_draw T) (hr.mono (by decide)) (by rfl) T.g_law_draw T.F_law_draw.kp T.b_law_draw .nil pass0 (pa_cons (pv 1) (pa_cons (pe_callB RD.c_len (by rfl) T.n_len (by decide +kernel) (pa_cons (pv 4) pa_nil)) pa_nil))) (fun _ _ => rfl)))
 (C8.pss_cut (ps_if (pt_cmpR (OQ.op_ownNe (ok_Ratio__eq T) (hr.mono (by decide)) T.m_Ratio__eq.at_ T.m_Ratio__eq.fn T.neR T.hmR T.b_Ratio__eq pass0) (pe_op (OQ.op_ownB (ok_Ratio__mul T) (hr.mono (by decide)) T.sfR (T.at_mul) T.m_Ratio__mul.fn T.at_rmul T.ia_mul T.ib_mul T.subIR T.b_Ratio__mul pass0) (pv 11) (pv 9)) (pe_call (ok_law_by_turns T) (hr.mono (by decide)) (by rfl) T.g_law_by_turns T.F_law_by_turns.kp T.b_law_by_turns .nil pass0 (pa_cons (pv 1) (pa_cons (pe_lc (own := [("ratio", 12)]) (g := (gName 12)) (tt := tYes) rfl sc_law.nd (pi_list (pv 4)) (blkOk_by (own := [("ratio", 12)]) (N := ["script", "hand", "pairs", "k", "row", "top", "bottom", "sums", "products", "total", "whole", "factor", "ratio", "at"]) (sc := defScope s_law) (by decide +kernel)) (fun _ _ _ _ _ => (pg_name (i := 12) sc_law.nd rfl (Or.inl rfl))) (fun _ _ _ _ _ => pts_nil) (fun _ _ _ _ _ => (pe_op (OQ.op_ownB (ok_Ratio__mul T) (hr.mono (by decide)) T.sfR (T.at_mul) T.m_Ratio__mul.fn T.at_rmul T.ia_mul T.ib_mul T.subIR T.b_Ratio__mul pass0) (pv 11) (pv 12)))) (pa_cons pe_bl pa_nil)))) (nomark _))
 (pss_one (ps_ret pe_bl))
 pss_nil)
 (C8.pss_cut (ps_if (pt_cmpR (OQ.op_ownNe (ok_Ratio__eq T) (hr.mono (by decide)) T.m_Ratio__eq.at_ T.m_Ratio__eq.fn T.neR T.hmR T.b_Ratio__eq pass0) (pe_op (OQ.op_ownB (ok_Ratio__mul T) (hr.mono (by decide)) T.sfR (T.at_mul) T.m_Ratio__mul.fn T.at_rmul T.ia_mul T.ib_mul T.subIR T.b_Ratio__mul pass0) (pv 9) (pv 11)) (pe_call (ok_law_by_turns T) (hr.mono (by decide)) (by rfl) T.g_law_by_turns T.F_law_by_turns.kp T.b_law_by_turns .nil pass0 (pa_cons (pv 1) (pa_cons (pe_lc (own := [("ratio", 12)]) (g := (gName 12)) (tt := tYes) rfl sc_law.nd (pi_list (pv 4)) (blkOk_by (own := [("ratio", 12)]) (N := ["script", "hand", "pairs", "k", "row", "top", "bottom", "sums", "products", "total", "whole", "factor", "ratio", "at"]) (sc := defScope s_law) (by decide +kernel)) (fun _ _ _ _ _ => (pg_name (i := 12) sc_law.nd rfl (Or.inl rfl))) (fun _ _ _ _ _ => pts_nil) (fun _ _ _ _ _ => (pe_op (OQ.op_ownB (ok_Ratio__mul T) (hr.mono (by decide)) T.sfR (T.at_mul) T.m_Ratio__mul.fn T.at_rmul T.ia_mul T.ib_mul T.subIR T.b_Ratio__mul pass0) (pv 12) (pv 11)))) (pa_cons pe_bl pa_nil)))) (nomark _))
 (pss_one (ps_ret pe_bl))
 pss_nil)
 (C8.pss_cut (ps_for PassesOwn.never rfl (pi_list (pv 4)) (pg_name (i := 12) sc_law.nd rfl (Or.inl rfl))
 (C8.pss_cut (ps_if (PW.pt (pw_or (pt_cmpR (OQ.op_ownNe (ok_Ratio__eq T) (hr.mono (by decide)) T.m_Ratio__eq.at_ T.m_Ratio__eq.fn T.neR T.hmR T.b_Ratio__eq pass0) (pe_op (OQ.op_ownB (ok_Ratio__sub T) (hr.mono (by decide)) T.sfR (T.at_sub) T.m_Ratio__sub.fn T.at_rsub T.ia_sub T.ib_sub T.subIR T.b_Ratio__sub pass0) (pe_op (OQ.op_ownB (ok_Ratio__add T) (hr.mono (by decide)) T.sfR (T.at_add) T.m_Ratio__add.fn T.at_radd T.ia_add T.ib_add T.subIR T.b_Ratio__add pass0) (pv 9) (pv 12)) (pv 12)) (pv 9) (nomark _)) (pw_or (pt_cmpR (OQ.op_ownNe (ok_Ratio__eq T) (hr.mono (by decide)) T.m_Ratio__eq.at_ T.m_Ratio__eq.fn T.neR T.hmR T.b_Ratio__eq pass0) (pe_op (OQ.op_ownB (ok_Ratio__add T) (hr.mono (by decide)) T.sfR (T.at_add) T.m_Ratio__add.fn T.at_radd T.ia_add T.ib_add T.subIR T.b_Ratio__add pass0) (pe_op (OQ.op_ownB (ok_Ratio__sub T) (hr.mono (by decide)) T.sfR (T.at_sub) T.m_Ratio__sub.fn T.at_rsub T.ia_sub T.ib_sub T.subIR T.b_Ratio__sub pass0) (pv 9) (pv 12)) (pv 12)) (pv 9) (nomark _)) (pw_or1 (pt_not (pt_cmpR (OQ.op_ownEq (ok_Ratio__eq T) (hr.mono (by decide)) T.m_Ratio__eq.at_ T.m_Ratio__eq.fn T.b_Ratio__eq pass0) (pe_op (OQ.op_ownB (ok_Ratio__sub T) (hr.mono (by decide)) T.sfR (T.at_sub) T.m_Ratio__sub.fn T.at_rsub T.ia_sub T.ib_sub T.subIR T.b_Ratio__sub pass0) (pv 9) (pv 9)) pe_int (nomark _)))))))
 (pss_one (ps_ret pe_bl))
 pss_nil)
 (C8.pss_cut (ps_if (PW.pt (pw_and (pt_not (pt_cmpR (OQ.op_ownEq (ok_Ratio__eq T) (hr.mono (by decide)) T.m_Ratio__eq.at_ T.m_Ratio__eq.fn T.b_Ratio__eq pass0) (pv 12) pe_int (nomark _))) (pw_and1 (pt_cmpR (OQ.op_ownNe (ok_Ratio__eq T) (hr.mono (by decide)) T.m_Ratio__eq.at_ T.m_Ratio__eq.fn T.neR T.hmR T.b_Ratio__eq pass0) (pe_meth (pe_op (OQ.op_ownB (ok_Ratio__mul T) (hr.mono (by decide)) T.sfR (T.at_mul) T.m_Ratio__mul.fn T.at_rmul T.ia_mul T.ib_mul T.subIR T.b_Ratio__mul pass0) (pv 9) (pv 12)) T.cl_Ratio T.m_Ratio_over (ok_Ratio_over T) (hr.mono (by decide)) T.b_Ratio_over .nil OQ.passN (pa_cons (pv 12) pa_nil)) (pv 9) (nomark _)))))
 (pss_one (ps_ret pe_bl))
 pss_nil)
 (C8.pss_cut (ps_if (pt_cmpR op_ne (pe_bm PySem.F.plainAttrs_list PySem.F.slot_list_count PySem.F.type_list_count OQ.mt_cntB (pe_lst (pa_cons (pe_meth (pv 12) T.cl_Ratio T.m_Ratio_less (ok_Ratio_less T) (hr.mono (by decide)) T.b_Ratio_less .nil OQ.passN (pa_cons (pv 9) pa_nil)) (pa_cons (pe_meth (pv 9) T.cl_Ratio T.m_Ratio_less (ok_Ratio_less T) (hr.mono (by decide)) T.b_Ratio_less .nil OQ.passN (pa_cons (pv 12) pa_nil)) (pa_cons (pe_cmpR (OQ.op_ownEq (ok_Ratio__eq T) (hr.mono (by decide)) T.m_Ratio__eq.at_ T.m_Ratio__eq.fn T.b_Ratio__eq pass0) (pv 12) (pv 9) (nomark _)) pa_nil)))) (pa_cons pe_bl pa_nil)) pe_int (nomark _))
 (pss_one (ps_ret pe_bl))
 pss_nil)
 (pss_one (ps_if (pt_cmpR op_ne (pe_meth (pe_op (OQ.op_ownB (ok_Ratio__add T) (hr.mono (by decide)) T.sfR (T.at_add) T.m_Ratio__add.fn T.at_radd T.ia_add T.ib_add T.subIR T.b_Ratio__add pass0) (pv 12) (pv 11)) T.cl_Ratio T.m_Ratio_less (ok_Ratio_less T) (hr.mono (by decide)) T.b_Ratio_less .nil OQ.passN (pa_cons (pe_op (OQ.op_ownB (ok_Ratio__add T) (hr.mono (by decide)) T.sfR (T.at_add) T.m_Ratio__add.fn T.at_radd T.ia_add T.ib_add T.subIR T.b_Ratio__add pass0) (pv 9) (pv 11)) pa_nil)) (pe_meth (pv 12) T.cl_Ratio T.m_Ratio_less (ok_Ratio_less T) (hr.mono (by decide)) T.b_Ratio_less .nil OQ.passN (pa_cons (pv 9) pa_nil)) (nomark _))
 (pss_one (ps_ret pe_bl))
 pss_nil))))))
 (pss_cons (ps_for PassesOwn.never rfl (pi_range1 (by rfl) T.n_range (pa_cons (pe_callB RD.c_len (by rfl) T.n_len (by decide +kernel) (pa_cons (pv 4) pa_nil)) pa_nil)) (pg_name (i := 13) sc_law.nd rfl (Or.inl rfl))
 (pss_one (ps_if (pt_not (pt_val (pe_call (ok_law_is T) (hr.mono (by decide)) (by rfl) T.g_law_is T.F_law_is.kp T.b_law_is .nil pass0 (pa_cons (pe_ix ix_list (pv 4) (pv 13) (fun _ _ => rfl)) (pa_cons (pe_ix ix_tup (pe_ix ix_list (pv 2) (pv 13) (fun _ _ => rfl)) pe_int (fun _ _ => rfl)) (pa_cons (pe_ix ix_tup (pe_ix ix_list (pv 2) (pv 13) (fun _ _ => rfl)) pe_int (fun _ _ => rfl)) pa_nil))))))
 (pss_one (ps_ret pe_bl))
 pss_nil)))
 (pss_one (ps_ret pe_bl))))))))))))))))), ?_⟩
    walk_at "rd"
    refine ⟨ad, ns, rfl, hS, hl, fun h c H1 hd1 _ _ => ?_⟩
    walk_at "rd"
    refine RD.d_cut (fun σ' H' => ∃ (D : Addr) (ps : List Pr), σ' = [some (.ref ad), some (.ref h), some (.ref D), none, none, none, none, none, none, none, none, none, none, none] ∧ HandAt H' h c ∧ D ≠ h ∧ D ≠ c ∧ H' D = some (.lst (prefs ps)) ∧ 2 ≤ ps.length ∧ ps.length ≤ 12 ∧ ∀ x ∈ ps, PrAt H' x) ?_ ?_
    · walk_at "rd"
      refine ⟨h, c, 11, rfl, hd1, by decide, log_most (by decide) (by decide), fun r H2 r0 r1 hd2 b2 => ?_⟩
      walk_at "rd"
      refine ⟨2 + r, rfl, by omega, by omega, ?_⟩
      intro D hD
      obtain ⟨nh, nc⟩ := handFree hd2 hD
      refine lc_range (lo := 0) (n := (2 + r).toNat) (fun i H' => ∃ ps : List Pr, HandAt H' h c ∧ H' D = some (.lst (prefs ps)) ∧ ps.length = i ∧ ∀ x ∈ ps, PrAt H' x) ?_ ?_ ?_
      · exact ⟨[], handPut hd2 nh nc, upd_same, rfl, fun x hx => by cases hx⟩
      · rintro i H' hi ⟨ps, hd', eD, len, all⟩
        walk_at "rd"
        refine ⟨h, c, rfl, hd', fun t b p H'' ht hb nb hd'' ep np kp => ?_⟩
        have eD' := kp D _ nh eD
        walk_at "rd"
        refine ⟨_, eD', Nat.lt_of_le_of_lt (show (prefs ps).length ≤ 20 by rw [prefs_len]; omega) (by decide), ps ++ [(p, t, b)], handPut hd'' nh nc, ?_, by rw [List.length_append, len]; rfl, fun x hx => ?_⟩
        · rw [upd_same]; unfold prefs; rw [List.map_append]; rfl
        · rcases List.mem_append.mp hx with hx | hx
          · exact ((all x hx).kp hd' kp).put eD'
          · have e : x = (p, t, b) := by simpa using hx
            subst e
            exact PrAt.put ⟨ep, nb, ht, hb⟩ eD'
      · rintro H' ⟨ps, hd', eD, len, all⟩
        walk_at "rd"
        exact ⟨D, ps, rfl, hd', nh, nc, eD, by omega, by omega, all⟩
    rintro σ' H2 ⟨Pa, ps, rfl, hd2, nPh, nPc, eP, pl0, pl1, pall⟩
    have plen := prefs_len ps
    refine RD.d_cut (fun σ' H' => ∃ (R : Addr) (as : List (Addr × Rat)), σ' = [some (.ref ad), some (.ref h), some (.ref Pa), none, some (.ref R), none, none, none, none, none, none, none, none, none] ∧ Gx T.C_Ratio h c Pa R H' ps as [] ∧ rats as = vals ps) ?_ ?_
    · walk_at "rd"
      intro D hD
      obtain ⟨nh, nc⟩ := handFree hd2 hD
      have nP : D ≠ Pa := (ne_of_none eP hD).symm
      refine lc_list (K := K) (a := Pa) (xs := prefs ps) (fun i H' => ∃ as : List (Addr × Rat), Gx T.C_Ratio h c Pa D H' ps as [] ∧ rats as = vals (ps.take i)) ?_ ?_ ?_ ?_
      · refine ⟨[], ⟨handPut hd2 nh nc, nPh, nh, by rw [upd_ne (Ne.symm nP)]; exact eP, upd_same, fun x hx => ?_, (fun x hx => nomatch hx), (fun x hx => nomatch hx)⟩, by simp [rats, vals]⟩
        obtain ⟨p1, p2⟩ := pall x hx
        exact ⟨by rw [upd_ne (ne_of_none p1 hD)]; exact p1, p2⟩
      · rintro i H' _ ⟨as, g, _⟩
        exact SqL.of g.atP
      · rintro i x H' hi ⟨as, g, ev⟩
        have il : i < ps.length := by have := (List.getElem?_eq_some_iff.mp hi).1; omega
        have hx : ps[i]? = some ps[i] := List.getElem?_eq_getElem il
        have e := prefs_get hx
        rw [e] at hi
        have hi' := Option.some.inj hi
        subst hi'
        obtain ⟨p1, p2, p3, p4⟩ := g.prs _ (List.getElem_mem il)
        refine d_gtupN (SqT.of p1) ?_
        walk_at "rd"
        refine mk_rat T p2 (log_most' p4) (fun z H5 s5 nz hz => ?_)
        have g5 := g.same s5
        walk_at "rd"
        refine ⟨_, g5.atR, Nat.lt_of_le_of_lt (show (refs as).length ≤ 20 by rw [refs_len, ← rats_len, ev]; unfold vals; rw [List.length_map, List.length_take]; omega) (by decide), as ++ [(z, val ps[i])], ⟨handPut g5.hd nh nc, nPh, nh, by rw [upd_ne (Ne.symm nP)]; exact g5.atP, ?_, fun x hx => (g5.prs x hx).put g5.atR, fun x hx => ?_, (fun x hx => nomatch hx)⟩, ?_⟩
        · rw [upd_same]; unfold refs; rw [List.map_append]; rfl
        · rcases List.mem_append.mp hx with hx | hx
          · exact ratUpd (g5.rts x hx) g5.atR
          · have e : x = (z, val ps[i]) := by simpa using hx
            subst e
            exact ratUpd hz g5.atR
        · rw [List.take_succ, hx]
          unfold rats vals at *
          rw [List.map_append, List.map_append, ev]; rfl
      · rintro H' ⟨as, g, ev⟩
        walk_at "rd"
        refine ⟨D, as, rfl, g, ?_⟩
        rw [ev, plen, List.take_length]
    clear hd2 eP pall
    rintro σ' H3 ⟨R, as, rfl, g, ev⟩
    have alen : as.length = ps.length := by
      have := rats_len as
      rw [ev] at this; unfold vals at this; rw [List.length_map] at this; omega
    have szq : ∀ q ∈ rats as, MX.sz q ≤ 1024 := by rw [ev]; exact vals_sz fun x hx => (g.prs x hx).2
    have big : MX.szs (rats as) ≤ 2 ^ 120 := by
      refine Nat.le_trans (MX.szs_le szq) ?_
      rw [rats_len]
      exact Nat.le_trans (Nat.pow_le_pow_right (by decide) (show as.length ≤ 12 by omega)) (by decide)
    have small : MX.szs (rats as) < 2 ^ 1000 := Nat.lt_of_le_of_lt big (Nat.pow_lt_pow_right (by decide) (by decide))
    have rl := refs_len as
    have bdc : ∀ b, Bd 130 (MX.cmb b (rats as)) := fun b => bd_sz (Nat.lt_of_le_of_lt (MX.sz_cmb b (rats as)) (Nat.lt_of_le_of_lt (Nat.mul_le_mul_left 2 big) (by decide)))
    walk_at "rd"
    refine ⟨by show 2 ≤ sizeLine; decide, fun pS hpS => ?_⟩
    have g2 := g.same (same_upd (o := HO.tup [.int 0, .int 1]) hpS)
    have eS2 : upd H3 pS (.tup [.int 0, .int 1]) pS = some (.tup [.int 0, .int 1]) := upd_same
    generalize upd H3 pS (.tup [.int 0, .int 1]) = H4 at *
    clear g hpS
    walk_at "rd"
    refine ⟨by show 2 ≤ sizeLine; decide, fun pP hpP => ?_⟩
    have sP := same_upd (o := HO.tup [.int 1, .int 1]) hpP
    have g3 := g2.same sP
    have eS3 := sP _ _ eS2
    have eP3 : upd H4 pP (.tup [.int 1, .int 1]) pP = some (.tup [.int 1, .int 1]) := upd_same
    generalize upd H4 pP (.tup [.int 1, .int 1]) = H5 at *
    clear g2 hpP eS2 sP
    walk_at "rd"
    refine RD.d_cut (fun σ' H' => ∃ (v5 v6 : Option V) (qS qP : Addr) (N1 D1 N2 D2 : Int), σ' = [some (.ref ad), some (.ref h), some (.ref Pa), none, some (.ref R), v5, v6, some (.ref qS), some (.ref qP), none, none, none, none, none] ∧ Gx T.C_Ratio h c Pa R H' ps as [] ∧ H' qS = some (.tup [.int N1, .int D1]) ∧ H' qP = some (.tup [.int N2, .int D2]) ∧ Acc true ps.length N1 D1 (rats as) ∧ Acc false ps.length N2 D2 (rats as)) ?_ ?_
    · walk_at "rd"
      refine RD.d_refL (SqL.of g3.atP) ?_
      refine RD.f_list (K := K) (a := Pa) (xs := prefs ps) (fun i σ' H' => ∃ (v5 v6 : Option V) (qS qP : Addr) (N1 D1 N2 D2 : Int), σ' = [some (.ref ad), some (.ref h), some (.ref Pa), none, some (.ref R), v5, v6, some (.ref qS), some (.ref qP), none, none, none, none, none] ∧ Gx T.C_Ratio h c Pa R H' ps as [] ∧ H' qS = some (.tup [.int N1, .int D1]) ∧ H' qP = some (.tup [.int N2, .int D2]) ∧ Acc true i N1 D1 (rats as) ∧ Acc false i N2 D2 (rats as)) ?_ ?_ ?_ ?_
      · refine ⟨none, none, pS, pP, 0, 1, 1, 1, rfl, g3, eS3, eP3, ⟨by decide, by decide, ?_⟩, ⟨by decide, by decide, ?_⟩⟩
        · show Rat.divInt 0 1 + MX.cmb true (rats as) = _
          rw [show Rat.divInt 0 1 = 0 from rfl, Rat.zero_add]
        · show Rat.divInt 1 1 * MX.cmb false (rats as) = _
          rw [show Rat.divInt 1 1 = 1 from rfl, Rat.one_mul]
      · rintro i σ' H' _ ⟨_, _, _, _, _, _, _, _, _, g, _⟩
        exact SqL.of g.atP
      · rintro i x σ' H' hi ⟨v5, v6, qS, qP, N1, D1, N2, D2, rfl, g, eS, eP, a1, a2⟩
        have il : i < ps.length := by have := (List.getElem?_eq_some_iff.mp hi).1; omega
        have hx : ps[i]? = some ps[i] := List.getElem?_eq_getElem il
        have e := prefs_get hx
        have hv := vals_get hx
        rw [← ev] at hv
        rw [e] at hi
        have hi' := Option.some.inj hi
        subst hi'
        obtain ⟨p1, p2, p3, p4⟩ := g.prs _ (List.getElem_mem il)
        generalize ps[i] = pr at *
        obtain ⟨pa, t, b⟩ := pr
        have b1 := a1.bds (by omega)
        have b2 := a2.bds (by omega)
        have bt : t.natAbs < 2 ^ 10 := Nat.lt_of_le_of_lt p3 (by decide)
        have bb : b.natAbs < 2 ^ 10 := Nat.lt_of_le_of_lt p4 (by decide)
        refine d_gtupN (SqT.of p1) ?_
        walk_at "rd"
        refine RD.d_rI (wm b1.1 bb (by decide) (by decide) (by decide)) ?_
        walk_at "rd"
        refine RD.d_rI (wm bt b1.2 (by decide) (by decide) (by decide)) ?_
        walk_at "rd"
        refine RD.d_rI (wm b1.2 bb (by decide) (by decide) (by decide)) ?_
        walk_at "rd"
        refine ⟨by show 2 ≤ sizeLine; decide, fun uS huS => ?_⟩
        have s1 := same_upd (o := HO.tup [.int (N1 * b + t * D1), .int (D1 * b)]) huS
        have g1 := g.same s1
        have eP1 := s1 _ _ eP
        have eU : upd H' uS (HO.tup [.int (N1 * b + t * D1), .int (D1 * b)]) uS = some (HO.tup [.int (N1 * b + t * D1), .int (D1 * b)]) := upd_same
        generalize upd H' uS (HO.tup [.int (N1 * b + t * D1), .int (D1 * b)]) = H6 at *
        walk_at "rd"
        refine RD.d_rI (wm b2.1 bt (by decide) (by decide) (by decide)) ?_
        walk_at "rd"
        refine RD.d_rI (wm b2.2 bb (by decide) (by decide) (by decide)) ?_
        walk_at "rd"
        refine ⟨by show 2 ≤ sizeLine; decide, fun uP huP => ?_⟩
        have s2 := same_upd (o := HO.tup [.int (N2 * t), .int (D2 * b)]) huP
        walk_at "rd"
        exact ⟨_, _, uS, uP, _, _, _, _, rfl, g1.same s2, s2 _ _ eU, upd_same, a1.sum hv p2 p3 p4, a2.prod hv p2 p3 p4⟩
      · rintro σ' H' ⟨v5, v6, qS, qP, N1, D1, N2, D2, rfl, g, eS, eP, a1, a2⟩
        rw [plen] at a1 a2
        exact ⟨v5, v6, qS, qP, N1, D1, N2, D2, rfl, g, eS, eP, a1, a2⟩
    clear g3 eS3 eP3
    rintro σ' H6 ⟨v5, v6, qS, qP, N1, D1, N2, D2, rfl, g, eS, eP, a1, a2⟩
    have rlen := rats_len as
    have q1 := a1.done (by omega)
    have q2 := a2.done (by omega)
    have bd1 := a1.bds (by omega)
    have bd2 := a2.bds (by omega)
    walk_at "rd"
    refine ⟨h, c, R, as, true, rfl, g.hd, g.atR, g.rts, by omega, by omega, small, fun tot H7 hd7 kp7 rt7 _ => ?_⟩
    have g7 := (g.kp hd7 kp7).add rt7
    have eS7 := tupKp eS g.hd kp7
    have eP7 := tupKp eP g.hd kp7
    clear rt7 g eS eP
    walk_at "rd"
    refine RD.d_cut (fun σ' H' => σ' = [some (.ref ad), some (.ref h), some (.ref Pa), none, some (.ref R), v5, v6, some (.ref qS), some (.ref qP), some (.ref tot), none, none, none, none] ∧ Gx T.C_Ratio h c Pa R H' ps as [(tot, MX.cmb true (rats as))] ∧ H' qP = some (.tup [.int N2, .int D2])) ?_ ?_
    · walk_at "rd"
      have rt := g7.mor _ (List.mem_singleton.mpr rfl)
      refine ⟨tot, N1, D1, _, rfl, rt, (bdc true).mono (by decide), a1.1, up2 bd1.1 (by decide), up2 bd1.2 (by decide), q1.symm, ?_⟩
      walk_at "rd"
      refine ⟨h, c, R, as, true, rfl, g7.hd, g7.atR, g7.rts, by omega, by omega, small, fun z H8 hd8 kp8 rz _ => ?_⟩
      have g8 := g7.kp hd8 kp8
      have eP8 := tupKp eP7 g7.hd kp8
      walk_at "rd"
      refine ne_rr T rz (g8.mor _ (List.mem_singleton.mpr rfl)) rfl ?_
      walk_at "rd"
      refine ⟨R, refs as, fun i t H' => ∃ v, Same H8 H' ∧ (0 < i → ∃ a, t = .ref a ∧ RatAt T.C_Ratio H' a v) ∧ (i = 0 → t = .int 0 ∧ v = 0) ∧ MX.opR true v (MX.cmb true ((rats as).drop i)) = MX.cmb true (rats as) ∧ MX.sz v * MX.szs ((rats as).drop i) ≤ MX.szs (rats as), rfl, ?_, ?_, ?_, ?_, ?_, ?_⟩
      · intro x hx
        obtain ⟨y, _, rfl⟩ := List.mem_map.mp hx
        exact ⟨_, rfl⟩
      · exact ⟨0, fun _ _ e => e, fun z => absurd z (Nat.lt_irrefl _), fun _ => ⟨rfl, rfl⟩, Rat.zero_add _, Nat.le_of_eq (Nat.one_mul _)⟩
      · rintro i t H' ⟨v, s', _⟩
        exact SqL.of (s' _ _ g8.atR)
      · rintro i t H' ⟨v, _, f, _⟩
        obtain ⟨a, e, _⟩ := f (Nat.succ_pos _)
        exact ⟨a, e⟩
      · rintro i x t H' hx ⟨v, s', f1, f0, e1, e2⟩
        have il : i < as.length := by have := (List.getElem?_eq_some_iff.mp hx).1; omega
        have hg : as[i]? = some as[i] := List.getElem?_eq_getElem il
        have e := refs_get hg
        have hv := rats_get hg
        rw [e] at hx
        have hx' := Option.some.inj hx
        subst hx'
        have ra := (g8.rts _ (List.getElem_mem il)).same s'
        generalize as[i] = pr at *
        obtain ⟨a, q⟩ := pr
        have e1' := acc_next hv e1
        rw [drop_at hv] at e2
        have e2' : MX.sz v * (MX.sz q * MX.szs ((rats as).drop (i + 1))) ≤ MX.szs (rats as) := e2
        have p1 := MX.sz_pos v
        have p2 := MX.sz_pos q
        have p3 := MX.szs_pos ((rats as).drop (i + 1))
        have bv : Bd 2000 v := (bd_sz (n := 1000) (Nat.lt_of_le_of_lt (Nat.le_trans (Nat.le_mul_of_pos_right _ (Nat.mul_pos p2 p3)) e2') small)).mono (by decide)
        have bq : Bd 2000 q := (bd_sz (n := 1000) (Nat.lt_of_le_of_lt (Nat.le_trans (Nat.le_mul_of_pos_right _ (Nat.mul_pos p1 p3)) (by rw [Nat.mul_left_comm] at e2'; exact e2')) small)).mono (by decide)
        have zn : MX.sz (MX.opR true v q) * MX.szs ((rats as).drop (i + 1)) ≤ MX.szs (rats as) := Nat.le_trans (Nat.mul_le_mul_right _ (MX.sz_op true v q)) (by rw [Nat.mul_assoc]; exact e2')
        have nxt : ∀ z' H'', Same H' H'' → RatAt T.C_Ratio H'' z' (v + q) → ∃ v', Same H8 H'' ∧ (0 < i + 1 → ∃ a, V.ref z' = .ref a ∧ RatAt T.C_Ratio H'' a v') ∧ (i + 1 = 0 → V.ref z' = .int 0 ∧ v' = 0) ∧ MX.opR true v' (MX.cmb true ((rats as).drop (i + 1))) = MX.cmb true (rats as) ∧ MX.sz v' * MX.szs ((rats as).drop (i + 1)) ≤ MX.szs (rats as) :=
          fun z' H'' s'' r'' => ⟨v + q, s'.trans s'', fun _ => ⟨z', rfl, r''⟩, fun z => by omega, e1', zn⟩
        by_cases i0 : i = 0
        · obtain ⟨rfl, rfl⟩ := f0 i0
          obtain ⟨dx, ea⟩ := id ra
          exact .inr ⟨0, a, dx, _, rfl, rfl, ea, a, .int 0, q, 0, rfl, ra, .inr ⟨0, rfl, rfl⟩, bq, bv, fun z' H'' s'' r'' => nxt z' H'' s'' r''⟩
        · obtain ⟨a', rfl, ra'⟩ := f1 (Nat.pos_of_ne_zero i0)
          exact .inl (own_op ra' ra bv bq fun z' H'' s'' r'' => nxt z' H'' s'' r'')
      · rintro t H' ⟨v, s', f1, _, e1, _⟩
        obtain ⟨a, rfl, ra⟩ := f1 (by omega)
        rw [rl, ← rlen, List.drop_length] at e1
        have e1' : v = MX.cmb true (rats as) := by rw [← e1]; exact (MX.opR_un true v).symm
        rw [e1'] at ra
        have g9 := g8.same s'
        walk_at "rd"
        refine ne_rr T ra (g9.mor _ (List.mem_singleton.mpr rfl)) rfl ?_
        walk_at "rd"
        exact ⟨rfl, g9, s' _ _ eP8⟩
    clear g7 eS7 eP7
    rintro σ' H8 ⟨rfl, g, eP⟩
    walk_at "rd"
    refine ⟨h, c, R, as, false, rfl, g.hd, g.atR, g.rts, by omega, by omega, small, fun who H9 hd9 kp9 rt9 _ => ?_⟩
    have g9 := g.kp hd9 kp9
    have eP9 := tupKp eP g.hd kp9
    clear g eP
    walk_at "rd"
    refine RD.d_cut (fun σ' H' => ∃ (v7 v8 v10 : Option V), σ' = [some (.ref ad), some (.ref h), some (.ref Pa), none, some (.ref R), v5, v6, v7, v8, some (.ref tot), v10, none, none, none] ∧ Gx T.C_Ratio h c Pa R H' ps as [(tot, MX.cmb true (rats as))]) ?_ ?_
    · walk_at "rd"
      refine ⟨who, N2, D2, _, rfl, rt9, (bdc false).mono (by decide), a2.1, up2 bd2.1 (by decide), up2 bd2.2 (by decide), q2.symm, ?_⟩
      walk_at "rd"
      refine ⟨h, c, R, as, false, rfl, g9.hd, g9.atR, g9.rts, by omega, by omega, small, fun z H10 hd10 kp10 rz _ => ?_⟩
      walk_at "rd"
      refine ne_rr T rz (ratKp rt9 g9.hd kp10) rfl ?_
      walk_at "rd"
      exact ⟨_, _, _, rfl, g9.kp hd10 kp10⟩
    clear g9 rt9 eP9
    rintro σ' H9 ⟨v7, v8, v10, rfl, g⟩
    have eR9 := g.atR
    walk_at "rd"
    refine ⟨h, c, _, rfl, g.hd, by omega, log_small (by omega) (by omega), fun ri H10 r0 r1 hd10 b10 => ?_⟩
    have g10 := g.kp hd10 b10.kp
    clear g eR9
    obtain ⟨⟨fa, f⟩, gf⟩ : ∃ x, as[ri.toNat]? = some x := ⟨_, List.getElem?_eq_getElem (by omega)⟩
    have hat : atI (refs as) ri = some (V.ref fa) := by
      have z := atI_nat (refs_get gf)
      rwa [Int.toNat_of_nonneg r0] at z
    have rf := g10.rts _ (List.mem_of_getElem? gf)
    have zf : MX.sz f ≤ 1024 := szq _ (List.mem_map.mpr ⟨_, List.mem_of_getElem? gf, rfl⟩)
    have bf : Bd 2000 f := (bd_sz (n := 11) (Nat.lt_of_le_of_lt zf (by decide))).mono (by decide)
    have bS : Bd 2000 (MX.cmb true (rats as)) := (bdc true).mono (by decide)
    refine RD.d_ixL (SqL.of g10.atR) hat ?_
    walk_at "rd"
    have gA := g10.add rf
    clear g10 rf
    refine RD.d_cut (fun σ' H' => σ' = [some (.ref ad), some (.ref h), some (.ref Pa), none, some (.ref R), v5, v6, v7, v8, some (.ref tot), v10, some (.ref fa), none, none] ∧ Gx T.C_Ratio h c Pa R H' ps as [(fa, f), (tot, MX.cmb true (rats as))]) ?_ ?_
    · have rf0 := gA.mor (fa, f) List.mem_cons_self
      have rt0 := gA.mor (tot, MX.cmb true (rats as)) (List.mem_cons_of_mem _ List.mem_cons_self)
      walk_at "rd"
      refine own_op rf0 rt0 bf bS (fun z1 HA sA rz1 => ?_)
      have gB := (gA.same sA).add rz1
      walk_at "rd"
      refine RD.d_refL (SqL.of gB.atR) ?_
      intro D hD
      obtain ⟨nh, nc, nP, nR⟩ := gB.free hD
      refine lc_list (K := K) (a := R) (xs := refs as) (fun i H' => ∃ fs : List (Addr × Rat), Gx T.C_Ratio h c Pa R H' ps as [(z1, f * MX.cmb true (rats as)), (fa, f), (tot, MX.cmb true (rats as))] ∧ H' D = some (.lst (refs fs)) ∧ (∀ x ∈ fs, RatAt T.C_Ratio H' x.1 x.2) ∧ rats fs = ((rats as).take i).map fun q => f * q) ?_ ?_ ?_ ?_
      · exact ⟨[], gB.same (same_upd hD), upd_same, (fun x hx => nomatch hx), (by simp [rats])⟩
      · rintro i H' _ ⟨fs, gC, _⟩
        exact SqL.of gC.atR
      · rintro i x H' hx ⟨fs, gC, eD, rfs, efs⟩
        have il : i < as.length := by have := (List.getElem?_eq_some_iff.mp hx).1; omega
        have hg : as[i]? = some as[i] := List.getElem?_eq_getElem il
        have e := refs_get hg
        have hv := rats_get hg
        rw [e] at hx
        have hx' := Option.some.inj hx
        subst hx'
        have rq := gC.rts _ (List.getElem_mem il)
        have zq : MX.sz as[i].2 ≤ 1024 := szq _ (List.mem_map.mpr ⟨_, List.getElem_mem il, rfl⟩)
        generalize as[i] = pr at *
        obtain ⟨a, q⟩ := pr
        have bq : Bd 2000 q := (bd_sz (n := 11) (Nat.lt_of_le_of_lt zq (by decide))).mono (by decide)
        have rfE := gC.mor (fa, f) (List.mem_cons_of_mem _ List.mem_cons_self)
        walk_at "rd"
        refine own_op rfE rq bf bq (fun z H'' s'' rz => ?_)
        have eD' := s'' _ _ eD
        have gD := gC.same s''
        walk_at "rd"
        refine ⟨_, eD', Nat.lt_of_le_of_lt (show (refs fs).length ≤ 20 by rw [refs_len, ← rats_len, efs, List.length_map, List.length_take]; omega) (by decide), fs ++ [(z, f * q)], gD.put nh nc nP nR eD', ?_, fun x hx => ?_, ?_⟩
        · rw [upd_same]; unfold refs; rw [List.map_append]; rfl
        · rcases List.mem_append.mp hx with hx | hx
          · exact ratUpd ((rfs x hx).same s'') eD'
          · have e : x = (z, f * q) := by simpa using hx
            subst e
            exact ratUpd rz eD'
        · rw [List.take_succ, hv]
          unfold rats at *
          rw [List.map_append, List.map_append, efs]; rfl
      · rintro H' ⟨fs, gC, eD, rfs, efs⟩
        rw [rl, ← rlen, List.take_length] at efs
        have lfs : fs.length = as.length := by rw [← rats_len, efs, List.length_map, rlen]
        have zfs : MX.szs (rats fs) < 2 ^ 1000 := by
          have z0 : ∀ x ∈ rats fs, MX.sz x ≤ 2 ^ 20 := by
            intro x hx
            rw [efs] at hx
            obtain ⟨q, hq, rfl⟩ := List.mem_map.mp hx
            exact Nat.le_trans (MX.sz_op false f q) (Nat.le_trans (Nat.mul_le_mul zf (szq q hq)) (by decide))
          refine Nat.lt_of_le_of_lt (MX.szs_le z0) ?_
          rw [rats_len]
          exact Nat.lt_of_le_of_lt (Nat.pow_le_pow_right (by decide) (show fs.length ≤ 12 by omega)) (by decide)
        walk_at "rd"
        refine ⟨h, c, D, fs, true, rfl, gC.hd, eD, rfs, by omega, by omega, zfs, fun z2 HE hdE kpE rz2 _ => ?_⟩
        have gE := gC.kp hdE kpE
        rw [efs, MX.cmb_mulL] at rz2
        walk_at "rd"
        refine ne_rr T (gE.mor (z1, f * MX.cmb true (rats as)) List.mem_cons_self) rz2 rfl ?_
        walk_at "rd"
        exact ⟨rfl, gE.hd, gE.nP, gE.nR, gE.atP, gE.atR, gE.prs, gE.rts, fun x hx => gE.mor x (List.mem_cons_of_mem _ hx)⟩
    clear gA
    rintro σ' HF ⟨rfl, gA⟩
    refine RD.d_cut (fun σ' H' => σ' = [some (.ref ad), some (.ref h), some (.ref Pa), none, some (.ref R), v5, v6, v7, v8, some (.ref tot), v10, some (.ref fa), none, none] ∧ Gx T.C_Ratio h c Pa R H' ps as [(fa, f), (tot, MX.cmb true (rats as))]) ?_ ?_
    · have rf0 := gA.mor (fa, f) List.mem_cons_self
      have rt0 := gA.mor (tot, MX.cmb true (rats as)) (List.mem_cons_of_mem _ List.mem_cons_self)
      walk_at "rd"
      refine own_op rt0 rf0 bS bf (fun z1 HA sA rz1 => ?_)
      have gB := (gA.same sA).add rz1
      walk_at "rd"
      refine RD.d_refL (SqL.of gB.atR) ?_
      intro D hD
      obtain ⟨nh, nc, nP, nR⟩ := gB.free hD
      refine lc_list (K := K) (a := R) (xs := refs as) (fun i H' => ∃ fs : List (Addr × Rat), Gx T.C_Ratio h c Pa R H' ps as [(z1, MX.cmb true (rats as) * f), (fa, f), (tot, MX.cmb true (rats as))] ∧ H' D = some (.lst (refs fs)) ∧ (∀ x ∈ fs, RatAt T.C_Ratio H' x.1 x.2) ∧ rats fs = ((rats as).take i).map fun q => q * f) ?_ ?_ ?_ ?_
      · exact ⟨[], gB.same (same_upd hD), upd_same, (fun x hx => nomatch hx), (by simp [rats])⟩
      · rintro i H' _ ⟨fs, gC, _⟩
        exact SqL.of gC.atR
      · rintro i x H' hx ⟨fs, gC, eD, rfs, efs⟩
        have il : i < as.length := by have := (List.getElem?_eq_some_iff.mp hx).1; omega
        have hg : as[i]? = some as[i] := List.getElem?_eq_getElem il
        have e := refs_get hg
        have hv := rats_get hg
        rw [e] at hx
        have hx' := Option.some.inj hx
        subst hx'
        have rq := gC.rts _ (List.getElem_mem il)
        have zq : MX.sz as[i].2 ≤ 1024 := szq _ (List.mem_map.mpr ⟨_, List.getElem_mem il, rfl⟩)
        generalize as[i] = pr at *
        obtain ⟨a, q⟩ := pr
        have bq : Bd 2000 q := (bd_sz (n := 11) (Nat.lt_of_le_of_lt zq (by decide))).mono (by decide)
        have rfE := gC.mor (fa, f) (List.mem_cons_of_mem _ List.mem_cons_self)
        walk_at "rd"
        refine own_op rq rfE bq bf (fun z H'' s'' rz => ?_)
        have eD' := s'' _ _ eD
        have gD := gC.same s''
        walk_at "rd"
        refine ⟨_, eD', Nat.lt_of_le_of_lt (show (refs fs).length ≤ 20 by rw [refs_len, ← rats_len, efs, List.length_map, List.length_take]; omega) (by decide), fs ++ [(z, q * f)], gD.put nh nc nP nR eD', ?_, fun x hx => ?_, ?_⟩
        · rw [upd_same]; unfold refs; rw [List.map_append]; rfl
        · rcases List.mem_append.mp hx with hx | hx
          · exact ratUpd ((rfs x hx).same s'') eD'
          · have e : x = (z, q * f) := by simpa using hx
            subst e
            exact ratUpd rz eD'
        · rw [List.take_succ, hv]
          unfold rats at *
          rw [List.map_append, List.map_append, efs]; rfl
      · rintro H' ⟨fs, gC, eD, rfs, efs⟩
        rw [rl, ← rlen, List.take_length] at efs
        have lfs : fs.length = as.length := by rw [← rats_len, efs, List.length_map, rlen]
        have zfs : MX.szs (rats fs) < 2 ^ 1000 := by
          have z0 : ∀ x ∈ rats fs, MX.sz x ≤ 2 ^ 20 := by
            intro x hx
            rw [efs] at hx
            obtain ⟨q, hq, rfl⟩ := List.mem_map.mp hx
            exact Nat.le_trans (MX.sz_op false q f) (Nat.le_trans (Nat.mul_le_mul (szq q hq) zf) (by decide))
          refine Nat.lt_of_le_of_lt (MX.szs_le z0) ?_
          rw [rats_len]
          exact Nat.lt_of_le_of_lt (Nat.pow_le_pow_right (by decide) (show fs.length ≤ 12 by omega)) (by decide)
        walk_at "rd"
        refine ⟨h, c, D, fs, true, rfl, gC.hd, eD, rfs, by omega, by omega, zfs, fun z2 HE hdE kpE rz2 _ => ?_⟩
        have gE := gC.kp hdE kpE
        rw [efs, MX.cmb_mulR] at rz2
        walk_at "rd"
        refine ne_rr T (gE.mor (z1, MX.cmb true (rats as) * f) List.mem_cons_self) rz2 rfl ?_
        walk_at "rd"
        exact ⟨rfl, gE.hd, gE.nP, gE.nR, gE.atP, gE.atR, gE.prs, gE.rts, fun x hx => gE.mor x (List.mem_cons_of_mem _ hx)⟩
    clear gA
    rintro σ' HF ⟨rfl, gA⟩
    walk_at "rd"
    refine RD.d_cut (fun σ' H' => ∃ v12 : Option V, σ' = [some (.ref ad), some (.ref h), some (.ref Pa), none, some (.ref R), v5, v6, v7, v8, some (.ref tot), v10, some (.ref fa), v12, none] ∧ Gx T.C_Ratio h c Pa R H' ps as [(fa, f), (tot, MX.cmb true (rats as))]) ?_ ?_
    · walk_at "rd"
      refine RD.d_refL (SqL.of gA.atR) ?_
      refine RD.f_list (K := K) (a := R) (xs := refs as) (fun i σ' H' => ∃ v12 : Option V, σ' = [some (.ref ad), some (.ref h), some (.ref Pa), none, some (.ref R), v5, v6, v7, v8, some (.ref tot), v10, some (.ref fa), v12, none] ∧ Gx T.C_Ratio h c Pa R H' ps as [(fa, f), (tot, MX.cmb true (rats as))]) ⟨_, rfl, gA⟩ ?_ ?_ ?_
      · rintro i σ' H' _ ⟨_, _, g⟩
        exact SqL.of g.atR
      · rintro i x σ' HG hx ⟨v12, rfl, gG⟩
        have il : i < as.length := by have := (List.getElem?_eq_some_iff.mp hx).1; omega
        have hg : as[i]? = some as[i] := List.getElem?_eq_getElem il
        have e := refs_get hg
        rw [e] at hx
        have hx' := Option.some.inj hx
        subst hx'
        have mem : as[i] ∈ as := List.getElem_mem il
        have zq : MX.sz as[i].2 ≤ 1024 := szq _ (List.mem_map.mpr ⟨_, mem, rfl⟩)
        generalize as[i] = pr at *
        obtain ⟨a, q⟩ := pr
        have bq : Bd 2000 q := (bd_sz (n := 11) (Nat.lt_of_le_of_lt zq (by decide))).mono (by decide)
        have zS : MX.sz (MX.cmb true (rats as)) < 2 ^ 130 := Nat.lt_of_le_of_lt (MX.sz_cmb true (rats as)) (Nat.lt_of_le_of_lt (Nat.mul_le_mul_left 2 big) (by decide))
        have b2 : ∀ b x y, MX.sz x < 2 ^ 130 → MX.sz y < 2 ^ 130 → Bd 2000 (MX.opR b x y) := fun b x y hx hy => (bd_sz (n := 260) (Nat.lt_of_le_of_lt (MX.sz_op b x y) (Nat.lt_of_lt_of_le (Nat.mul_lt_mul'' hx hy) (by decide)))).mono (by decide)
        have zq' : MX.sz q < 2 ^ 130 := Nat.lt_of_le_of_lt zq (by decide)
        have zf' : MX.sz f < 2 ^ 130 := Nat.lt_of_le_of_lt zf (by decide)
        have bSq : Bd 2000 (MX.cmb true (rats as) + q) := b2 true _ _ zS zq'
        have bSm : Bd 2000 (MX.cmb true (rats as) - q) := by rw [Rat.sub_eq_add_neg]; exact b2 true _ _ zS (by rw [MX.sz_neg]; exact zq')
        have bSt : Bd 2000 (MX.cmb true (rats as) * q) := b2 false _ _ zS zq'
        have bqf : Bd 2000 (q + f) := b2 true _ _ zq' zf'
        have bSf : Bd 2000 (MX.cmb true (rats as) + f) := b2 true _ _ zS zf'
        walk_at "rd"
        refine RD.d_cut (fun σ' H' => σ' = [some (.ref ad), some (.ref h), some (.ref Pa), none, some (.ref R), v5, v6, v7, v8, some (.ref tot), v10, some (.ref fa), some (.ref a), none] ∧ Gx T.C_Ratio h c Pa R H' ps as [(fa, f), (tot, MX.cmb true (rats as))]) ?_ ?_
        · have rt : RatAt T.C_Ratio HG tot (MX.cmb true (rats as)) := gG.mor (tot, MX.cmb true (rats as)) (List.mem_cons_of_mem _ List.mem_cons_self)
          have rq : RatAt T.C_Ratio HG a q := gG.rts _ mem
          walk_at "rd"
          refine own_op rt rq bS bq (fun z1 H1' s1 rz1 => ?_)
          have s1' := s1
          walk_at "rd"
          refine own_op rz1 (rq.same s1) bSq bq (fun z2 H2' s2 rz2 => ?_)
          have s2' := s1'.trans s2
          walk_at "rd"
          refine ne_rr T rz2 (rt.same s2') (MX.add_sub' _ _) ?_
          walk_at "rd"
          refine own_op (rt.same s2') (rq.same s2') bS bq (fun z3 H3' s3 rz3 => ?_)
          have s3' := s2'.trans s3
          walk_at "rd"
          refine own_op rz3 (rq.same s3') bSm bq (fun z4 H4' s4 rz4 => ?_)
          have s4' := s3'.trans s4
          walk_at "rd"
          refine ne_rr T rz4 (rt.same s4') (MX.sub_add' _ _) ?_
          walk_at "rd"
          refine own_op (rt.same s4') (rt.same s4') bS bS (fun z5 H5' s5 rz5 => ?_)
          have s5' := s4'.trans s5
          walk_at "rd"
          refine eq_ri T rz5 ?_
          rw [decide_eq_true (show MX.cmb true (rats as) - MX.cmb true (rats as) = ((0 : Int) : Rat) by rw [MX.sub_self']; rfl)]
          walk_at "rd"
          exact ⟨rfl, gG.same s5'⟩
        clear gG
        rintro σ' HG ⟨rfl, gG⟩
        refine RD.d_cut (fun σ' H' => σ' = [some (.ref ad), some (.ref h), some (.ref Pa), none, some (.ref R), v5, v6, v7, v8, some (.ref tot), v10, some (.ref fa), some (.ref a), none] ∧ Gx T.C_Ratio h c Pa R H' ps as [(fa, f), (tot, MX.cmb true (rats as))]) ?_ ?_
        · have rt : RatAt T.C_Ratio HG tot (MX.cmb true (rats as)) := gG.mor (tot, MX.cmb true (rats as)) (List.mem_cons_of_mem _ List.mem_cons_self)
          have rq : RatAt T.C_Ratio HG a q := gG.rts _ mem
          walk_at "rd"
          refine eq_ri T rq ?_
          walk_at "rd"
          refine RD.iteN (fun nz0 => ?_) (fun _ => ?_)
          · have nz : q ≠ 0 := fun z => nz0 (by rw [z]; rfl)
            walk_at "rd"
            refine own_op rt rq bS bq (fun z1 H1' s1 rz1 => ?_)
            obtain ⟨dx, ex⟩ := id rz1
            walk_at "rd"
            refine ⟨z1, dx, _, rfl, ex, lk_no (by decide +kernel) (by decide +kernel), ?_⟩
            walk_at "rd"
            refine ⟨z1, .ref a, _, rfl, rz1, bSt, .inl ⟨q, .inl ⟨a, rfl, rq.same s1⟩, bq, nz, fun z2 H2' s2 rz2 => ?_⟩⟩
            walk_at "rd"
            refine ne_rr T rz2 ((rt.same s1).same s2) (MX.mul_div' nz) ?_
            walk_at "rd"
            exact ⟨rfl, (gG.same s1).same s2⟩
          · walk_at "rd"
            exact ⟨rfl, gG⟩
        clear gG
        rintro σ' HG ⟨rfl, gG⟩
        refine RD.d_cut (fun σ' H' => σ' = [some (.ref ad), some (.ref h), some (.ref Pa), none, some (.ref R), v5, v6, v7, v8, some (.ref tot), v10, some (.ref fa), some (.ref a), none] ∧ Gx T.C_Ratio h c Pa R H' ps as [(fa, f), (tot, MX.cmb true (rats as))]) ?_ ?_
        · have rt : RatAt T.C_Ratio HG tot (MX.cmb true (rats as)) := gG.mor (tot, MX.cmb true (rats as)) (List.mem_cons_of_mem _ List.mem_cons_self)
          have rq : RatAt T.C_Ratio HG a q := gG.rts _ mem
          obtain ⟨dx, ex⟩ := id rq
          walk_at "rd"
          unfold tBM
          walk_at "rd"
          refine ⟨a, dx, _, rfl, ex, lk_no (by decide +kernel) (by decide +kernel), ?_⟩
          walk_at "rd"
          refine ⟨a, .ref tot, _, rfl, rq, bq, .inl ⟨_, .inl ⟨tot, rfl, rt⟩, bS, fun H1' s1 => ?_⟩⟩
          obtain ⟨dy, ey⟩ := id (rt.same s1)
          walk_at "rd"
          refine ⟨tot, dy, _, rfl, ey, lk_no (by decide +kernel) (by decide +kernel), ?_⟩
          walk_at "rd"
          refine ⟨tot, .ref a, _, rfl, rt.same s1, bS, .inl ⟨_, .inl ⟨a, rfl, rq.same s1⟩, bq, fun H2' s2 => ?_⟩⟩
          have s12 := s1.trans s2
          walk_at "rd"
          refine eq_rr T (rq.same s12) (rt.same s12) ?_
          walk_at "rd"
          refine ⟨by show 3 ≤ sizeLine; decide, fun pl hpl => ?_⟩
          have s3 := same_upd (o := HO.lst [.bl (decide (q < MX.cmb true (rats as))), .bl (decide (MX.cmb true (rats as) < q)), .bl (decide (q = MX.cmb true (rats as)))]) hpl
          refine ⟨tyL upd_same, ?_⟩
          walk_at "rd"
          refine ⟨pl, [decide (q < MX.cmb true (rats as)), decide (MX.cmb true (rats as) < q), decide (q = MX.cmb true (rats as))], true, rfl, rfl, SqL.of upd_same, ?_⟩
          rw [MX.tri]
          walk_at "rd"
          exact ⟨rfl, (gG.same s12).same s3⟩
        clear gG
        rintro σ' HG ⟨rfl, gG⟩
        have rt : RatAt T.C_Ratio HG tot (MX.cmb true (rats as)) := gG.mor (tot, MX.cmb true (rats as)) (List.mem_cons_of_mem _ List.mem_cons_self)
        have rf0 : RatAt T.C_Ratio HG fa f := gG.mor (fa, f) List.mem_cons_self
        have rq : RatAt T.C_Ratio HG a q := gG.rts _ mem
        walk_at "rd"
        refine own_op rq rf0 bq bf (fun z1 H1' s1 rz1 => ?_)
        obtain ⟨dx, ex⟩ := id rz1
        walk_at "rd"
        refine ⟨z1, dx, _, rfl, ex, lk_no (by decide +kernel) (by decide +kernel), ?_⟩
        walk_at "rd"
        refine own_op (rt.same s1) (rf0.same s1) bS bf (fun z2 H2' s2 rz2 => ?_)
        have s12 := s1.trans s2
        walk_at "rd"
        refine ⟨z1, .ref z2, _, rfl, rz1.same s2, bqf, .inl ⟨_, .inl ⟨z2, rfl, rz2⟩, bSf, fun H3' s3 => ?_⟩⟩
        have s13 := s12.trans s3
        obtain ⟨dy, ey⟩ := id (rq.same s13)
        walk_at "rd"
        refine ⟨a, dy, _, rfl, ey, lk_no (by decide +kernel) (by decide +kernel), ?_⟩
        walk_at "rd"
        refine ⟨a, .ref tot, _, rfl, rq.same s13, bq, .inl ⟨_, .inl ⟨tot, rfl, rt.same s13⟩, bS, fun H4' s4 => ?_⟩⟩
        walk_at "rd"
        refine d_neB ?_
        have el : decide (q + f < MX.cmb true (rats as) + f) = decide (q < MX.cmb true (rats as)) := by rw [decide_eq_decide]; exact MX.lt_add
        rw [el, decide_eq_true rfl]
        walk_at "rd"
        exact ⟨_, rfl, gG.same (s13.trans s4)⟩
      · rintro σ' H' ⟨v12, rfl, g⟩
        exact ⟨v12, rfl, g⟩
    clear gA
    rintro σ' HH ⟨v12, rfl, gH⟩
    have eRH := gH.atR
    walk_at "rd"
    refine ⟨_, rfl, by omega, by omega, ?_⟩
    refine RD.f_range (lo := 0) (n := _) (fun i σ' H' => ∃ v13 : Option V, σ' = [some (.ref ad), some (.ref h), some (.ref Pa), none, some (.ref R), v5, v6, v7, v8, some (.ref tot), v10, some (.ref fa), v12, v13] ∧ Gx T.C_Ratio h c Pa R H' ps as [(fa, f), (tot, MX.cmb true (rats as))]) ⟨none, rfl, gH⟩ ?_ ?_
    · rintro i σ' H' hi ⟨v13, rfl, g⟩
      have il : i < as.length := by omega
      obtain ⟨⟨a, q⟩, hg⟩ : ∃ x, as[i]? = some x := ⟨_, List.getElem?_eq_getElem il⟩
      obtain ⟨⟨pa, t, b⟩, hp⟩ : ∃ x, ps[i]? = some x := ⟨_, List.getElem?_eq_getElem (by omega)⟩
      have hv := vals_get hp
      rw [← ev, rats_get hg] at hv
      have hv' : q = Rat.divInt t b := Option.some.inj hv
      have at1 : atI (refs as) (0 + (i : Int)) = some (V.ref a) := by rw [Int.zero_add]; exact atI_nat (refs_get hg)
      have at2 : atI (prefs ps) (0 + (i : Int)) = some (V.ref pa) := by rw [Int.zero_add]; exact atI_nat (prefs_get hp)
      obtain ⟨p1, p2, p3, p4⟩ := g.prs _ (List.mem_of_getElem? hp)
      have rq := g.rts _ (List.mem_of_getElem? hg)
      have zq : MX.sz q ≤ 1024 := szq _ (List.mem_map.mpr ⟨_, List.mem_of_getElem? hg, rfl⟩)
      have bq : Bd 2000 q := (bd_sz (n := 11) (Nat.lt_of_le_of_lt zq (by decide))).mono (by decide)
      walk_at "rd"
      refine RD.d_ixL (SqL.of g.atR) at1 ?_
      walk_at "rd"
      refine RD.d_ixL (SqL.of g.atP) at2 ?_
      walk_at "rd"
      refine RD.d_ixL (SqL.of g.atP) at2 ?_
      walk_at "rd"
      refine ⟨a, t, b, q, rfl, rq, bq, p2, up2 (m := 10) (Nat.lt_of_le_of_lt p3 (by decide)) (by decide), up2 (m := 10) (Nat.lt_of_le_of_lt p4 (by decide)) (by decide), hv', ?_⟩
      walk_at "rd"
      exact ⟨_, rfl, g⟩
    · rintro σ' H' ⟨v13, rfl, g⟩
      walk_at "rd"
      exact k _
end

/-! ### what the top has written, the head -/
/-- an error of a class below the one at S is what «except S» names -/
theorem exm_self {K : PySem.W.Frag} {S C : Addr} (h1 : PySem.W.subIn K (.ref S) (.type "BaseException") = some true) (h2 : PySem.W.isClsIn K S = true) (h3 : PySem.W.typeIn K (.ref S) = some (.type "type"))
    (h4 : PySem.W.subIn K (.ref C) (.ref S) = some true) : PySem.W.exmOne K (.ref C) (.ref S) = some true := by
  have e1 : (PySem.W.subIn K (.ref S) (.type "BaseException") == some true) = true := by rw [h1] <;> rfl
  have e2 : ((PySem.W.clsIn K S).isSome && PySem.W.typeIn K (.ref S) == some (.type "type")) = true := by
    have h2' : (PySem.W.clsIn K S).isSome = true := h2
    rw [h2', h3] <;> rfl
  show (if (PySem.W.subIn K (.ref S) (.type "BaseException") == some true) = true then (if ((PySem.W.clsIn K S).isSome && PySem.W.typeIn K (.ref S) == some (.type "type")) = true then PySem.W.subIn K (.ref C) (.ref S) else none) else none) = some true
  rw [if_pos e1, if_pos e2]
  exact h4
theorem kit_self {K : PySem.W.Frag} (t : Value) : PySem.W.kitOne K t t = some true := by
  unfold PySem.W.kitOne
  rw [if_pos (by simp)]
theorem refs_we {C : Addr} : PySem.HandSPX.refsVE (.ref C :: [.type "ValueError", .type "Exception", .type "BaseException", .type "object"]) = true := by rfl
theorem dn_add : PySem.dunder Operator.Add.info.2 = ("__add__" : Str) := by decide +kernel
theorem dn_radd : dunderR Operator.Add.info.2 = ("__radd__" : Str) := by decide +kernel
theorem dn_sub : PySem.dunder Operator.Sub.info.2 = ("__sub__" : Str) := by decide +kernel
theorem dn_rsub : dunderR Operator.Sub.info.2 = ("__rsub__" : Str) := by decide +kernel
theorem dn_mul : PySem.dunder Operator.Mult.info.2 = ("__mul__" : Str) := by decide +kernel
theorem dn_rmul : dunderR Operator.Mult.info.2 = ("__rmul__" : Str) := by decide +kernel
theorem all_mk {l : PySem.W.OpenLaw} {w : World} {K : PySem.W.Frag} {h : Heap} {mg : Str → Option Value} {fa : Addr} (X : K.In h) (G : h.Ns mainGlobals mg) (hfa : mg "law" = some (.ref fa))
    {CWayError : Addr}
    {CRatio : Addr}
    {fWayError__init : Addr} {odWayError__init anWayError__init : Option Addr} {slWayError__init : Array (Option Value)} {ocWayError__init kVWayError__init dcWayError__init pmWayError__init cdWayError__init ctWayError__init : Value}
    {fis_integer : Addr} {odis_integer anis_integer : Option Addr} {slis_integer : Array (Option Value)} {ocis_integer kVis_integer dcis_integer pmis_integer cdis_integer ctis_integer : Value}
    {fRatio__init : Addr} {odRatio__init anRatio__init : Option Addr} {slRatio__init : Array (Option Value)} {ocRatio__init kVRatio__init dcRatio__init pmRatio__init cdRatio__init ctRatio__init : Value}
    {tRatio__init : Addr} {oRatio__init : Obj}
    {fRatio__eq : Addr} {odRatio__eq anRatio__eq : Option Addr} {slRatio__eq : Array (Option Value)} {ocRatio__eq kVRatio__eq dcRatio__eq pmRatio__eq cdRatio__eq ctRatio__eq : Value}
    {fRatio__add : Addr} {odRatio__add anRatio__add : Option Addr} {slRatio__add : Array (Option Value)} {ocRatio__add kVRatio__add dcRatio__add pmRatio__add cdRatio__add ctRatio__add : Value}
    {fRatio__radd : Addr} {odRatio__radd anRatio__radd : Option Addr} {slRatio__radd : Array (Option Value)} {ocRatio__radd kVRatio__radd dcRatio__radd pmRatio__radd cdRatio__radd ctRatio__radd : Value}
    {fRatio__sub : Addr} {odRatio__sub anRatio__sub : Option Addr} {slRatio__sub : Array (Option Value)} {ocRatio__sub kVRatio__sub dcRatio__sub pmRatio__sub cdRatio__sub ctRatio__sub : Value}
    {fRatio__rsub : Addr} {odRatio__rsub anRatio__rsub : Option Addr} {slRatio__rsub : Array (Option Value)} {ocRatio__rsub kVRatio__rsub dcRatio__rsub pmRatio__rsub cdRatio__rsub ctRatio__rsub : Value}
    {fRatio__mul : Addr} {odRatio__mul anRatio__mul : Option Addr} {slRatio__mul : Array (Option Value)} {ocRatio__mul kVRatio__mul dcRatio__mul pmRatio__mul cdRatio__mul ctRatio__mul : Value}
    {fRatio__rmul : Addr} {odRatio__rmul anRatio__rmul : Option Addr} {slRatio__rmul : Array (Option Value)} {ocRatio__rmul kVRatio__rmul dcRatio__rmul pmRatio__rmul cdRatio__rmul ctRatio__rmul : Value}
    {fRatio__neg : Addr} {odRatio__neg anRatio__neg : Option Addr} {slRatio__neg : Array (Option Value)} {ocRatio__neg kVRatio__neg dcRatio__neg pmRatio__neg cdRatio__neg ctRatio__neg : Value}
    {fRatio_over : Addr} {odRatio_over anRatio_over : Option Addr} {slRatio_over : Array (Option Value)} {ocRatio_over kVRatio_over dcRatio_over pmRatio_over cdRatio_over ctRatio_over : Value}
    {fRatio_less : Addr} {odRatio_less anRatio_less : Option Addr} {slRatio_less : Array (Option Value)} {ocRatio_less kVRatio_less dcRatio_less pmRatio_less cdRatio_less ctRatio_less : Value}
    {fis_number : Addr} {odis_number anis_number : Option Addr} {slis_number : Array (Option Value)} {ocis_number kVis_number dcis_number pmis_number cdis_number ctis_number : Value}
    {fas_ratio : Addr} {odas_ratio anas_ratio : Option Addr} {slas_ratio : Array (Option Value)} {ocas_ratio kVas_ratio dcas_ratio pmas_ratio cdas_ratio ctas_ratio : Value}
    {fsum_of : Addr} {odsum_of ansum_of : Option Addr} {slsum_of : Array (Option Value)} {ocsum_of kVsum_of dcsum_of pmsum_of cdsum_of ctsum_of : Value}
    {fproduct_of : Addr} {odproduct_of anproduct_of : Option Addr} {slproduct_of : Array (Option Value)} {ocproduct_of kVproduct_of dcproduct_of pmproduct_of cdproduct_of ctproduct_of : Value}
    {flaw_hand : Addr} {odlaw_hand anlaw_hand : Option Addr} {sllaw_hand : Array (Option Value)} {oclaw_hand kVlaw_hand dclaw_hand pmlaw_hand cdlaw_hand ctlaw_hand : Value}
    {flaw_draw : Addr} {odlaw_draw anlaw_draw : Option Addr} {sllaw_draw : Array (Option Value)} {oclaw_draw kVlaw_draw dclaw_draw pmlaw_draw cdlaw_draw ctlaw_draw : Value}
    {flaw_pair : Addr} {odlaw_pair anlaw_pair : Option Addr} {sllaw_pair : Array (Option Value)} {oclaw_pair kVlaw_pair dclaw_pair pmlaw_pair cdlaw_pair ctlaw_pair : Value}
    {flaw_by_turns : Addr} {odlaw_by_turns anlaw_by_turns : Option Addr} {sllaw_by_turns : Array (Option Value)} {oclaw_by_turns kVlaw_by_turns dclaw_by_turns pmlaw_by_turns cdlaw_by_turns ctlaw_by_turns : Value}
    {flaw_is : Addr} {odlaw_is anlaw_is : Option Addr} {sllaw_is : Array (Option Value)} {oclaw_is kVlaw_is dclaw_is pmlaw_is cdlaw_is ctlaw_is : Value}
    {flaw : Addr} {odlaw anlaw : Option Addr} {sllaw : Array (Option Value)} {oclaw kVlaw dclaw pmlaw cdlaw ctlaw : Value}
    (aRatio : PySem.W.nsIn K mainGlobals "Ratio" = some (some (.ref CRatio)))
    (pgRatio : PySem.W.plainGet K CRatio Str.empty = true)
    (hdRatio : PySem.W.hasDictIn K CRatio = true)
    (poRatio : PySem.W.plainOver K CRatio = true)
    (saRatio : PySem.W.findIn K (.ref CRatio) "__setattr__" = some (some (.builtin "object.__setattr__")))
    (mkRatio : PySem.W.makesIn K CRatio = true)
    (kcRatio : PySem.W.keepIn K (.ref CRatio) = true)
    (naRatio_top : PySem.W.findIn K (.ref CRatio) "top" = some none)
    (naRatio_bottom : PySem.W.findIn K (.ref CRatio) "bottom" = some none)
    (aWayError__init : PySem.W.findIn K (.ref CWayError) "__init__" = some (some (.ref fWayError__init)))
    (iWayError__init : PySem.W.isFn K (.ref fWayError__init) = true)
    (lWayError__init : K.lookup fWayError__init = some ⟨ocWayError__init, odWayError__init, .func (PySem.W.fnOf "__init__" "WayError.__init__" (defArgs s_WayError__init) (defBody s_WayError__init) (defScope s_WayError__init) .none kVWayError__init dcWayError__init pmWayError__init anWayError__init cdWayError__init ctWayError__init), slWayError__init⟩)
    (cWayError__init : PySem.W.codeIn K cdWayError__init "WayError.__init__" = true)
    (kWayError__init : PySem.W.keepIn K (.ref fWayError__init) = true)
    (ais_integer : PySem.W.nsIn K mainGlobals "is_integer" = some (some (.ref fis_integer)))
    (lis_integer : K.lookup fis_integer = some ⟨ocis_integer, odis_integer, .func (PySem.W.fnOf "is_integer" "is_integer" (defArgs s_is_integer) (defBody s_is_integer) (defScope s_is_integer) .none kVis_integer dcis_integer pmis_integer anis_integer cdis_integer ctis_integer), slis_integer⟩)
    (cis_integer : PySem.W.codeIn K cdis_integer "is_integer" = true)
    (kis_integer : PySem.W.keepIn K (.ref fis_integer) = true)
    (aRatio__init : PySem.W.findIn K (.ref CRatio) "__init__" = some (some (.ref fRatio__init)))
    (iRatio__init : PySem.W.isFn K (.ref fRatio__init) = true)
    (lRatio__init : K.lookup fRatio__init = some ⟨ocRatio__init, odRatio__init, .func (PySem.W.fnOf "__init__" "Ratio.__init__" (defArgs s_Ratio__init) (defBody s_Ratio__init) (defScope s_Ratio__init) (.ref tRatio__init) kVRatio__init dcRatio__init pmRatio__init anRatio__init cdRatio__init ctRatio__init), slRatio__init⟩)
    (cRatio__init : PySem.W.codeIn K cdRatio__init "Ratio.__init__" = true)
    (kRatio__init : PySem.W.keepIn K (.ref fRatio__init) = true)
    (dRatio__init : K.lookup tRatio__init = some oRatio__init)
    (eRatio__init : ∃ (its : List Value) (n : Nat), oRatio__init.data = .seq its.toArray n ∧ Vals [V.int 1] its)
    (aRatio__eq : PySem.W.findIn K (.ref CRatio) "__eq__" = some (some (.ref fRatio__eq)))
    (iRatio__eq : PySem.W.isFn K (.ref fRatio__eq) = true)
    (lRatio__eq : K.lookup fRatio__eq = some ⟨ocRatio__eq, odRatio__eq, .func (PySem.W.fnOf "__eq__" "Ratio.__eq__" (defArgs s_Ratio__eq) (defBody s_Ratio__eq) (defScope s_Ratio__eq) .none kVRatio__eq dcRatio__eq pmRatio__eq anRatio__eq cdRatio__eq ctRatio__eq), slRatio__eq⟩)
    (cRatio__eq : PySem.W.codeIn K cdRatio__eq "Ratio.__eq__" = true)
    (kRatio__eq : PySem.W.keepIn K (.ref fRatio__eq) = true)
    (aRatio__add : PySem.W.findIn K (.ref CRatio) "__add__" = some (some (.ref fRatio__add)))
    (iRatio__add : PySem.W.isFn K (.ref fRatio__add) = true)
    (lRatio__add : K.lookup fRatio__add = some ⟨ocRatio__add, odRatio__add, .func (PySem.W.fnOf "__add__" "Ratio.__add__" (defArgs s_Ratio__add) (defBody s_Ratio__add) (defScope s_Ratio__add) .none kVRatio__add dcRatio__add pmRatio__add anRatio__add cdRatio__add ctRatio__add), slRatio__add⟩)
    (cRatio__add : PySem.W.codeIn K cdRatio__add "Ratio.__add__" = true)
    (kRatio__add : PySem.W.keepIn K (.ref fRatio__add) = true)
    (aRatio__radd : PySem.W.findIn K (.ref CRatio) "__radd__" = some (some (.ref fRatio__radd)))
    (iRatio__radd : PySem.W.isFn K (.ref fRatio__radd) = true)
    (lRatio__radd : K.lookup fRatio__radd = some ⟨ocRatio__radd, odRatio__radd, .func (PySem.W.fnOf "__radd__" "Ratio.__radd__" (defArgs s_Ratio__radd) (defBody s_Ratio__radd) (defScope s_Ratio__radd) .none kVRatio__radd dcRatio__radd pmRatio__radd anRatio__radd cdRatio__radd ctRatio__radd), slRatio__radd⟩)
    (cRatio__radd : PySem.W.codeIn K cdRatio__radd "Ratio.__radd__" = true)
    (kRatio__radd : PySem.W.keepIn K (.ref fRatio__radd) = true)
    (aRatio__sub : PySem.W.findIn K (.ref CRatio) "__sub__" = some (some (.ref fRatio__sub)))
    (iRatio__sub : PySem.W.isFn K (.ref fRatio__sub) = true)
    (lRatio__sub : K.lookup fRatio__sub = some ⟨ocRatio__sub, odRatio__sub, .func (PySem.W.fnOf "__sub__" "Ratio.__sub__" (defArgs s_Ratio__sub) (defBody s_Ratio__sub) (defScope s_Ratio__sub) .none kVRatio__sub dcRatio__sub pmRatio__sub anRatio__sub cdRatio__sub ctRatio__sub), slRatio__sub⟩)
    (cRatio__sub : PySem.W.codeIn K cdRatio__sub "Ratio.__sub__" = true)
    (kRatio__sub : PySem.W.keepIn K (.ref fRatio__sub) = true)
    (aRatio__rsub : PySem.W.findIn K (.ref CRatio) "__rsub__" = some (some (.ref fRatio__rsub)))
    (iRatio__rsub : PySem.W.isFn K (.ref fRatio__rsub) = true)
    (lRatio__rsub : K.lookup fRatio__rsub = some ⟨ocRatio__rsub, odRatio__rsub, .func (PySem.W.fnOf "__rsub__" "Ratio.__rsub__" (defArgs s_Ratio__rsub) (defBody s_Ratio__rsub) (defScope s_Ratio__rsub) .none kVRatio__rsub dcRatio__rsub pmRatio__rsub anRatio__rsub cdRatio__rsub ctRatio__rsub), slRatio__rsub⟩)
    (cRatio__rsub : PySem.W.codeIn K cdRatio__rsub "Ratio.__rsub__" = true)
    (kRatio__rsub : PySem.W.keepIn K (.ref fRatio__rsub) = true)
    (aRatio__mul : PySem.W.findIn K (.ref CRatio) "__mul__" = some (some (.ref fRatio__mul)))
    (iRatio__mul : PySem.W.isFn K (.ref fRatio__mul) = true)
    (lRatio__mul : K.lookup fRatio__mul = some ⟨ocRatio__mul, odRatio__mul, .func (PySem.W.fnOf "__mul__" "Ratio.__mul__" (defArgs s_Ratio__mul) (defBody s_Ratio__mul) (defScope s_Ratio__mul) .none kVRatio__mul dcRatio__mul pmRatio__mul anRatio__mul cdRatio__mul ctRatio__mul), slRatio__mul⟩)
    (cRatio__mul : PySem.W.codeIn K cdRatio__mul "Ratio.__mul__" = true)
    (kRatio__mul : PySem.W.keepIn K (.ref fRatio__mul) = true)
    (aRatio__rmul : PySem.W.findIn K (.ref CRatio) "__rmul__" = some (some (.ref fRatio__rmul)))
    (iRatio__rmul : PySem.W.isFn K (.ref fRatio__rmul) = true)
    (lRatio__rmul : K.lookup fRatio__rmul = some ⟨ocRatio__rmul, odRatio__rmul, .func (PySem.W.fnOf "__rmul__" "Ratio.__rmul__" (defArgs s_Ratio__rmul) (defBody s_Ratio__rmul) (defScope s_Ratio__rmul) .none kVRatio__rmul dcRatio__rmul pmRatio__rmul anRatio__rmul cdRatio__rmul ctRatio__rmul), slRatio__rmul⟩)
    (cRatio__rmul : PySem.W.codeIn K cdRatio__rmul "Ratio.__rmul__" = true)
    (kRatio__rmul : PySem.W.keepIn K (.ref fRatio__rmul) = true)
    (aRatio__neg : PySem.W.findIn K (.ref CRatio) "__neg__" = some (some (.ref fRatio__neg)))
    (iRatio__neg : PySem.W.isFn K (.ref fRatio__neg) = true)
    (lRatio__neg : K.lookup fRatio__neg = some ⟨ocRatio__neg, odRatio__neg, .func (PySem.W.fnOf "__neg__" "Ratio.__neg__" (defArgs s_Ratio__neg) (defBody s_Ratio__neg) (defScope s_Ratio__neg) .none kVRatio__neg dcRatio__neg pmRatio__neg anRatio__neg cdRatio__neg ctRatio__neg), slRatio__neg⟩)
    (cRatio__neg : PySem.W.codeIn K cdRatio__neg "Ratio.__neg__" = true)
    (kRatio__neg : PySem.W.keepIn K (.ref fRatio__neg) = true)
    (aRatio_over : PySem.W.findIn K (.ref CRatio) "over" = some (some (.ref fRatio_over)))
    (iRatio_over : PySem.W.isFn K (.ref fRatio_over) = true)
    (lRatio_over : K.lookup fRatio_over = some ⟨ocRatio_over, odRatio_over, .func (PySem.W.fnOf "over" "Ratio.over" (defArgs s_Ratio_over) (defBody s_Ratio_over) (defScope s_Ratio_over) .none kVRatio_over dcRatio_over pmRatio_over anRatio_over cdRatio_over ctRatio_over), slRatio_over⟩)
    (cRatio_over : PySem.W.codeIn K cdRatio_over "Ratio.over" = true)
    (kRatio_over : PySem.W.keepIn K (.ref fRatio_over) = true)
    (aRatio_less : PySem.W.findIn K (.ref CRatio) "less" = some (some (.ref fRatio_less)))
    (iRatio_less : PySem.W.isFn K (.ref fRatio_less) = true)
    (lRatio_less : K.lookup fRatio_less = some ⟨ocRatio_less, odRatio_less, .func (PySem.W.fnOf "less" "Ratio.less" (defArgs s_Ratio_less) (defBody s_Ratio_less) (defScope s_Ratio_less) .none kVRatio_less dcRatio_less pmRatio_less anRatio_less cdRatio_less ctRatio_less), slRatio_less⟩)
    (cRatio_less : PySem.W.codeIn K cdRatio_less "Ratio.less" = true)
    (kRatio_less : PySem.W.keepIn K (.ref fRatio_less) = true)
    (ais_number : PySem.W.nsIn K mainGlobals "is_number" = some (some (.ref fis_number)))
    (lis_number : K.lookup fis_number = some ⟨ocis_number, odis_number, .func (PySem.W.fnOf "is_number" "is_number" (defArgs s_is_number) (defBody s_is_number) (defScope s_is_number) .none kVis_number dcis_number pmis_number anis_number cdis_number ctis_number), slis_number⟩)
    (cis_number : PySem.W.codeIn K cdis_number "is_number" = true)
    (kis_number : PySem.W.keepIn K (.ref fis_number) = true)
    (aas_ratio : PySem.W.nsIn K mainGlobals "as_ratio" = some (some (.ref fas_ratio)))
    (las_ratio : K.lookup fas_ratio = some ⟨ocas_ratio, odas_ratio, .func (PySem.W.fnOf "as_ratio" "as_ratio" (defArgs s_as_ratio) (defBody s_as_ratio) (defScope s_as_ratio) .none kVas_ratio dcas_ratio pmas_ratio anas_ratio cdas_ratio ctas_ratio), slas_ratio⟩)
    (cas_ratio : PySem.W.codeIn K cdas_ratio "as_ratio" = true)
    (kas_ratio : PySem.W.keepIn K (.ref fas_ratio) = true)
    (asum_of : PySem.W.nsIn K mainGlobals "sum_of" = some (some (.ref fsum_of)))
    (lsum_of : K.lookup fsum_of = some ⟨ocsum_of, odsum_of, .func (PySem.W.fnOf "sum_of" "sum_of" (defArgs s_sum_of) (defBody s_sum_of) (defScope s_sum_of) .none kVsum_of dcsum_of pmsum_of ansum_of cdsum_of ctsum_of), slsum_of⟩)
    (csum_of : PySem.W.codeIn K cdsum_of "sum_of" = true)
    (ksum_of : PySem.W.keepIn K (.ref fsum_of) = true)
    (aproduct_of : PySem.W.nsIn K mainGlobals "product_of" = some (some (.ref fproduct_of)))
    (lproduct_of : K.lookup fproduct_of = some ⟨ocproduct_of, odproduct_of, .func (PySem.W.fnOf "product_of" "product_of" (defArgs s_product_of) (defBody s_product_of) (defScope s_product_of) .none kVproduct_of dcproduct_of pmproduct_of anproduct_of cdproduct_of ctproduct_of), slproduct_of⟩)
    (cproduct_of : PySem.W.codeIn K cdproduct_of "product_of" = true)
    (kproduct_of : PySem.W.keepIn K (.ref fproduct_of) = true)
    (alaw_hand : PySem.W.nsIn K mainGlobals "_law_hand" = some (some (.ref flaw_hand)))
    (llaw_hand : K.lookup flaw_hand = some ⟨oclaw_hand, odlaw_hand, .func (PySem.W.fnOf "_law_hand" "_law_hand" (defArgs s_law_hand) (defBody s_law_hand) (defScope s_law_hand) .none kVlaw_hand dclaw_hand pmlaw_hand anlaw_hand cdlaw_hand ctlaw_hand), sllaw_hand⟩)
    (claw_hand : PySem.W.codeIn K cdlaw_hand "_law_hand" = true)
    (klaw_hand : PySem.W.keepIn K (.ref flaw_hand) = true)
    (alaw_draw : PySem.W.nsIn K mainGlobals "_law_draw" = some (some (.ref flaw_draw)))
    (llaw_draw : K.lookup flaw_draw = some ⟨oclaw_draw, odlaw_draw, .func (PySem.W.fnOf "_law_draw" "_law_draw" (defArgs s_law_draw) (defBody s_law_draw) (defScope s_law_draw) .none kVlaw_draw dclaw_draw pmlaw_draw anlaw_draw cdlaw_draw ctlaw_draw), sllaw_draw⟩)
    (claw_draw : PySem.W.codeIn K cdlaw_draw "_law_draw" = true)
    (klaw_draw : PySem.W.keepIn K (.ref flaw_draw) = true)
    (alaw_pair : PySem.W.nsIn K mainGlobals "_law_pair" = some (some (.ref flaw_pair)))
    (llaw_pair : K.lookup flaw_pair = some ⟨oclaw_pair, odlaw_pair, .func (PySem.W.fnOf "_law_pair" "_law_pair" (defArgs s_law_pair) (defBody s_law_pair) (defScope s_law_pair) .none kVlaw_pair dclaw_pair pmlaw_pair anlaw_pair cdlaw_pair ctlaw_pair), sllaw_pair⟩)
    (claw_pair : PySem.W.codeIn K cdlaw_pair "_law_pair" = true)
    (klaw_pair : PySem.W.keepIn K (.ref flaw_pair) = true)
    (alaw_by_turns : PySem.W.nsIn K mainGlobals "_law_by_turns" = some (some (.ref flaw_by_turns)))
    (llaw_by_turns : K.lookup flaw_by_turns = some ⟨oclaw_by_turns, odlaw_by_turns, .func (PySem.W.fnOf "_law_by_turns" "_law_by_turns" (defArgs s_law_by_turns) (defBody s_law_by_turns) (defScope s_law_by_turns) .none kVlaw_by_turns dclaw_by_turns pmlaw_by_turns anlaw_by_turns cdlaw_by_turns ctlaw_by_turns), sllaw_by_turns⟩)
    (claw_by_turns : PySem.W.codeIn K cdlaw_by_turns "_law_by_turns" = true)
    (klaw_by_turns : PySem.W.keepIn K (.ref flaw_by_turns) = true)
    (alaw_is : PySem.W.nsIn K mainGlobals "_law_is" = some (some (.ref flaw_is)))
    (llaw_is : K.lookup flaw_is = some ⟨oclaw_is, odlaw_is, .func (PySem.W.fnOf "_law_is" "_law_is" (defArgs s_law_is) (defBody s_law_is) (defScope s_law_is) .none kVlaw_is dclaw_is pmlaw_is anlaw_is cdlaw_is ctlaw_is), sllaw_is⟩)
    (claw_is : PySem.W.codeIn K cdlaw_is "_law_is" = true)
    (klaw_is : PySem.W.keepIn K (.ref flaw_is) = true)
    (alaw : PySem.W.nsIn K mainGlobals "law" = some (some (.ref flaw)))
    (llaw : K.lookup flaw = some ⟨oclaw, odlaw, .func (PySem.W.fnOf "law" "law" (defArgs s_law) (defBody s_law) (defScope s_law) .none kVlaw dclaw pmlaw anlaw cdlaw ctlaw), sllaw⟩)
    (claw : PySem.W.codeIn K cdlaw "law" = true)
    (klaw : PySem.W.keepIn K (.ref flaw) = true)
    (zabs : PySem.W.nsIn K mainGlobals "abs" = some none)
    (zint : PySem.W.nsIn K mainGlobals "int" = some none)
    (zlen : PySem.W.nsIn K mainGlobals "len" = some none)
    (zrange : PySem.W.nsIn K mainGlobals "range" = some none)
    (zisinstance : PySem.W.nsIn K mainGlobals "isinstance" = some none)
    (zlist : PySem.W.nsIn K mainGlobals "list" = some none)
    (zsum : PySem.W.nsIn K mainGlobals "sum" = some none)
    (zbool : PySem.W.nsIn K mainGlobals "bool" = some none)
    {CBN : Addr} {nm qn : Str} {N : Addr} {bs : List Value} {sn : List Str} {sub : List Value} {ab : Bool} {col : Option Bool} {dd : Option Addr} {m0 m1 m2 m3 m5 foadd fosub fomul roadd rosub romul : Option Value}
    (aBN : PySem.W.nsIn K mainGlobals "BadNumber" = some (some (.ref CBN)))
    (aWE : PySem.W.nsIn K mainGlobals "WayError" = some (some (.ref CWayError)))
    (agcd : PySem.W.nsIn K mainGlobals "gcd" = some (some (.builtin "math.gcd")))
    (haR : PySem.W.findIn K (.ref CRatio) "__class__" = some (some (.builtin "object.__class__")))
    (hnO : PySem.W.specialIn K (.builtin "object.__class__") "__get__" = some (some (.builtin "getset_descriptor.__get__")))
    (htO : PySem.W.takesIn K (.builtin "object.__class__") = some true)
    (hmR : PySem.W.mroIn K CRatio (.type "object") = some true)
    (neR : PySem.W.findIn K (.ref CRatio) "__ne__" = some (some (.builtin "object.__ne__")))
    (xBN : K.lookup CBN = some (excClassObj nm qn CBN N bs (.ref CWayError :: [.type "ValueError", .type "Exception", .type "BaseException", .type "object"]) true sn sub ab col dd m0 m1 m2 m3 m5 "ValueError.__new__"))
    (saBN : PySem.W.findIn K (.ref CBN) "__setattr__" = some (some (.builtin "object.__setattr__")))
    (exBN : PySem.W.subIn K (.ref CBN) (.type "BaseException") = some true)
    (tyBN : PySem.W.typeIn K (.ref CBN) = some (.type "type"))
    (kcBN : PySem.W.keepIn K (.ref CBN) = true)
    (inBN : PySem.W.findIn K (.ref CBN) "__init__" = some (some (.ref fWayError__init)))
    (tiBN : PySem.W.typeIn K (.ref fWayError__init) = some (.type "function"))
    (vaBN : PySem.W.findIn K (.ref CBN) "value" = some none)
    (gaBN : PySem.W.findIn K (.ref CBN) "__getattribute__" = some (some (.builtin "BaseException.__getattribute__")))
    (ggBN : PySem.W.findIn K (.ref CBN) "__getattr__" = some none)
    (hdBN : PySem.W.hasDictIn K CBN = true)
    (clBN : PySem.W.findIn K (.ref CBN) "__class__" = some (some (.builtin "object.__class__")))
    (moBN : PySem.W.mroIn K CBN (.type "object") = some true)
    (icBN : PySem.W.isClsIn K CBN = true)
    (sBB : PySem.W.subIn K (.ref CBN) (.ref CBN) = some true)
    (qRi : PySem.W.kitOne K (.ref CRatio) (.type "int") = some false)
    (qRb : PySem.W.kitOne K (.ref CRatio) (.type "bool") = some false)
    (nfR : PySem.W.notFirst K CRatio (.ref CRatio) = true)
    (sfR : PySem.W.selfFirst K CRatio = true)
    (sIR : PySem.W.subIn K (.type "int") (.ref CRatio) = some false)
    (sRI : PySem.W.subIn K (.ref CRatio) (.type "int") = some false)
    (ioadd : PySem.W.findIn K (.type "int") "__add__" = some foadd)
    (iradd : PySem.W.findIn K (.type "int") "__radd__" = some roadd)
    (iosub : PySem.W.findIn K (.type "int") "__sub__" = some fosub)
    (irsub : PySem.W.findIn K (.type "int") "__rsub__" = some rosub)
    (iomul : PySem.W.findIn K (.type "int") "__mul__" = some fomul)
    (irmul : PySem.W.findIn K (.type "int") "__rmul__" = some romul)
    (qNoneType : PySem.W.kitOne K (.type "NoneType") (.ref CRatio) = some false)
    (nNoneType : PySem.W.notFirst K CRatio (.type "NoneType") = true)
    (qbool : PySem.W.kitOne K (.type "bool") (.ref CRatio) = some false)
    (nbool : PySem.W.notFirst K CRatio (.type "bool") = true)
    (qint : PySem.W.kitOne K (.type "int") (.ref CRatio) = some false)
    (nint : PySem.W.notFirst K CRatio (.type "int") = true)
    (qstr : PySem.W.kitOne K (.type "str") (.ref CRatio) = some false)
    (nstr : PySem.W.notFirst K CRatio (.type "str") = true)
    (qlist : PySem.W.kitOne K (.type "list") (.ref CRatio) = some false)
    (nlist : PySem.W.notFirst K CRatio (.type "list") = true)
    (qtuple : PySem.W.kitOne K (.type "tuple") (.ref CRatio) = some false)
    (ntuple : PySem.W.notFirst K CRatio (.type "tuple") = true)
    (qdict : PySem.W.kitOne K (.type "dict") (.ref CRatio) = some false)
    (ndict : PySem.W.notFirst K CRatio (.type "dict") = true)
    : ∃ fd : FuncData, (∀ (s : Shared) (v : Value), BindsTo s fd ⟨[v], []⟩ [("script", v)]) ∧ ∀ base : Heap, K.In base → base.Ns mainGlobals mg → FnOk l.prog w K mg base CX0 12 fa fd ["script"] (spLaw K) := by
  have e := hfa.symm.trans (PySem.W.mg_of X G alaw)
  cases e
  have FWayError__init := fun_mk (st := s_WayError__init) lWayError__init cWayError__init kWayError__init
  have bWayError__init := FWayError__init.binds (ps := ["self", "value"]) fun _ _ _ _ _ _ us hl => match us, hl with | [_, _], _ => rfl
  have Fis_integer := fun_mk (st := s_is_integer) lis_integer cis_integer kis_integer
  have bis_integer := Fis_integer.binds (ps := ["thing"]) fun _ _ _ _ _ _ us hl => match us, hl with | [_], _ => rfl
  have FRatio__init : FunD K "__init__" "Ratio.__init__" (defArgs s_Ratio__init) (defBody s_Ratio__init) (defScope s_Ratio__init) [V.int 1] [] fRatio__init (PySem.W.fnOf "__init__" "Ratio.__init__" (defArgs s_Ratio__init) (defBody s_Ratio__init) (defScope s_Ratio__init) (.ref tRatio__init) kVRatio__init dcRatio__init pmRatio__init anRatio__init cdRatio__init ctRatio__init) := ⟨⟨_, _, _, _, _, _, _, _, _, _, rfl, lRatio__init, cRatio__init, Or.inr ⟨(by simp), _, oRatio__init, eRatio__init.choose, eRatio__init.choose_spec.choose, rfl, dRatio__init, eRatio__init.choose_spec.choose_spec.1, eRatio__init.choose_spec.choose_spec.2⟩, Or.inl rfl⟩, kRatio__init⟩
  have b1Ratio__init := FRatio__init.binds1 (ps := ["self", "top", "bottom"]) 2 0 (by simp) rfl (fun _ _ _ _ _ _ _ us its hl hi => match us, hl, its, hi with | [_, _], _, [_], _ => ⟨_, rfl, rfl⟩)
  have bRatio__init : Binds K (PySem.W.fnOf "__init__" "Ratio.__init__" (defArgs s_Ratio__init) (defBody s_Ratio__init) (defScope s_Ratio__init) (.ref tRatio__init) kVRatio__init dcRatio__init pmRatio__init anRatio__init cdRatio__init ctRatio__init) ["self", "top", "bottom"] [] := by
    obtain ⟨ds, hv, hb⟩ := FRatio__init.binds1 (ps := ["self", "top", "bottom"]) 3 1 (by simp) rfl (fun _ _ _ _ _ _ _ us its hl hi => match us, hl, its, hi with | [_, _, _], _, [_], _ => ⟨_, rfl, rfl⟩)
    cases hv; exact hb
  have FRatio__eq := fun_mk (st := s_Ratio__eq) lRatio__eq cRatio__eq kRatio__eq
  have bRatio__eq := FRatio__eq.binds (ps := ["self", "other"]) fun _ _ _ _ _ _ us hl => match us, hl with | [_, _], _ => rfl
  have FRatio__add := fun_mk (st := s_Ratio__add) lRatio__add cRatio__add kRatio__add
  have bRatio__add := FRatio__add.binds (ps := ["self", "other"]) fun _ _ _ _ _ _ us hl => match us, hl with | [_, _], _ => rfl
  have FRatio__radd := fun_mk (st := s_Ratio__radd) lRatio__radd cRatio__radd kRatio__radd
  have bRatio__radd := FRatio__radd.binds (ps := ["self", "other"]) fun _ _ _ _ _ _ us hl => match us, hl with | [_, _], _ => rfl
  have FRatio__sub := fun_mk (st := s_Ratio__sub) lRatio__sub cRatio__sub kRatio__sub
  have bRatio__sub := FRatio__sub.binds (ps := ["self", "other"]) fun _ _ _ _ _ _ us hl => match us, hl with | [_, _], _ => rfl
  have FRatio__rsub := fun_mk (st := s_Ratio__rsub) lRatio__rsub cRatio__rsub kRatio__rsub
  have bRatio__rsub := FRatio__rsub.binds (ps := ["self", "other"]) fun _ _ _ _ _ _ us hl => match us, hl with | [_, _], _ => rfl
  have FRatio__mul := fun_mk (st := s_Ratio__mul) lRatio__mul cRatio__mul kRatio__mul
  have bRatio__mul := FRatio__mul.binds (ps := ["self", "other"]) fun _ _ _ _ _ _ us hl => match us, hl with | [_, _], _ => rfl
  have FRatio__rmul := fun_mk (st := s_Ratio__rmul) lRatio__rmul cRatio__rmul kRatio__rmul
  have bRatio__rmul := FRatio__rmul.binds (ps := ["self", "other"]) fun _ _ _ _ _ _ us hl => match us, hl with | [_, _], _ => rfl
  have FRatio__neg := fun_mk (st := s_Ratio__neg) lRatio__neg cRatio__neg kRatio__neg
  have bRatio__neg := FRatio__neg.binds (ps := ["self"]) fun _ _ _ _ _ _ us hl => match us, hl with | [_], _ => rfl
  have FRatio_over := fun_mk (st := s_Ratio_over) lRatio_over cRatio_over kRatio_over
  have bRatio_over := FRatio_over.binds (ps := ["self", "other"]) fun _ _ _ _ _ _ us hl => match us, hl with | [_, _], _ => rfl
  have FRatio_less := fun_mk (st := s_Ratio_less) lRatio_less cRatio_less kRatio_less
  have bRatio_less := FRatio_less.binds (ps := ["self", "other"]) fun _ _ _ _ _ _ us hl => match us, hl with | [_, _], _ => rfl
  have Fis_number := fun_mk (st := s_is_number) lis_number cis_number kis_number
  have bis_number := Fis_number.binds (ps := ["thing"]) fun _ _ _ _ _ _ us hl => match us, hl with | [_], _ => rfl
  have Fas_ratio := fun_mk (st := s_as_ratio) las_ratio cas_ratio kas_ratio
  have bas_ratio := Fas_ratio.binds (ps := ["thing"]) fun _ _ _ _ _ _ us hl => match us, hl with | [_], _ => rfl
  have Fsum_of := fun_mk (st := s_sum_of) lsum_of csum_of ksum_of
  have bsum_of := Fsum_of.binds (ps := ["one", "other"]) fun _ _ _ _ _ _ us hl => match us, hl with | [_, _], _ => rfl
  have Fproduct_of := fun_mk (st := s_product_of) lproduct_of cproduct_of kproduct_of
  have bproduct_of := Fproduct_of.binds (ps := ["one", "other"]) fun _ _ _ _ _ _ us hl => match us, hl with | [_, _], _ => rfl
  have Flaw_hand := fun_mk (st := s_law_hand) llaw_hand claw_hand klaw_hand
  have blaw_hand := Flaw_hand.binds (ps := ["script"]) fun _ _ _ _ _ _ us hl => match us, hl with | [_], _ => rfl
  have Flaw_draw := fun_mk (st := s_law_draw) llaw_draw claw_draw klaw_draw
  have blaw_draw := Flaw_draw.binds (ps := ["hand", "many"]) fun _ _ _ _ _ _ us hl => match us, hl with | [_, _], _ => rfl
  have Flaw_pair := fun_mk (st := s_law_pair) llaw_pair claw_pair klaw_pair
  have blaw_pair := Flaw_pair.binds (ps := ["hand"]) fun _ _ _ _ _ _ us hl => match us, hl with | [_], _ => rfl
  have Flaw_by_turns := fun_mk (st := s_law_by_turns) llaw_by_turns claw_by_turns klaw_by_turns
  have blaw_by_turns := Flaw_by_turns.binds (ps := ["hand", "row", "sums"]) fun _ _ _ _ _ _ us hl => match us, hl with | [_, _, _], _ => rfl
  have Flaw_is := fun_mk (st := s_law_is) llaw_is claw_is klaw_is
  have blaw_is := Flaw_is.binds (ps := ["thing", "top", "bottom"]) fun _ _ _ _ _ _ us hl => match us, hl with | [_, _, _], _ => rfl
  have Flaw := fun_mk (st := s_law) llaw claw klaw
  have blaw := Flaw.binds (ps := ["script"]) fun _ _ _ _ _ _ us hl => match us, hl with | [_], _ => rfl
  let T : Top K mg := { C_Ratio := CRatio, cl_Ratio := ⟨pgRatio, hdRatio, poRatio, saRatio⟩, g_Ratio := PySem.W.mg_of X G aRatio, na_Ratio_top := naRatio_top, na_Ratio_bottom := naRatio_bottom, f_WayError__init := fWayError__init, fd_WayError__init := _, F_WayError__init := FWayError__init, b_WayError__init := bWayError__init, f_is_integer := fis_integer, fd_is_integer := _, F_is_integer := Fis_integer, b_is_integer := bis_integer, g_is_integer := PySem.W.mg_of X G ais_integer, f_Ratio__init := fRatio__init, fd_Ratio__init := _, F_Ratio__init := FRatio__init, b_Ratio__init := bRatio__init, b1_Ratio__init := b1Ratio__init, M_Ratio := ⟨mkRatio, aRatio__init, iRatio__init, kcRatio⟩, f_Ratio__eq := fRatio__eq, fd_Ratio__eq := _, F_Ratio__eq := FRatio__eq, b_Ratio__eq := bRatio__eq, m_Ratio__eq := ⟨aRatio__eq, iRatio__eq, kRatio__eq⟩, f_Ratio__add := fRatio__add, fd_Ratio__add := _, F_Ratio__add := FRatio__add, b_Ratio__add := bRatio__add, m_Ratio__add := ⟨aRatio__add, iRatio__add, kRatio__add⟩, f_Ratio__radd := fRatio__radd, fd_Ratio__radd := _, F_Ratio__radd := FRatio__radd, b_Ratio__radd := bRatio__radd, m_Ratio__radd := ⟨aRatio__radd, iRatio__radd, kRatio__radd⟩, f_Ratio__sub := fRatio__sub, fd_Ratio__sub := _, F_Ratio__sub := FRatio__sub, b_Ratio__sub := bRatio__sub, m_Ratio__sub := ⟨aRatio__sub, iRatio__sub, kRatio__sub⟩, f_Ratio__rsub := fRatio__rsub, fd_Ratio__rsub := _, F_Ratio__rsub := FRatio__rsub, b_Ratio__rsub := bRatio__rsub, m_Ratio__rsub := ⟨aRatio__rsub, iRatio__rsub, kRatio__rsub⟩, f_Ratio__mul := fRatio__mul, fd_Ratio__mul := _, F_Ratio__mul := FRatio__mul, b_Ratio__mul := bRatio__mul, m_Ratio__mul := ⟨aRatio__mul, iRatio__mul, kRatio__mul⟩, f_Ratio__rmul := fRatio__rmul, fd_Ratio__rmul := _, F_Ratio__rmul := FRatio__rmul, b_Ratio__rmul := bRatio__rmul, m_Ratio__rmul := ⟨aRatio__rmul, iRatio__rmul, kRatio__rmul⟩, f_Ratio__neg := fRatio__neg, fd_Ratio__neg := _, F_Ratio__neg := FRatio__neg, b_Ratio__neg := bRatio__neg, m_Ratio__neg := ⟨aRatio__neg, iRatio__neg, kRatio__neg⟩, f_Ratio_over := fRatio_over, fd_Ratio_over := _, F_Ratio_over := FRatio_over, b_Ratio_over := bRatio_over, m_Ratio_over := ⟨aRatio_over, iRatio_over, kRatio_over⟩, f_Ratio_less := fRatio_less, fd_Ratio_less := _, F_Ratio_less := FRatio_less, b_Ratio_less := bRatio_less, m_Ratio_less := ⟨aRatio_less, iRatio_less, kRatio_less⟩, f_is_number := fis_number, fd_is_number := _, F_is_number := Fis_number, b_is_number := bis_number, g_is_number := PySem.W.mg_of X G ais_number, f_as_ratio := fas_ratio, fd_as_ratio := _, F_as_ratio := Fas_ratio, b_as_ratio := bas_ratio, g_as_ratio := PySem.W.mg_of X G aas_ratio, f_sum_of := fsum_of, fd_sum_of := _, F_sum_of := Fsum_of, b_sum_of := bsum_of, g_sum_of := PySem.W.mg_of X G asum_of, f_product_of := fproduct_of, fd_product_of := _, F_product_of := Fproduct_of, b_product_of := bproduct_of, g_product_of := PySem.W.mg_of X G aproduct_of, f_law_hand := flaw_hand, fd_law_hand := _, F_law_hand := Flaw_hand, b_law_hand := blaw_hand, g_law_hand := PySem.W.mg_of X G alaw_hand, f_law_draw := flaw_draw, fd_law_draw := _, F_law_draw := Flaw_draw, b_law_draw := blaw_draw, g_law_draw := PySem.W.mg_of X G alaw_draw, f_law_pair := flaw_pair, fd_law_pair := _, F_law_pair := Flaw_pair, b_law_pair := blaw_pair, g_law_pair := PySem.W.mg_of X G alaw_pair, f_law_by_turns := flaw_by_turns, fd_law_by_turns := _, F_law_by_turns := Flaw_by_turns, b_law_by_turns := blaw_by_turns, g_law_by_turns := PySem.W.mg_of X G alaw_by_turns, f_law_is := flaw_is, fd_law_is := _, F_law_is := Flaw_is, b_law_is := blaw_is, g_law_is := PySem.W.mg_of X G alaw_is, f_law := fa, fd_law := _, F_law := Flaw, b_law := blaw, g_law := PySem.W.mg_of X G alaw, n_abs := PySem.W.mg_none_of X G zabs, n_int := PySem.W.mg_none_of X G zint, n_len := PySem.W.mg_none_of X G zlen, n_range := PySem.W.mg_none_of X G zrange, n_isinstance := PySem.W.mg_none_of X G zisinstance, n_list := PySem.W.mg_none_of X G zlist, n_sum := PySem.W.mg_none_of X G zsum, n_bool := PySem.W.mg_none_of X G zbool, C_BN := CBN, g_BadNumber := PySem.W.mg_of X G aBN, g_gcd := PySem.W.mg_of X G agcd, haR := haR, hnO := hnO, htO := htO, hmR := hmR, neR := neR, oex_BadNumber := ⟨⟨nm, qn, N, bs, _, sn, sub, ab, col, dd, m0, m1, m2, m3, m5, xBN, refs_we⟩, saBN, exBN, tyBN, kcBN⟩, i_BadNumber := inBN, tI := tiBN, v_BadNumber := vaBN, xf_BadNumber := ⟨gaBN, ggBN, exBN, hdBN⟩, exI_BadNumber := ⟨gaBN, ggBN, exBN, hdBN, clBN, hnO, htO, moBN⟩, exm := exm_self exBN icBN tyBN sBB, kBN := kit_self _, kRR := kit_self _, kRi := qRi, kRb := qRb, nfR := nfR, sfR := sfR, subIR := sIR, subRI := sRI, kT := fun t ht => by simp only [List.mem_cons, List.not_mem_nil, or_false] at ht; rcases ht with rfl | rfl | rfl | rfl | rfl | rfl | rfl; exact ⟨qNoneType, nNoneType⟩; exact ⟨qbool, nbool⟩; exact ⟨qint, nint⟩; exact ⟨qstr, nstr⟩; exact ⟨qlist, nlist⟩; exact ⟨qtuple, ntuple⟩; exact ⟨qdict, ndict⟩, fo_add := foadd, ro_add := roadd, at_add := by rw [dn_add]; exact aRatio__add, at_radd := by rw [dn_radd]; exact aRatio__radd, ia_add := by rw [dn_add]; exact ioadd, ib_add := by rw [dn_radd]; exact iradd, fo_sub := fosub, ro_sub := rosub, at_sub := by rw [dn_sub]; exact aRatio__sub, at_rsub := by rw [dn_rsub]; exact aRatio__rsub, ia_sub := by rw [dn_sub]; exact iosub, ib_sub := by rw [dn_rsub]; exact irsub, fo_mul := fomul, ro_mul := romul, at_mul := by rw [dn_mul]; exact aRatio__mul, at_rmul := by rw [dn_rmul]; exact aRatio__rmul, ia_mul := by rw [dn_mul]; exact iomul, ib_mul := by rw [dn_rmul]; exact irmul }
  exact ⟨PySem.W.fnOf "law" "law" (defArgs s_law) (defBody s_law) (defScope s_law) .none kVlaw dclaw pmlaw anlaw cdlaw ctlaw, fun s v => .of_eq rfl, fun base _ _ => ok_law T⟩
theorem walk {l : PySem.W.OpenLaw} {q : Program} {loose : List Str} {XP : (Str → Option Value) → Heap → Prop} {YP : World → Heap → Prop} {d : DefRec} {K : Params → PySem.W.Frag} (hn : l.most = some 63) (hdf : d.params.defaults = [])
    (hY : ∀ (w : World) (h : Heap), YP w h → (K w.params).In h)
    (F : ∀ (w : World) (mg : Str → Option Value) (fa : Addr) (h : Heap), (K w.params).In h → h.Ns mainGlobals mg → mg d.name = some (.ref fa) →
      ∃ fd : FuncData, (∀ (s : Shared) (u : Value), BindsTo s fd ⟨[u], []⟩ [("script", u)]) ∧ ∀ base : Heap, (K w.params).In base → base.Ns mainGlobals mg → FnOk l.prog w (K w.params) mg base CX0 12 fa fd ["script"] (spLaw (K w.params))) :
    PySem.W.WalkO q loose XP YP l.row.toRowW d [] (fun f vs => PySem.call f vs) :=
  L2.walk_of (n := 63) (k := 12) (x := "script") (CX := fun _ => CX0) (sp := fun w => spLaw (K w.params)) hn (by decide) hdf ⟨rfl, by decide, by decide⟩ hY F (fun _ _ a ns hl _ hS => ⟨a, ns, rfl, hS, hl, fun _ => rfl⟩) fun _ _ _ _ _ z => z

end Toy
open PySem PySem.W PyProof.Rows in
set_option maxRecDepth 100000 in
set_option maxHeartbeats 0 in
theorem PySem.Challenge.cw_watchedways_k24_whole_sums_and_products_holds : PySem.Challenge.rw_watchedways_k24_whole_sums_and_products.Holds := by
  w_on; o_law; k_head; (case hw => w_witness2)
  k_fill
  refine Toy.walk (l := PySem.Challenge.rw_watchedways_k24_whole_sums_and_products) rfl rfl (fun w h Y => PySem.W.kIn_of Y) ?F
  case F =>
    intro w mg fa h KX G hmg
    refine' Toy.all_mk KX G hmg ?aRatio ?pgRatio ?hdRatio ?poRatio ?saRatio ?mkRatio ?kcRatio ?naRatio_top ?naRatio_bottom ?aWayError__init ?iWayError__init ?lWayError__init ?cWayError__init ?kWayError__init ?ais_integer ?lis_integer ?cis_integer ?kis_integer ?aRatio__init ?iRatio__init ?lRatio__init ?cRatio__init ?kRatio__init ?dRatio__init ?eRatio__init ?aRatio__eq ?iRatio__eq ?lRatio__eq ?cRatio__eq ?kRatio__eq ?aRatio__add ?iRatio__add ?lRatio__add ?cRatio__add ?kRatio__add ?aRatio__radd ?iRatio__radd ?lRatio__radd ?cRatio__radd ?kRatio__radd ?aRatio__sub ?iRatio__sub ?lRatio__sub ?cRatio__sub ?kRatio__sub ?aRatio__rsub ?iRatio__rsub ?lRatio__rsub ?cRatio__rsub ?kRatio__rsub ?aRatio__mul ?iRatio__mul ?lRatio__mul ?cRatio__mul ?kRatio__mul ?aRatio__rmul ?iRatio__rmul ?lRatio__rmul ?cRatio__rmul ?kRatio__rmul ?aRatio__neg ?iRatio__neg ?lRatio__neg ?cRatio__neg ?kRatio__neg ?aRatio_over ?iRatio_over ?lRatio_over ?cRatio_over ?kRatio_over ?aRatio_less ?iRatio_less ?lRatio_less ?cRatio_less ?kRatio_less ?ais_number ?lis_number ?cis_number ?kis_number ?aas_ratio ?las_ratio ?cas_ratio ?kas_ratio ?asum_of ?lsum_of ?csum_of ?ksum_of ?aproduct_of ?lproduct_of ?cproduct_of ?kproduct_of ?alaw_hand ?llaw_hand ?claw_hand ?klaw_hand ?alaw_draw ?llaw_draw ?claw_draw ?klaw_draw ?alaw_pair ?llaw_pair ?claw_pair ?klaw_pair ?alaw_by_turns ?llaw_by_turns ?claw_by_turns ?klaw_by_turns ?alaw_is ?llaw_is ?claw_is ?klaw_is ?alaw ?llaw ?claw ?klaw ?zabs ?zint ?zlen ?zrange ?zisinstance ?zlist ?zsum ?zbool ?aBN ?aWE ?agcd ?haR ?hnO ?htO ?hmR ?neR ?xBN ?saBN ?exBN ?tyBN ?kcBN ?inBN ?tiBN ?vaBN ?gaBN ?ggBN ?hdBN ?clBN ?moBN ?icBN ?sBB ?qRi ?qRb ?nfR ?sfR ?sIR ?sRI ?ioadd ?iradd ?iosub ?irsub ?iomul ?irmul ?qNoneType ?nNoneType ?qbool ?nbool ?qint ?nint ?qstr ?nstr ?qlist ?nlist ?qtuple ?ntuple ?qdict ?ndict
    (case aBN => k_is)
    (case aWE => k_is)
    (case aRatio => k_is)
    (case pgRatio => k_is)
    (case hdRatio => k_is)
    (case poRatio => k_is)
    (case saRatio => k_is)
    (case mkRatio => k_is)
    (case kcRatio => k_is)
    (case naRatio_top => k_is)
    (case naRatio_bottom => k_is)
    (case aWayError__init => k_is)
    (case iWayError__init => k_is)
    (case lWayError__init => k_is)
    (case cWayError__init => k_is)
    (case kWayError__init => k_is)
    (case ais_integer => k_is)
    (case lis_integer => k_is)
    (case cis_integer => k_is)
    (case kis_integer => k_is)
    (case aRatio__init => k_is)
    (case iRatio__init => k_is)
    (case lRatio__init => k_is)
    (case cRatio__init => k_is)
    (case kRatio__init => k_is)
    (case dRatio__init => k_is)
    (case eRatio__init => exact ⟨[_], _, rfl, .cons ⟨_, rfl⟩ .nil⟩)
    (case aRatio__eq => k_is)
    (case iRatio__eq => k_is)
    (case lRatio__eq => k_is)
    (case cRatio__eq => k_is)
    (case kRatio__eq => k_is)
    (case aRatio__add => k_is)
    (case iRatio__add => k_is)
    (case lRatio__add => k_is)
    (case cRatio__add => k_is)
    (case kRatio__add => k_is)
    (case aRatio__radd => k_is)
    (case iRatio__radd => k_is)
    (case lRatio__radd => k_is)
    (case cRatio__radd => k_is)
    (case kRatio__radd => k_is)
    (case aRatio__sub => k_is)
    (case iRatio__sub => k_is)
    (case lRatio__sub => k_is)
    (case cRatio__sub => k_is)
    (case kRatio__sub => k_is)
    (case aRatio__rsub => k_is)
    (case iRatio__rsub => k_is)
    (case lRatio__rsub => k_is)
    (case cRatio__rsub => k_is)
    (case kRatio__rsub => k_is)
    (case aRatio__mul => k_is)
    (case iRatio__mul => k_is)
    (case lRatio__mul => k_is)
    (case cRatio__mul => k_is)
    (case kRatio__mul => k_is)
    (case aRatio__rmul => k_is)
    (case iRatio__rmul => k_is)
    (case lRatio__rmul => k_is)
    (case cRatio__rmul => k_is)
    (case kRatio__rmul => k_is)
    (case aRatio__neg => k_is)
    (case iRatio__neg => k_is)
    (case lRatio__neg => k_is)
    (case cRatio__neg => k_is)
    (case kRatio__neg => k_is)
    (case aRatio_over => k_is)
    (case iRatio_over => k_is)
    (case lRatio_over => k_is)
    (case cRatio_over => k_is)
    (case kRatio_over => k_is)
    (case aRatio_less => k_is)
    (case iRatio_less => k_is)
    (case lRatio_less => k_is)
    (case cRatio_less => k_is)
    (case kRatio_less => k_is)
    (case ais_number => k_is)
    (case lis_number => k_is)
    (case cis_number => k_is)
    (case kis_number => k_is)
    (case aas_ratio => k_is)
    (case las_ratio => k_is)
    (case cas_ratio => k_is)
    (case kas_ratio => k_is)
    (case asum_of => k_is)
    (case lsum_of => k_is)
    (case csum_of => k_is)
    (case ksum_of => k_is)
    (case aproduct_of => k_is)
    (case lproduct_of => k_is)
    (case cproduct_of => k_is)
    (case kproduct_of => k_is)
    (case alaw_hand => k_is)
    (case llaw_hand => k_is)
    (case claw_hand => k_is)
    (case klaw_hand => k_is)
    (case alaw_draw => k_is)
    (case llaw_draw => k_is)
    (case claw_draw => k_is)
    (case klaw_draw => k_is)
    (case alaw_pair => k_is)
    (case llaw_pair => k_is)
    (case claw_pair => k_is)
    (case klaw_pair => k_is)
    (case alaw_by_turns => k_is)
    (case llaw_by_turns => k_is)
    (case claw_by_turns => k_is)
    (case klaw_by_turns => k_is)
    (case alaw_is => k_is)
    (case llaw_is => k_is)
    (case claw_is => k_is)
    (case klaw_is => k_is)
    (case alaw => k_is)
    (case llaw => k_is)
    (case claw => k_is)
    (case klaw => k_is)
    (case zabs => k_is)
    (case zint => k_is)
    (case zlen => k_is)
    (case zrange => k_is)
    (case zisinstance => k_is)
    (case zlist => k_is)
    (case zsum => k_is)
    (case zbool => k_is)
    (case agcd => k_is)
    (case haR => k_is)
    (case hnO => k_is)
    (case htO => k_is)
    (case hmR => k_is)
    (case neR => k_is)
    (case xBN => k_is)
    (case saBN => k_is)
    (case exBN => k_is)
    (case tyBN => k_is)
    (case kcBN => k_is)
    (case inBN => k_is)
    (case tiBN => k_is)
    (case vaBN => k_is)
    (case gaBN => k_is)
    (case ggBN => k_is)
    (case hdBN => k_is)
    (case clBN => k_is)
    (case moBN => k_is)
    (case icBN => k_is)
    (case sBB => k_is)
    (case qRi => first | k_is | kernel_rfl | decide +kernel)
    (case qRb => first | k_is | kernel_rfl | decide +kernel)
    (case nfR => k_is)
    (case sfR => k_is)
    (case sIR => k_is)
    (case sRI => k_is)
    (case ioadd => k_is)
    (case iradd => k_is)
    (case iosub => k_is)
    (case irsub => k_is)
    (case iomul => k_is)
    (case irmul => k_is)
    (case qNoneType => first | k_is | kernel_rfl | decide +kernel)
    (case nNoneType => k_is)
    (case qbool => first | k_is | kernel_rfl | decide +kernel)
    (case nbool => k_is)
    (case qint => first | k_is | kernel_rfl | decide +kernel)
    (case nint => k_is)
    (case qstr => first | k_is | kernel_rfl | decide +kernel)
    (case nstr => k_is)
    (case qlist => first | k_is | kernel_rfl | decide +kernel)
    (case nlist => k_is)
    (case qtuple => first | k_is | kernel_rfl | decide +kernel)
    (case ntuple => k_is)
    (case qdict => first | k_is | kernel_rfl | decide +kernel)
    (case ndict => k_is)

