import PyProof.Rows.All
import Wide.All
import OpenK.AllK
import Wide.FinOn
import KE.KExcIs
import HandS.ForMost
import HandS.ForExc
import HandS.Codes
import HandS.Wide
import HandS.IsInst
import HandS.ExcInit
import HandS.ExcField
import HandS.ExcIs
import HandS.TryMany
import HandS.CallSlots
import HandS.Defaults
import HandS.Gcd
import HandS.DeepEq
import HandS.Flow
import HandS.TupLe
import PyProof.SumWalk
import PyProof.Rows.CountFlat

import HandS.DictComp
import HandS.Head0
import HandS.Head1
import HandS.Head2
import HandS.Head3
import HandS.HeadEnd
import HandS.HeadHook1
import HandS.HeadHook2
import KE.KStateDown
import PySem.Challenge.RW_watchedways_k30_numbers
set_option Elab.async false
set_option linter.all false
set_option maxRecDepth 100000
set_option maxHeartbeats 4000000
set_option exponentiation.threshold 3000

/-! ### readings, step by step -/
namespace RD
open PySem L2
section
variable {σ : St} {H : Hp} {Q : VK} {B : Bool → Hp → Prop} {A : List V → Hp → Prop} {K : PySem.W.Frag} {v x y : V} {i j : Int} {n : Nat} {ta tb tc te : TE} {tA tB' : TT} {r r' : R2} {t : TA}
theorem d_var {n : Nat} {v : V} (e : σ[n]? = some (some v)) (h : Q v H) : tVar n σ H Q := ⟨v, e, h⟩
theorem d_c (h : Q v H) : tC v σ H Q := h
theorem d_op (h : ta σ H fun x H1 => tb σ H1 fun y H2 => r x y H2 Q) : tOp r ta tb σ H Q := h
theorem d_un {r : V → Hp → VK → Prop} (h : ta σ H fun x H1 => r x H1 Q) : tUn r ta σ H Q := h
theorem d_cb {r : List V → Hp → VK → Prop} (h : t σ H fun vs H1 => r vs H1 Q) : tCB r t σ H Q := h
theorem d_call {sp : Sp} {dvs : List V} {E : XK} (h : t σ H fun vs H1 => sp (vs ++ dvs) H1 Q E) : tCall sp dvs E t σ H Q := h
theorem d_nil (h : A [] H) : tNil σ H A := h
theorem d_cons {ta : TE} {tr : TA} (h : ta σ H fun x H1 => tr σ H1 fun xs H2 => A (x :: xs) H2) : tCons ta tr σ H A := h
theorem d_lst (h : t σ H fun xs H1 => xs.length ≤ sizeLine ∧ ∀ p, H1 p = none → Q (.ref p) (upd H1 p (.lst xs))) : tLst t σ H Q := h
theorem d_tup (h : t σ H fun xs H1 => xs.length ≤ sizeLine ∧ ∀ p, H1 p = none → Q (.ref p) (upd H1 p (.tup xs))) : tTup t σ H Q := h
theorem d_test (h : ta σ H fun x H' => ∃ k, x = .bl k ∧ B k H') : tTest ta σ H B := h
theorem d_tB (h : ta σ H fun x H' => ∃ k, x = .bl k ∧ B k H') : L2.tB ta σ H B := h
theorem d_bl {b : Bool} {R : Bool → Prop} (h : R b) : ∃ k, V.bl b = .bl k ∧ R k := ⟨b, rfl, h⟩
theorem d_and (h : tA σ H fun c H1 => if c = true then tB' σ H1 B else B false H1) : tAnd tA tB' σ H B := h
theorem d_or (h : tA σ H fun c H1 => if c = true then B true H1 else tB' σ H1 B) : tOr tA tB' σ H B := h
theorem d_not (h : tA σ H fun c H1 => B (!c) H1) : tNot tA σ H B := h
theorem d_andV (h : ta σ H fun x H1 => ∃ c, x = .bl c ∧ if c = true then tb σ H1 Q else Q (.bl false) H1) : tAndV ta tb σ H Q := h
theorem d_orV (h : ta σ H fun x H1 => ∃ c, x = .bl c ∧ if c = true then Q (.bl true) H1 else tb σ H1 Q) : tOrV ta tb σ H Q := h
theorem d_notV (h : ta σ H fun x H1 => ∃ c, x = .bl c ∧ Q (.bl (!c)) H1) : tNotV ta σ H Q := h
theorem d_if (h : tA σ H fun c H1 => if c = true then ta σ H1 Q else tb σ H1 Q) : tIf tA ta tb σ H Q := h
theorem d_rI0 {g : Int → Int → V} (h : Q (g i j) H) : rI0 g (.int i) (.int j) H Q := ⟨i, j, rfl, rfl, h⟩
theorem d_rI {C : Int → Int → Prop} {g : Int → Int → V} (c : C i j) (h : Q (g i j) H) : rI C g (.int i) (.int j) H Q := ⟨i, j, rfl, rfl, c, h⟩
theorem d_rU {g : Int → V} (h : Q (g i) H) : rU g (.int i) H Q := ⟨i, rfl, h⟩
theorem d_eqI (h : Q (.bl (decide (i = j))) H) : rEq (.int i) (.int j) H Q := ⟨rfl, by
  have e : decide (V.int i = V.int j) = decide (i = j) := by rw [dec_int, Bool.eq_iff_iff]; simp
  rw [e]; exact h⟩
theorem d_neI (h : Q (.bl (!decide (i = j))) H) : rNe (.int i) (.int j) H Q := ⟨rfl, by
  have e : decide (V.int i = V.int j) = decide (i = j) := by rw [dec_int, Bool.eq_iff_iff]; simp
  rw [e]; exact h⟩
theorem d_eqB {i j : Bool} (h : Q (.bl (decide (i = j))) H) : rEq (.bl i) (.bl j) H Q := ⟨rfl, by
  have e : decide (V.bl i = V.bl j) = decide (i = j) := by rw [dec_bl, Bool.eq_iff_iff]; simp
  rw [e]; exact h⟩
theorem d_eqS {i j : Str} (h : Q (.bl (decide (i = j))) H) : rEq (.str i) (.str j) H Q := ⟨rfl, by
  have e : decide (V.str i = V.str j) = decide (i = j) := by rw [dec_str, Bool.eq_iff_iff]; simp
  rw [e]; exact h⟩
theorem d_neS {i j : Str} (h : Q (.bl (!decide (i = j))) H) : rNe (.str i) (.str j) H Q := ⟨rfl, by
  have e : decide (V.str i = V.str j) = decide (i = j) := by rw [dec_str, Bool.eq_iff_iff]; simp
  rw [e]; exact h⟩
theorem d_ixL {p : Addr} {xs : List V} {v : V} (hs : SqL K H p xs) (e : atI xs i = some v) (h : Q v H) : rIxL K (.ref p) (.int i) H Q := ⟨p, xs, i, v, rfl, rfl, hs, e, h⟩
theorem d_ixT {p : Addr} {xs : List V} {v : V} (hs : SqT K H p xs) (e : atI xs i = some v) (h : Q v H) : rIxT K (.ref p) (.int i) H Q := ⟨p, xs, i, v, rfl, rfl, hs, e, h⟩
theorem d_setL {p : Addr} {xs : List V} {k : Nat} {R : Hp → Prop} (hp : H p = some (.lst xs)) (e : ixN xs.length i = some k) (h : R (upd H p (.lst (xs.set k v)))) : rSetL (.ref p) (.int i) v H R := ⟨p, xs, i, k, rfl, rfl, hp, e, h⟩
theorem d_gname {R : St → Hp → Prop} (h : R (σ.set n (some v)) H) : gName n v σ H R := h
theorem d_gsub {to ti : TE} {ts : TSet} {R : St → Hp → Prop} (h : to σ H fun o H1 => ti σ H1 fun i H2 => ts o i v H2 fun H3 => R σ H3) : gSub to ti ts v σ H R := h
section
variable {nx bk ct : St → Hp → Prop} {rt : VK} {u w : TS} {g : TG}
theorem d_seq (h : u ⟨w ⟨nx, rt, bk, ct⟩, rt, bk, ct⟩ σ H) : tSeq u w ⟨nx, rt, bk, ct⟩ σ H := h
theorem d_asg (h : te σ H fun x H1 => g x σ H1 nx) : tAsg te g ⟨nx, rt, bk, ct⟩ σ H := h
theorem d_ret (h : te σ H rt) : tRet te ⟨nx, rt, bk, ct⟩ σ H := h
theorem d_next (h : nx σ H) : tNext ⟨nx, rt, bk, ct⟩ σ H := h
theorem d_drop (h : te σ H fun _ H1 => nx σ H1) : tDrop te ⟨nx, rt, bk, ct⟩ σ H := h
theorem d_ifS (h : tA σ H fun b H1 => if b = true then u ⟨nx, rt, bk, ct⟩ σ H1 else w ⟨nx, rt, bk, ct⟩ σ H1) : tIfS tA u w ⟨nx, rt, bk, ct⟩ σ H := h
theorem d_cut (Mid : St → Hp → Prop) (h : u ⟨Mid, rt, bk, ct⟩ σ H) (k : ∀ σ' H', Mid σ' H' → w ⟨nx, rt, bk, ct⟩ σ' H') : C8.tCut u w ⟨nx, rt, bk, ct⟩ σ H := ⟨Mid, h, k⟩
theorem d_par {t : TA} {i j : Nat} (h : t σ H fun vs H1 => ∃ v w, vs = [v, w] ∧ nx ((σ.set i (some v)).set j (some w)) H1) : tPar i j t ⟨nx, rt, bk, ct⟩ σ H := h
end
def rInt1 : List V → Hp → VK → Prop := fun xs H Q => (∃ i, xs = [.int i] ∧ Q (.int i) H) ∨ ∃ k, xs = [.bl k] ∧ Q (.int (if k then 1 else 0)) H
theorem c_int {X : Cx} : CallR X (.type "int") rInt1 := call_int1
theorem d_int (h : Q (.int i) H) : rInt1 [.int i] H Q := .inl ⟨i, rfl, h⟩
theorem d_intB {b : Bool} (h : Q (.int (if b then 1 else 0)) H) : rInt1 [.bl b] H Q := .inr ⟨b, rfl, h⟩
def rAbs : List V → Hp → VK → Prop := fun xs H Q => ∃ i, xs = [.int i] ∧ Q (.int (if i < 0 then -i else i)) H
theorem c_abs {X : Cx} : CallR X (.builtin "abs") rAbs := call_abs
theorem d_abs (h : Q (.int (if i < 0 then -i else i)) H) : rAbs [.int i] H Q := ⟨i, rfl, h⟩
def rLen (K : PySem.W.Frag) : List V → Hp → VK → Prop := fun xs H Q => ∃ x n, xs = [x] ∧ LenV K x H n ∧ Q (.int n) H
theorem c_len {X : Cx} : CallR X (.builtin "len") (rLen X.K) := call_len
theorem d_lenL {p : Addr} {xs : List V} (hs : SqL K H p xs) (h : Q (.int xs.length) H) : rLen K [.ref p] H Q := ⟨_, _, rfl, .inl ⟨xs, hs, rfl⟩, h⟩
theorem d_lenT {p : Addr} {xs : List V} (hs : SqT K H p xs) (h : Q (.int xs.length) H) : rLen K [.ref p] H Q := ⟨_, _, rfl, .inr ⟨xs, hs, rfl⟩, h⟩
theorem d_lenS {z : Str} (hs : z.length ≤ sizeLine) (h : Q (.int z.length) H) : rLen K [.str z] H Q := ⟨_, _, rfl, ⟨hs, rfl⟩, h⟩
def rIsN : R2 := fun x y H Q => y = .non ∧ Q (.bl (decide (x = .non))) H
theorem o_isN {X : Cx} : OpR X (compareOp .Is) rIsN := op_isN
theorem d_isN (h : Q (.bl (decide (x = .non))) H) : rIsN x .non H Q := ⟨rfl, h⟩
def rNotN : R2 := fun x y H Q => y = .non ∧ Q (.bl (!decide (x = .non))) H
theorem o_notN {X : Cx} : OpR X (compareOp .IsNot) rNotN := op_notN
theorem d_notN (h : Q (.bl (!decide (x = .non))) H) : rNotN x .non H Q := ⟨rfl, h⟩
theorem d_iList {tl : TE} {R : It → Hp → Prop} (h : tl σ H fun x H1 => ∃ a, x = .ref a ∧ (∃ xs, SqL K H1 a xs) ∧ R (Itl K a) H1) : iList K tl σ H R := h
theorem d_refL {p : Addr} {xs : List V} {R : Addr → Prop} (hs : SqL K H p xs) (h : R p) : ∃ a, V.ref p = .ref a ∧ (∃ xs, SqL K H a xs) ∧ R a := ⟨p, rfl, ⟨xs, hs⟩, h⟩
theorem d_rng1 {t : TA} {R : It → Hp → Prop} (h : t σ H fun vs H1 => ∃ j : Int, vs = [.int j] ∧ -(2 ^ 62) ≤ j ∧ j < 2 ^ 62 ∧ R (Itr 0 j.toNat) H1) : iRng1 t σ H R := h
theorem d_lc {wi : TI} {g : TG} {tt : TT} {vs : List Nat} (h : wi σ H fun J H1 => ∀ D, H1 D = none → ∃ W : Nat → Nat → Hp → Prop, (∃ m, W 0 m (upd H1 D (.lst []))) ∧ ∀ i m H, W i m H →
  (J.stop i H ∧ Q (.ref D) H) ∨ (J.go i H ∧ ∃ Nx : Hp → Prop, (∀ H', Nx H' → ∃ m', m' < m ∧ W (i + 1) m' H') ∧ ∀ x H', J.yld i H x H' → g x (wipe σ vs) H' fun σ2 H2 => wipe σ2 vs = wipe σ vs ∧ tt σ2 H2 fun b H3 =>
    if b = true then te σ2 H3 fun y H4 => ∃ acc, H4 D = some (.lst acc) ∧ acc.length < sizeLine ∧ Nx (upd H4 D (.lst (acc ++ [y]))) else Nx H3)) : tLc wi g tt te vs σ H Q := h
theorem d_yes (h : B true H) : tYes σ H B := h
theorem d_iteT {X Y : Prop} (h : X) : if true = true then X else Y := by rw [if_pos rfl]; exact h
theorem d_iteF {X Y : Prop} (h : Y) : if false = true then X else Y := by rw [if_neg Bool.false_ne_true]; exact h
theorem d_wipe {R : Prop} {vs : List Nat} {σ' : St} (e : wipe σ' vs = wipe σ vs) (h : R) : wipe σ' vs = wipe σ vs ∧ R := ⟨e, h⟩
theorem d_sl {r : V → Option Int → Option Int → Hp → VK → Prop} {tl th : TO} (h : te σ H fun x H1 => tl σ H1 fun l H2 => th σ H2 fun u H3 => r x l u H3 Q) : tSl r te tl th σ H Q := h
theorem d_noPart {Q : Option Int → Hp → Prop} (h : Q none H) : tNoPart σ H Q := h
theorem d_part {Q : Option Int → Hp → Prop} (h : te σ H fun x H1 => ∃ i, x = .int i ∧ Q (some i) H1) : tPart te σ H Q := h
theorem d_exI {R : Int → Prop} (h : R i) : ∃ k, V.int i = .int k ∧ R k := ⟨i, rfl, h⟩
theorem d_isi {c : V} {t u : Value} {b : Bool} (hc : ClsV c u) (ty : TyX K H x t) (e : PySem.W.kitOne K t u = some b) (h : Q (.bl b) H) : rIsi K [x, c] H Q := ⟨x, c, t, u, b, rfl, hc, ty, e, h⟩
theorem d_fld {f : Str} (h : ta σ H fun x H1 => ∃ a C dx fs v, x = .ref a ∧ H1 a = some (.ins C dx fs) ∧ Cls K C ∧ NoAttr K C f ∧ fs.lookup f = some v ∧ Q v H1) : tFld K ta f σ H Q := h
theorem d_iteNF {X Y : Prop} (h : X) : if (!false) = true then X else Y := by rw [if_pos (show (!false) = true from rfl)]; exact h
theorem d_iteNT {X Y : Prop} (h : Y) : if (!true) = true then X else Y := by rw [if_neg (by decide)]; exact h
theorem d_iteDT {P X Y : Prop} {inst : Decidable P} (c : P) (h : X) : if decide P = true then X else Y := by rw [if_pos (decide_eq_true c)]; exact h
theorem d_iteDF {P X Y : Prop} {inst : Decidable P} (c : ¬ P) (h : Y) : if decide P = true then X else Y := by rw [if_neg (by simpa using c)]; exact h
theorem d_gcd (h : Q (.int ((Nat.gcd i.natAbs j.natAbs : Nat) : Int)) H) : rGcd [.int i, .int j] H Q := ⟨i, j, rfl, h⟩
theorem d_sfld {f : Str} {tv : TE} {nx bk ct : St → Hp → Prop} {rt : VK} (h : tv σ H fun y H1 => ta σ H1 fun x H2 => ∃ a C dx fs, x = .ref a ∧ H2 a = some (.ins C dx fs) ∧ Cls K C ∧ NoAttr K C f ∧ fs.length < 1000 ∧
  nx σ (upd H2 a (.ins C dx (putF f y fs)))) : sFld K ta tv f ⟨nx, rt, bk, ct⟩ σ H := h
theorem d_for {wi : TI} {g : TG} {tb : TS} {nx bk ct : St → Hp → Prop} {rt : VK} (h : wi σ H fun J H1 => ∃ W : Nat → Nat → St → Hp → Prop, (∃ m, W 0 m σ H1) ∧ ∀ i m σ H, W i m σ H →
  (J.stop i H ∧ nx σ H) ∨ (J.go i H ∧ ∃ N : St → Hp → Prop, (∀ σ' H', N σ' H' → ∃ m', m' < m ∧ W (i + 1) m' σ' H') ∧ ∀ x H', J.yld i H x H' → g x σ H' fun σ2 H2 => tb ⟨N, rt, nx, N⟩ σ2 H2)) :
  tFor wi g tb ⟨nx, rt, bk, ct⟩ σ H := h
theorem f_range {lo : Int} {n : Nat} {g : TG} {tb : TS} {nx : St → Hp → Prop} {rt : VK} (Pv : Nat → St → Hp → Prop) (h0 : Pv 0 σ H)
    (hs : ∀ i σ H, i < n → Pv i σ H → g (.int (lo + i)) σ H fun σ2 H2 => tb ⟨Pv (i + 1), rt, nx, Pv (i + 1)⟩ σ2 H2) (hd : ∀ σ H, Pv n σ H → nx σ H) :
    ∃ W : Nat → Nat → St → Hp → Prop, (∃ m, W 0 m σ H) ∧ ∀ i m σ H, W i m σ H → ((Itr lo n).stop i H ∧ nx σ H) ∨ ((Itr lo n).go i H ∧ ∃ N : St → Hp → Prop, (∀ σ' H', N σ' H' → ∃ m', m' < m ∧ W (i + 1) m' σ' H') ∧
      ∀ x H', (Itr lo n).yld i H x H' → g x σ H' fun σ2 H2 => tb ⟨N, rt, nx, N⟩ σ2 H2) := for_range (D := ⟨nx, rt, fun _ _ => False, fun _ _ => False⟩) Pv h0 hs hd
theorem f_list {K : PySem.W.Frag} {a : Addr} {xs : List V} {g : TG} {tb : TS} {nx : St → Hp → Prop} {rt : VK} (Pv : Nat → St → Hp → Prop) (h0 : Pv 0 σ H) (hl : ∀ i σ H, i ≤ xs.length → Pv i σ H → SqL K H a xs)
    (hs : ∀ i x σ H, xs[i]? = some x → Pv i σ H → g x σ H fun σ2 H2 => tb ⟨Pv (i + 1), rt, nx, Pv (i + 1)⟩ σ2 H2) (hd : ∀ σ H, Pv xs.length σ H → nx σ H) :
    ∃ W : Nat → Nat → St → Hp → Prop, (∃ m, W 0 m σ H) ∧ ∀ i m σ H, W i m σ H → ((Itl K a).stop i H ∧ nx σ H) ∨ ((Itl K a).go i H ∧ ∃ N : St → Hp → Prop, (∀ σ' H', N σ' H' → ∃ m', m' < m ∧ W (i + 1) m' σ' H') ∧
      ∀ x H', (Itl K a).yld i H x H' → g x σ H' fun σ2 H2 => tb ⟨N, rt, nx, N⟩ σ2 H2) := for_list (D := ⟨nx, rt, fun _ _ => False, fun _ _ => False⟩) Pv h0 hl hs hd
theorem iteD {P X Y : Prop} {inst : Decidable P} (h1 : P → X) (h2 : ¬ P → Y) : if decide P = true then X else Y := by
  by_cases h : P
  · rw [if_pos (decide_eq_true h)]; exact h1 h
  · rw [if_neg (by simpa using h)]; exact h2 h
theorem iteN {P X Y : Prop} {inst : Decidable P} (h1 : ¬ P → X) (h2 : P → Y) : if (!decide P) = true then X else Y := by
  by_cases h : P
  · rw [if_neg (by simpa using h)]; exact h2 h
  · rw [if_pos (by simpa using h)]; exact h1 h
end
end RD

/-! ### own == and != of a class of the text -/
namespace OQ
open PySem L2 PySem.Spec PyProof.Rows
section
variable {X : Cx} {CX : CXT} {C f : Addr} {fd : FuncData} {ps : List Str} {sp : Sp} {E : XK} {k : Nat}
/-- a def of the text called somewhere below the body that runs -/
theorem run_at {A : Around} (hA : A.frames = X.A.frames) (hr : Room k A) {pins : List (Addr × Obj)} {σ : L2.St} {H : Hp} {s : Shared} {Q : VK} {us : List Value} {vs : List V}
    (F : FnOk X.prog X.w X.K X.mg X.base CX k f fd ps sp) (hb : Binds X.K fd ps []) (hx : Passes CX X E) (I : Inv X pins σ H s) (r : Vals vs us) (h : sp vs H Q E) :
    wpAny (model X.prog X.w) A (call (.ref f) us) (EP X pins σ Q) X.xe s := by
  have z := I.env0
  have e0 : Env0 X.prog X.w X.K X.mg X.base A X.stack s H := ⟨hA ▸ z.frames, z.mod, z.bs, z.bsz, z.funs, z.frf, z.hok, z.bare⟩
  have hl : us.length = ps.length := by rw [← r.length]; exact F.len _ _ _ _ h
  have b := hb s us I.kIn (by rw [List.append_nil]; exact hl)
  rw [List.append_nil] at b
  refine wpAny_call (codeAny_mono (F.run A X.stack s H ⟨us, []⟩ us vs Q E hr e0 b r h) ?_)
  rintro (e | fl) s' hq
  · exact hx pins σ H s e s' I hq
  · cases fl with
    | ret u => exact I.after hq
    | next => exact hq.elim
    | brk => exact hq.elim
    | cont => exact hq.elim
theorem cmpBack_of {pins : List (Addr × Obj)} {σ : L2.St} {Q : VK} {u : Value} {s' : Shared} (h : EP X pins σ Q u s') : PySem.W.CmpBack (EP X pins σ Q) u s' := by
  obtain ⟨v, H', I', r, q⟩ := h
  have e : EP X pins σ Q u s' := ⟨v, H', I', r, q⟩
  cases u <;> first
    | exact e
    | (exfalso; cases v <;> first | exact Value.noConfusion r | (obtain ⟨t, rt⟩ := r; exact Value.noConfusion rt))
/-- x == y by the __eq__ of x's class -/
def rOwnEq (K : PySem.W.Frag) (C : Addr) (sp : Sp) (E : XK) : R2 := fun x y H Q => ∃ a dx fs t, x = .ref a ∧ H a = some (.ins C dx fs) ∧ TyX K H y t ∧ PySem.W.notFirst K C t = true ∧ sp [x, y] H Q E
theorem op_ownEq (F : FnOk X.prog X.w X.K X.mg X.base CX k f fd ps sp) (hr : Room k X.A) (hs : PySem.W.findIn X.K (.ref C) "__eq__" = some (some (.ref f))) (hf : PySem.W.isFn X.K (.ref f) = true)
    (hb : Binds X.K fd ps []) (hx : Passes CX X E) : OpR X (compareOp .Eq) (rOwnEq X.K C sp E) := by
  intro pins s σ H x y v u Q I rx ry hq
  obtain ⟨a, dx, fs, t, rfl, ha, ty, nf, q⟩ := hq
  cases rx
  obtain ⟨_, J0, _⟩ := ins_get I.hok ha
  obtain ⟨_, J, _⟩ := J0.look
  obtain ⟨_, hF⟩ := I.fr
  obtain ⟨_, kx, hp, _⟩ := kit_of I ry ty
  exact PySem.W.cmp_K (op := .Eq) hr.units0 hF I.ok.mod.kin J (kx.ty _ _ I.kIn hp) nf hs hf
    (wpAny_mono (run_at rfl hr F hb hx I (vs := [V.ref a, y]) (us := [Value.ref a, u]) (Paired.cons (show RelV (V.ref a) (Value.ref a) from rfl) (Paired.cons ry .nil)) q) (fun _ _ z => cmpBack_of z) fun _ _ z => z)
/-- looking a builtin slot up at an instance and calling it -/
theorem ifBound_B {M : Model} {A : Around} {E : Value → Shared → Prop} {s : Shared} {K : PySem.W.Frag} {x C : Addr} {ox : Obj} {od : Option Obj} {name : Str} {id : String} {args : List Value} {Q : Option Value → Shared → Prop} (Z : K.In s.heap)
    (I : PySem.W.InstAt s.heap x ox C od) (hs : PySem.W.findIn K (.ref C) name = some (some (.builtin id))) (S : bindSpecial (.builtin id) (.ref x) = pure (Value.builtin id, [Value.ref x]))
    (h : wpAny M A (call (.builtin id) (.ref x :: args)) (fun v => Q (some v)) E s) : wpAny M A (callSpecialIfBound? (.ref x) name args) Q E s := by
  have fin : wpAny M A (call (.builtin id) ([Value.ref x] ++ args) >>= fun v => pure (some v)) Q E s :=
    wpAny_bind (wpAny_mono h (fun _ _ z => wpAny_pure z) fun _ _ z => z)
  have tail : wpAny M A (some <$> (pure (Value.builtin id, [Value.ref x]) : Sem (Value × List Value))) (fun a s' => wpAny M A (match a with
    | some (g, first) => call g (first ++ args) >>= fun v => pure (some v)
    | none => pure none) Q E s') E s := wpAny_bind (wpAny_pure (wpAny_pure fin))
  simp only [callSpecialIfBound?, bindSpecialIfBound?]
  refine wpAny_holding ?_
  refine wpAny_bind ?_
  refine wpAny_bind ?_
  refine wpAny_bind (I.type.here ?_)
  refine (PySem.W.looks_findIn Z hs).here ?_
  simp only [S]
  refine wpAny_bind ?_
  refine wpAny_askSetting ?_
  refine wpAny_ite ?_
  split
  · refine wpAny_bind ?_
    exact wpAny_pure (wpAny_pure fin)
  · refine wpAny_tryCatch ?_
    refine wpAny_bind ?_
    exact wpAny_pure (wpAny_pure fin)
/-- object.__ne__(x, y) by the own __eq__ -/
theorem ne_body {M : Program} {w : World} {A : Around} {E : Value → Shared → Prop} {s : Shared} {K : PySem.W.Frag} {x C f : Addr} {ox : Obj} {od : Option Obj} {b : Value} {Q : Fin → Shared → Prop} (Z : K.In s.heap) (hu : A.units < cLine)
    (I : PySem.W.InstAt s.heap x ox C od) (hs : PySem.W.findIn K (.ref C) "__eq__" = some (some (.ref f))) (hf : PySem.W.isFn K (.ref f) = true)
    (h : wpAny (model M w) A (call (.ref f) [.ref x, b]) (fun v s' => ∃ r, v = .bool r ∧ Q (.done (.ret (.bool (!r)))) s') E s) :
    wpAny (model M w) A (Builtin.«object.__ne__» ⟨[.ref x, b], []⟩) Q E s := by
  unfold Builtin.«object.__ne__»
  have step : wpAny (model M w) A (callSpecialIfBound? (.ref x) "__eq__" [b]) (fun o s' => ∃ r, o = some (.bool r) ∧ Q (.done (.ret (.bool (!r)))) s') E s :=
    PySem.W.ifBound_K Z I hs hf (wpAny_mono h (fun v s' ⟨r, e, q⟩ => ⟨r, by rw [e], q⟩) fun _ _ z => z)
  refine wpAny_bind (wpAny_of_eq (a := ((Value.ref x : Value), [b])) (by first | rfl | (simp only [slotArgs]; rfl)) ?_)
  dsimp only
  refine wpAny_bind (wpAny_cRoomFor hu ?_)
  refine wpAny_bind (wpAny_mono step (fun o s' hv => ?_) fun _ _ z => z)
  obtain ⟨r, rfl, q⟩ := hv
  dsimp only
  refine wpAny_bind ?_
  refine wpAny_truthy_bool ?_
  exact wpAny_pure q
end
/-- x != y by the __eq__ of x's class -/
def rOwnNe (K : PySem.W.Frag) (C : Addr) (sp : Sp) (E : XK) : R2 := fun x y H Q => ∃ a dx fs t, x = .ref a ∧ H a = some (.ins C dx fs) ∧ TyX K H y t ∧ PySem.W.notFirst K C t = true ∧ sp [x, y] H (fun v H' => ∃ r, v = .bl r ∧ Q (.bl (!r)) H') E
section
variable {X : Cx} {CX : CXT} {C f : Addr} {fd : FuncData} {ps : List Str} {sp : Sp} {E : XK} {k : Nat}
theorem op_ownNe (F : FnOk X.prog X.w X.K X.mg X.base CX k f fd ps sp) (hr : Room (k + 1) X.A) (hs : PySem.W.findIn X.K (.ref C) "__eq__" = some (some (.ref f))) (hf : PySem.W.isFn X.K (.ref f) = true)
    (hn : PySem.W.findIn X.K (.ref C) "__ne__" = some (some (.builtin "object.__ne__"))) (hm : PySem.W.mroIn X.K C (.type "object") = some true)
    (hb : Binds X.K fd ps []) (hx : Passes CX X E) : OpR X (compareOp .NotEq) (rOwnNe X.K C sp E) := by
  intro pins s σ H x y v u Q I rx ry hq
  obtain ⟨a, dx, fs, t, rfl, ha, ty, nf, q⟩ := hq
  cases rx
  obtain ⟨_, J0, _⟩ := ins_get I.hok ha
  obtain ⟨_, J, _⟩ := J0.look
  obtain ⟨_, hF⟩ := I.fr
  obtain ⟨_, kx, hp, _⟩ := kit_of I ry ty
  have hlook := kx.ty (model X.prog X.w) _ I.kIn hp
  have hu := hr.units0
  have body := ne_body (M := X.prog) (w := X.w) (A := X.A.in1) (E := X.xe) (b := u) (Q := fun fin s' => ∃ r : Bool, fin = .done (.ret (.bool r)) ∧ EP X pins σ Q (.bool r) s') I.kIn hr.in1.units0 J hs hf
    (wpAny_mono (run_at (A := X.A.in1) rfl hr.in1 F hb hx I (vs := [V.ref a, y]) (us := [Value.ref a, u]) (Paired.cons (show RelV (V.ref a) (Value.ref a) from rfl) (Paired.cons ry .nil)) q) (fun w' s' z => by
      obtain ⟨v', H', I', rr, r, e, q'⟩ := z
      subst e
      exact ⟨r, rr, !r, rfl, .bl (!r), H', I', rfl, q'⟩) fun _ _ z => z)
  have one : wpAny (model X.prog X.w) X.A (tryCompare (.ref a) "__ne__" u) (fun o s' => ∃ r : Bool, o = some (.bool r) ∧ EP X pins σ Q (.bool r) s') X.xe s := by
    unfold tryCompare
    refine wpAny_bind (ifBound_B I.kIn J hn (PySem.F.cmp_object.ne.bind _) (wpAny_call (codeAny_call_builtin PySem.F.cmp_object.ne.plain PySem.F.cmpEntry_ne ?_)))
    refine PySem.W.check_slot PySem.F.cmpKind_ne PySem.F.cmpSplit_ne (J.type.andThen (PySem.W.looks_mroIn I.kIn hm)) (PySem.F.cmpArgs_ne _ _) ?_
    refine wpAny_mono body (fun fin s' z => ?_) fun _ _ z => z
    obtain ⟨r, rfl, ep⟩ := z
    exact wpAny_pure ⟨r, rfl, ep⟩
  show wpAny (model X.prog X.w) X.A (richCompare .NotEq (.ref a) u) (EP X pins σ Q) X.xe s
  unfold richCompare
  simp only [oneThing_ref]
  refine wpAny_holding ?_
  refine wpAny_bind (wpAny_cRoomFor hu ?_)
  refine wpAny_bind (J.type.here ?_)
  refine wpAny_bind (hlook.here ?_)
  have fin : ∀ {β : Type} {z : Value → Sem Value} {y : Sem Value}, True := fun {_ _ _} => trivial
  split
  · rename_i qq
    have e : PySem.W.subIn X.K t (.ref C) = some false := by
      rcases Bool.or_eq_true_iff.mp nf with e | e
      · rw [beq_iff_eq.mp e] at qq
        simp at qq
      · exact beq_iff_eq.mp e
    refine wpAny_bind ((PySem.W.looks_subIn I.kIn e).here ?_)
    simp only [Bool.false_eq_true, if_false]
    refine wpAny_bind (wpAny_mono one (fun o s' z => ?_) fun _ _ z => z)
    obtain ⟨r, rfl, ep⟩ := z
    exact wpAny_pure ep
  · refine wpAny_bind (wpAny_pure ?_)
    simp only [Bool.false_eq_true, if_false]
    refine wpAny_bind (wpAny_mono one (fun o s' z => ?_) fun _ _ z => z)
    obtain ⟨r, rfl, ep⟩ := z
    exact wpAny_pure ep
end
end OQ

/-! ### errors: isinstance of a caught one that has fields; making an instance within a try -/
namespace OQ
open PySem L2 PySem.Spec PyProof.Rows
/-- isinstance(e, c), e the error that the suite holds at a: its class cls, its dict d -/
def rIsX (K : PySem.W.Frag) (D a : Addr) (cls : Value) (d : Option Addr) : List V → Hp → VK → Prop := fun xs H Q => ∃ (c : V) (cv : Value) (b : Bool) (dd : Addr) (fs : List (Str × V)),
  xs = [.ref a, c] ∧ cls = .ref D ∧ d = some dd ∧ H dd = some (.xd fs) ∧ ClsV c cv ∧ PySem.W.kitOne K (.ref D) cv = some b ∧ Q (.bl b) H
theorem call_isX {X : Cx} {a D : Addr} {cls : Value} {d : Option Addr} {oe : Obj} {pn : List (Addr × Obj)} (C : ExcC X.K D) (hz : Zc cls d oe) (hf : ∃ vs, oe.data = .fields vs) :
    CallR (X.suite a ((a, oe) :: pn)) (.builtin "isinstance") (rIsX X.K D a cls d) := by
  rintro pins s σ H xs us Q I r ⟨c, cv, b, dd, fs, rfl, rfl, rfl, hx, hc, e, q⟩
  cases r with
  | cons rx rr => cases rr with
    | cons rt rr =>
      cases rr
      cases rx
      have ec := hc.eq rt
      subst ec
      obtain ⟨hget, _⟩ := I.pin (a, oe) (List.mem_append_left _ (List.mem_cons_self ..))
      obtain ⟨vs, hv⟩ := hf
      obtain ⟨_, hns, _⟩ := (show ObjOk X.prog X.w H s.heap dd (.xd fs) from I.hok dd _ hx)
      obtain ⟨od, ho, _⟩ := lookIn_ns hns
      have J : PySem.W.InstAt s.heap a oe D (some od) := ⟨hget, hz.1, (by unfold PySem.W.notCls; rw [hv] <;> rfl), (by rw [hz.2]; exact ho)⟩
      have hcl : (PySem.W.clsIn X.K D).isSome = true := by
        obtain ⟨cd, h1, _⟩ := PySem.W.any_some C.hd
        rw [h1]; rfl
      exact PySem.W.kia_one (PySem.W.kitx_exc hcl C.hg C.hk C.hs C.ha C.hn C.ht C.hm) I.kIn J e (fun z => Value.noConfusion z) fun tk => ⟨.bl b, H, I.kept (t' := tk) fun _ _ z => z, rfl, q⟩
section
variable {X : Cx} {CX : CXT} {C f : Addr} {fd : FuncData} {ps : List Str} {sp : Sp} {k : Nat} {ds : List Value} {dvs : List V} {E : L2.St → XK} {x : Str} {p pos : Pos} {e : Expr} {es : List Expr} {t : TA}
/-- C(e, ..), what is raised wished for at the slots -/
def tMakeS (C : Addr) (sp : Sp) (dvs : List V) (E : L2.St → XK) (t : TA) : TE := fun σ H Q => t σ H fun vs H1 => ∀ x dx, H1 x = none → H1 dx = none → dx ≠ x →
  sp (.ref x :: (vs ++ dvs)) (upd (upd H1 dx (.own x)) x (.ins C dx [])) (fun v H2 => v = .non ∧ Q (.ref x) H2) (E σ)
theorem pe_makeS (M : Mk X.K C f) (F : FnOk X.prog X.w X.K X.mg X.base CX k f fd ps sp) (hr : Room (k + 1) X.A) (hg : Gl X x) (hm : X.mg x = some (.ref C)) (hb : Binds X.K fd ps ds) (hd : Vals dvs ds)
    (hx : ∀ σ, PassesAt CX X σ (E σ)) (ha : PA X (e :: es) t) (hdb : (x == ("__debug__" : Str)) = false := by decide)
    (he : starEach (e :: es) X.env = (false, eval e X.env) :: starEach es X.env := by rfl) (hpl : (backTo pos (starEach es X.env)).any (·.1) = false := by rfl) :
    PE X (.Call (.Name x p) (e :: es) [] pos) (tMakeS C sp dvs E t) := by
  refine ⟨fun pins s σ H Q I h => ?_⟩
  refine wpAny_Call_Name_kw (ld_glob I hg hm ?_ hdb)
  refine PySem.W.callWith_K (h₀ := X.base) I.ok.mod.kin M.kp (thn (ha.run pos pins s σ H _ I h) ?_) he hpl
  rintro us s1 ⟨vs, H1, I1, r, q⟩
  refine ⟨I1.kIn, ?_⟩
  have nx : H1 (s1.heap.objs.size + 1) = none := I1.hok.fresh (Nat.le_succ _)
  have ndx : H1 s1.heap.objs.size = none := I1.hok.fresh (Nat.le_refl _)
  have hq := q _ _ nx ndx (Nat.ne_of_lt (Nat.lt_succ_self _))
  have I2 := Inv.made (C := C) I1
  have r2 : Vals (V.ref (s1.heap.objs.size + 1) :: (vs ++ dvs)) (Value.ref (s1.heap.objs.size + 1) :: (us ++ ds)) := .cons rfl (r.append hd)
  have hl : (Value.ref (s1.heap.objs.size + 1) :: us ++ ds).length = ps.length := (r2.length.symm).trans (F.len _ _ _ _ hq)
  refine wpAny_call (make_map (f := f) I1.kIn M.makes M.init (beq_iff_eq.mp M.fn) (codeAny_mono (F.run _ X.stack _ _ _ _ _ _ (E σ) (hr.make C us []) (I2.env0.make C us []) (hb _ (_ :: us) I2.kIn hl) r2 hq) ?_))
  rintro (er | fl) s' hq'
  · exact hx σ pins _ _ er s' I2 hq'
  · cases fl with
    | ret u =>
      obtain ⟨v, H', I3, rv, ev, q3⟩ := I2.after hq'
      subst ev
      exact ⟨rv, V.ref (s1.heap.objs.size + 1), H', I3, rfl, q3⟩
    | next => exact hq'.elim
    | brk => exact hq'.elim
    | cont => exact hq'.elim
end
/-- // by a divisor of either sign, below 2 ^ 9000 -/
def CDivX (_ j : Int) : Prop := j ≠ 0 ∧ j.natAbs.log2 < 9000
theorem op_fdivX {X : Cx} : OpR X (binaryOp .FloorDiv) (rI CDivX fun i j => .int (i.fdiv j)) := opI fun i j _ _ _ _ _ hc q => floordiv_int hc.1 q (.inl (PyProof.noPylong_of_log2 hc.2))
end OQ

namespace RM
/-- what both parts are divided by -/
def shr (i j : Int) : Int := if j < 0 then -((Nat.gcd i.natAbs j.natAbs : Nat) : Int) else ((Nat.gcd i.natAbs j.natAbs : Nat) : Int)
theorem gcd_pos {i j : Int} (h : j ≠ 0) : 0 < Nat.gcd i.natAbs j.natAbs := Nat.gcd_pos_of_pos_right _ (Int.natAbs_pos.mpr h)
theorem shr_ne {i j : Int} (h : j ≠ 0) : shr i j ≠ 0 := by
  have := gcd_pos (i := i) h
  unfold shr; split <;> omega
theorem shr_le {i j : Int} (h : j ≠ 0) : (shr i j).natAbs ≤ j.natAbs := by
  have := Nat.gcd_le_right i.natAbs (Int.natAbs_pos.mpr h)
  unfold shr; split <;> omega
theorem num_eq {i j : Int} (h : j ≠ 0) : i.fdiv (shr i j) = (Rat.divInt i j).num := by
  have g0 := gcd_pos (i := i) h
  have hd : ((Nat.gcd i.natAbs j.natAbs : Nat) : Int) ∣ i := Int.ofNat_dvd_left.mpr (Nat.gcd_dvd_left _ _)
  obtain ⟨k, hk⟩ := hd
  have e : j.gcd i = Nat.gcd i.natAbs j.natAbs := Nat.gcd_comm _ _
  rw [Rat.num_divInt, e]
  unfold shr
  generalize Nat.gcd i.natAbs j.natAbs = g at *
  split
  · rename_i hj
    rw [Int.sign_eq_neg_one_of_neg hj]
    have e1 : i = (-(g : Int)) * (-k) := by rw [hk, Int.neg_mul_neg]
    have e2 : -1 * i = (g : Int) * (-k) := by rw [hk, Int.mul_neg]; omega
    rw [e2, Int.mul_ediv_cancel_left _ (by omega)]
    conv => lhs; rw [e1]
    exact Int.mul_fdiv_cancel_left _ (by omega)
  · rename_i hj
    rw [Int.sign_eq_one_of_pos (by omega), Int.one_mul]
    conv => lhs; rw [hk]
    conv => rhs; rw [hk]
    rw [Int.mul_fdiv_cancel_left _ (by omega), Int.mul_ediv_cancel_left _ (by omega)]
theorem den_eq {i j : Int} (h : j ≠ 0) : j.fdiv (shr i j) = ((Rat.divInt i j).den : Int) := by
  have g0 := gcd_pos (i := i) h
  have hd : ((Nat.gcd i.natAbs j.natAbs : Nat) : Int) ∣ j := Int.ofNat_dvd_left.mpr (Nat.gcd_dvd_right _ _)
  obtain ⟨k, hk⟩ := hd
  have e : j.gcd i = Nat.gcd i.natAbs j.natAbs := Nat.gcd_comm _ _
  rw [Rat.den_divInt, if_neg h, e]
  unfold shr
  generalize Nat.gcd i.natAbs j.natAbs = g at *
  have ea : j.natAbs / g = k.natAbs := by rw [hk, Int.natAbs_mul, Int.natAbs_natCast, Nat.mul_div_cancel_left _ g0]
  rw [ea]
  split
  · rename_i hj
    have kn : k < 0 := by
      rcases Int.lt_or_le k 0 with q | q
      · exact q
      · have := Int.mul_nonneg (Int.natCast_nonneg g) q
        omega
    have e1 : j = (-(g : Int)) * (-k) := by rw [hk, Int.neg_mul_neg]
    conv => lhs; rw [e1]
    rw [Int.mul_fdiv_cancel_left _ (by omega)]
    omega
  · rename_i hj
    have kn : 0 ≤ k := by
      rcases Int.lt_or_le k 0 with q | q
      · have := Int.mul_neg_of_pos_of_neg (show (0 : Int) < g by omega) q
        omega
      · exact q
    conv => lhs; rw [hk]
    rw [Int.mul_fdiv_cancel_left _ (by omega)]
    omega
end RM

namespace OQ
open PySem L2
/-- one of two rules -/
theorem op_or {X : Cx} {f : Value → Value → Sem Value} {r1 r2 : R2} (h1 : OpR X f r1) (h2 : OpR X f r2) : OpR X f (fun x y H Q => r1 x y H Q ∨ r2 x y H Q) :=
  fun pins s σ H x y v u Q I rx ry h => h.elim (h1 pins s σ H x y v u Q I rx ry) (h2 pins s σ H x y v u Q I rx ry)
/-- what lets nothing out where the wish is empty -/
theorem passN {X : Cx} : Passes (L2.CX X.prog X.w) X E0 := fun pins σ H s e s' I h => by
  obtain ⟨_, _, _, _, _, _, _, _, _, _, _, _, f⟩ := h
  exact f.elim
section
variable {σ : L2.St} {H : Hp} {Q : VK} {K : PySem.W.Frag}
theorem d_makeS {C : Addr} {sp : Sp} {dvs : List V} {E : L2.St → XK} {t : TA} (h : t σ H fun vs H1 => ∀ x dx, H1 x = none → H1 dx = none → dx ≠ x →
  sp (.ref x :: (vs ++ dvs)) (upd (upd H1 dx (.own x)) x (.ins C dx [])) (fun v H2 => v = .non ∧ Q (.ref x) H2) (E σ)) : tMakeS C sp dvs E t σ H Q := h
theorem d_make {C : Addr} {sp : Sp} {dvs : List V} {E : XK} {t : TA} (h : t σ H fun vs H1 => ∀ x dx, H1 x = none → H1 dx = none → dx ≠ x →
  sp (.ref x :: (vs ++ dvs)) (upd (upd H1 dx (.own x)) x (.ins C dx [])) (fun v H2 => v = .non ∧ Q (.ref x) H2) E) : tMake C sp dvs E t σ H Q := h
end
end OQ
namespace OQ
open PySem L2
theorem d_isX {K : PySem.W.Frag} {D a : Addr} {cls : Value} {d : Option Addr} {H : Hp} {Q : VK} {c : V} {cv : Value} {b : Bool} {dd : Addr} {fs : List (Str × V)} (e1 : cls = .ref D) (e2 : d = some dd) (hx : H dd = some (.xd fs)) (hc : ClsV c cv)
    (e : PySem.W.kitOne K (.ref D) cv = some b) (h : Q (.bl b) H) : rIsX K D a cls d [.ref a, c] H Q := ⟨c, cv, b, dd, fs, rfl, e1, e2, hx, hc, e, h⟩
end OQ

/-! ### own + - * of a class of the text, also with an int on either side; own - in front -/
namespace OQ
open PySem L2 PySem.Spec PyProof.Rows
section
variable {prog : Program} {w : World} {A : Around} {E : Value → Shared → Prop} {s : Shared}
theorem decl_body {n : String} {f : Int → Int → Sem Fin} {i : Int} {t : Tok} {x C dx : Addr} {Q : Fin → Shared → Prop} (ho : s.heap.get? x = some (PySem.W.instObj C dx)) (q : Q (.done (.ret .notImplemented)) s) :
    wpAny (model prog w) A (Builtin.Int.intBinary n f false ⟨[.int i t, .ref x], []⟩) Q E s := by
  unfold Builtin.Int.intBinary
  refine wpAny_bind (wpAny_of_eq (a := ((Value.int i t : Value), [Value.ref x])) (by first | rfl | (simp only [slotArgs]; rfl)) ?_)
  dsimp only
  refine wpAny_bind (wpAny_of_eq (a := i) (by rfl) ?_)
  unfold asInt?
  obtain ⟨hp, g, d, tk, os⟩ := s
  dsimp only [List.headD]
  wp_walk using wpAny_loadPart_at ho
  exact q
/-- what is known of an operator at ints -/
structure IntOp (op : Operator) (id : String) : Prop where
  slot : Slot "int" (PySem.dunder op.info.2) id
  entry : ∃ n f, entryFor table id = some (Builtin.Int.intBinary n f false)
  args : ∀ a b, argsOk id ⟨[a, b], []⟩
  fills : fillsNumberSlot (.type "int") op.info.2 = pure true
theorem int_add : IntOp .Add "int.__add__" := ⟨PySem.F.slot_int_add, ⟨_, _, PySem.F.entry_int_add⟩, PySem.F.args_int_add_2, PySem.F.fills_int_add⟩
theorem int_sub : IntOp .Sub "int.__sub__" := ⟨PySem.F.slot_int_sub, ⟨_, _, PySem.F.entry_int_sub⟩, PySem.F.args_int_sub_2, PySem.F.fills_int_sub⟩
theorem int_mul : IntOp .Mult "int.__mul__" := ⟨PySem.F.slot_int_mul, ⟨_, _, PySem.F.entry_int_mul⟩, PySem.F.args_int_mul_2, PySem.F.fills_int_mul⟩
open PySem.W in
theorem refl_run {op : Operator} {id : String} (IO : IntOp op id) {K : Frag} {x C f f' dx : Addr} {i : Int} {t : Tok} {od : Option Obj} {Q : Value → Shared → Prop} (Z : K.In s.heap) (I : InstAt s.heap x (instObj C dx) C od) (hc : selfFirst K C = true)
    (hs : findIn K (.ref C) (PySem.dunder op.info.2) = some (some (.ref f'))) (hr : findIn K (.ref C) (dunderR op.info.2) = some (some (.ref f))) (hf : isFn K (.ref f) = true) (hsub : subIn K (.ref C) (.type "int") = some false)
    (h : wpAny (model prog w) A (call (.ref f) [.ref x, .int i t]) (PySem.W.CmpBack Q) E s) : wpAny (model prog w) A (binaryOp op (.int i t) (.ref x)) Q E s := by
  obtain ⟨cd, rest, hcd, hm⟩ := ksp_first hc
  have one := ksp_try Z I hr hf h
  have dec : wpAny (model prog w) A (tryMethod (.int i t) (PySem.dunder op.info.2) (.ref x)) (fun r s' => r = none ∧ s' = s) E s := by
    obtain ⟨n, g, en⟩ := IO.entry
    refine wpAny_tryMethod_declines rfl IO.slot (wpAny_call (codeAny_call_builtin IO.slot.plain en (IO.slot.check _ _ _ _ _ _ _ _ rfl (IO.args _ _) ?_)))
    exact decl_body I.at_ ⟨rfl, rfl, rfl⟩
  have hfl := IO.fills
  rcases hi : op.info with ⟨sym, nm'⟩
  rw [hi] at hs hr dec one hfl
  dsimp only at hs hr dec one hfl
  obtain ⟨hh, g, d, tt, os⟩ := s
  have L1 : Looks (model prog w) hh (typeOf (.int i t)) (.type "int") := Looks.of_pure rfl
  have L2 : Looks (model prog w) hh (typeOf (.ref x)) (.ref C) := I.type
  have L3 : Looks (model prog w) hh (fillsNumberSlot (.type "int") nm') true := Looks.of_pure hfl
  have L4 : Looks (model prog w) hh (fillsNumberSlot (.ref C) nm') true := fills_K Z hcd hm hs
  have L5 : Looks (model prog w) hh (isSubtype (.ref C) (.type "int")) false := looks_subIn Z hsub
  have L7 : Looks (model prog w) hh (numberSlotInPython (.type "int") nm') false := Looks.of_pure rfl
  have hne : (Value.type "int" == Value.ref C) = false := Bool.eq_false_iff.mpr fun q => by cases beq_iff_eq.mp q
  simp only [binaryOp, hi]
  refine wpAny_holding (wpAny_bind ?_)
  unfold binaryOp1
  refine wpAny_bind (L1.at (wpAny_bind (L2.at (wpAny_bind (L3.at ?_)))))
  simp only [hne, Bool.false_eq_true, if_false]
  ksp_lk
  refine wpAny_mono dec (fun r s' hr' => ?_) fun _ _ e => e
  obtain ⟨rfl, rfl⟩ := hr'
  ksp_lk
  refine wpAny_mono one (fun r s' hr' => ?_) fun _ _ e => e
  obtain ⟨v, rfl, hq⟩ := hr'
  ksp_lk
  exact hq
end
end OQ
namespace OQ
open PySem L2 PySem.Spec PyProof.Rows
section
variable {X : Cx} {CX : CXT} {C f f' : Addr} {fd : FuncData} {ps : List Str} {sp : Sp} {E : XK} {k : Nat} {op : Operator}
/-- x op y by the method of x's class; y of the same class, or an int -/
def rOwnB (C : Addr) (sp : Sp) (E : XK) : R2 := fun x y H Q => ∃ a dx fs, x = .ref a ∧ H a = some (.ins C dx fs) ∧ ((∃ b dy gs, y = .ref b ∧ H b = some (.ins C dy gs)) ∨ ∃ i, y = .int i) ∧ sp [x, y] H Q E
theorem op_ownB {fo ro : Option Value} (F : FnOk X.prog X.w X.K X.mg X.base CX k f fd ps sp) (hr : Room k X.A) (hc : PySem.W.selfFirst X.K C = true) (hs : PySem.W.findIn X.K (.ref C) (PySem.dunder op.info.2) = some (some (.ref f))) (hf : PySem.W.isFn X.K (.ref f) = true)
    (hrr : PySem.W.findIn X.K (.ref C) (dunderR op.info.2) = some (some (.ref f'))) (h1 : PySem.W.findIn X.K (.type "int") (PySem.dunder op.info.2) = some fo) (h2 : PySem.W.findIn X.K (.type "int") (dunderR op.info.2) = some ro)
    (hsub : PySem.W.subIn X.K (.type "int") (.ref C) = some false) (hb : Binds X.K fd ps []) (hx : Passes CX X E) : OpR X (binaryOp op) (rOwnB C sp E) := by
  intro pins s σ H x y v u Q I rx ry hq
  obtain ⟨a, dx, fs, rfl, ha, hy, q⟩ := hq
  cases rx
  obtain ⟨_, J0, _⟩ := ins_get I.hok ha
  obtain ⟨_, J, _⟩ := J0.look
  obtain ⟨_, hF⟩ := I.fr
  have call := wpAny_mono (run_at (A := X.A) rfl hr F hb hx I (vs := [V.ref a, y]) (us := [Value.ref a, u]) (Paired.cons (show RelV (V.ref a) (Value.ref a) from rfl) (Paired.cons ry .nil)) q) (fun _ _ z => cmpBack_of z) fun _ _ z => z
  rcases hy with ⟨b, dy, gs, rfl, hbb⟩ | ⟨i, rfl⟩
  · cases ry
    obtain ⟨_, J1, _⟩ := ins_get I.hok hbb
    obtain ⟨_, J2, _⟩ := J1.look
    exact PySem.W.binop_K hF I.ok.mod.kin J J2.type hc hs hf call
  · obtain ⟨t, rfl⟩ := ry
    exact PySem.W.ksp_binT (T := "int") hF I.ok.mod.kin J rfl hc hs hf hrr (.inr ⟨f', rfl⟩) h1 h2 hsub call
/-- i op y, i an int, by the reflected method of y's class -/
def rReflB (C : Addr) (sp : Sp) (E : XK) : R2 := fun x y H Q => ∃ i a dx fs, x = .int i ∧ y = .ref a ∧ H a = some (.ins C dx fs) ∧ sp [y, x] H Q E
theorem op_reflB {id : String} (IO : IntOp op id) (F : FnOk X.prog X.w X.K X.mg X.base CX k f fd ps sp) (hr : Room k X.A) (hc : PySem.W.selfFirst X.K C = true) (hs : PySem.W.findIn X.K (.ref C) (PySem.dunder op.info.2) = some (some (.ref f')))
    (hrr : PySem.W.findIn X.K (.ref C) (dunderR op.info.2) = some (some (.ref f))) (hf : PySem.W.isFn X.K (.ref f) = true) (hsub : PySem.W.subIn X.K (.ref C) (.type "int") = some false) (hb : Binds X.K fd ps []) (hx : Passes CX X E) :
    OpR X (binaryOp op) (rReflB C sp E) := by
  intro pins s σ H x y v u Q I rx ry hq
  obtain ⟨i, a, dx, fs, rfl, rfl, ha, q⟩ := hq
  cases ry
  obtain ⟨t, rfl⟩ := rx
  obtain ⟨_, _, _, ob, _⟩ := (show ObjOk X.prog X.w H s.heap a (.ins C dx fs) from I.hok a _ ha)
  obtain ⟨_, J0, _⟩ := ins_get I.hok ha
  obtain ⟨od, J, _⟩ := J0.look
  have e := J.at_.symm.trans ob
  have call := wpAny_mono (run_at (A := X.A) rfl hr F hb hx I (vs := [V.ref a, .int i]) (us := [Value.ref a, .int i t]) (Paired.cons (show RelV (V.ref a) (Value.ref a) from rfl) (Paired.cons ⟨t, rfl⟩ .nil)) q) (fun _ _ z => cmpBack_of z) fun _ _ z => z
  cases e
  exact refl_run IO I.kIn J hc hs hrr hf hsub call
/-- -x by the own __neg__ -/
def rOwnU (C : Addr) (sp : Sp) (E : XK) : V → Hp → VK → Prop := fun x H Q => ∃ a dx fs, x = .ref a ∧ H a = some (.ins C dx fs) ∧ sp [x] H Q E
theorem un_ownNeg (F : FnOk X.prog X.w X.K X.mg X.base CX k f fd ps sp) (hr : Room k X.A) (hs : PySem.W.findIn X.K (.ref C) "__neg__" = some (some (.ref f))) (hf : PySem.W.isFn X.K (.ref f) = true) (hb : Binds X.K fd ps []) (hx : Passes CX X E) :
    UnR X (unaryOp .USub) (rOwnU C sp E) := by
  intro pins s σ H x v Q I rx hq
  obtain ⟨a, dx, fs, rfl, ha, q⟩ := hq
  cases rx
  obtain ⟨_, J0, _⟩ := ins_get I.hok ha
  obtain ⟨_, J, _⟩ := J0.look
  obtain ⟨_, hF⟩ := I.fr
  exact PySem.W.ksp_neg hF I.ok.mod.kin J hs hf (run_at (A := X.A) rfl hr F hb hx I (vs := [V.ref a]) (us := [Value.ref a]) (Paired.cons (show RelV (V.ref a) (Value.ref a) from rfl) .nil) q)
end
end OQ

/-! ### two tuples of the very same items -/
namespace OQ
open PySem L2 PySem.Spec PyProof.Rows
def SameIt (v : V) : Prop := flatB v = true ∨ ∃ r, v = .ref r
theorem eqAt_it {A : Around} {s : Shared} {v : V} {u u' : Value} (h : SameIt v) (r : RelV v u) (r' : RelV v u') : SeqAt.EqAt A s u u' true := by
  rcases h with h | ⟨a, rfl⟩
  · exact eqAt_same r r' h
  · cases r
    cases r'
    exact SeqAt.EqAt.same _
def rTupS (K : PySem.W.Frag) (ans : Bool) : R2 := fun x y H Q => ∃ a b xs, x = .ref a ∧ y = .ref b ∧ SqT K H a xs ∧ SqT K H b xs ∧ (∀ v ∈ xs, SameIt v) ∧ Q (.bl ans) H
theorem its_same {A : Around} {s : Shared} {xs : List V} {us ws : List Value} (h : ∀ v ∈ xs, SameIt v) (r1 : Vals xs us) (r2 : Vals xs ws) (j : Nat) (h1 : j < us.toArray.size) (h2 : j < ws.toArray.size) :
    SeqAt.EqAt A s us.toArray[j] ws.toArray[j] true := by
  have k1 : j < us.length := by simpa using h1
  have k2 : j < ws.length := by simpa using h2
  have kx : j < xs.length := by rw [r1.length]; exact k1
  obtain ⟨u, hu, ru⟩ := r1.get (List.getElem?_eq_getElem kx)
  obtain ⟨v, hv, rv⟩ := r2.get (List.getElem?_eq_getElem kx)
  rw [List.getElem?_eq_getElem k1] at hu
  rw [List.getElem?_eq_getElem k2] at hv
  have e1 : us.toArray[j] = u := by simpa using Option.some.inj hu
  have e2 : ws.toArray[j] = v := by simpa using Option.some.inj hv
  rw [e1, e2]
  exact eqAt_it (h _ (List.getElem_mem kx)) ru rv
theorem op_neTS {X : Cx} (hu : X.A.units < cLine) : OpR X (compareOp .NotEq) (rTupS X.K false) := by
  rintro pins s σ H x y v u Q I rx ry ⟨a, b, xs, rfl, rfl, ha, hb, hs, q⟩
  cases rx
  cases ry
  obtain ⟨us, r1, p1, _⟩ := I.tuple ha
  obtain ⟨ws, r2, p2, _⟩ := I.tuple hb
  have e := SeqAt.RcNeAt.tuples (e := fun _ => true) p1 p2 hu (fun j h1 h2 => its_same hs r1 r2 j h1 h2)
  refine e X.prog X.w X.xe _ ?_
  have sz : us.toArray.size = ws.toArray.size := by rw [List.size_toArray, List.size_toArray, ← r1.length, ← r2.length]
  have all : (!((List.range (min us.toArray.size ws.toArray.size)).all (fun _ => true) && us.toArray.size == ws.toArray.size)) = false := by rw [sz]; simp
  rw [all]
  exact ⟨.bl false, H, I, rfl, q⟩
section
variable {X : Cx} {CX : CXT} {C f : Addr} {fd : FuncData} {ps : List Str} {sp : Sp} {k : Nat} {ds : List Value} {dvs : List V} {E : L2.St → XK}
/-- o.m(e, ..), what is raised wished for at the slots -/
def tMethS (C : Addr) (m : Str) (sp : Sp) (dvs : List V) (E : L2.St → XK) (ta : TE) (t : TA) : TE := fun σ H Q => ta σ H fun x H1 => ∃ a dx fs, x = .ref a ∧ H1 a = some (.ins C dx fs) ∧ fs.lookup m = none ∧
  t σ H1 fun vs H2 => sp (x :: (vs ++ dvs)) H2 Q (E σ)
theorem d_methS {m : Str} {ta : TE} {t : TA} {σ : L2.St} {H : Hp} {Q : VK} (h : ta σ H fun x H1 => ∃ a dx fs, x = .ref a ∧ H1 a = some (.ins C dx fs) ∧ fs.lookup m = none ∧ t σ H1 fun vs H2 => sp (x :: (vs ++ dvs)) H2 Q (E σ)) :
    tMethS C m sp dvs E ta t σ H Q := h
theorem d_meth {E : XK} {m : Str} {ta : TE} {t : TA} {σ : L2.St} {H : Hp} {Q : VK} (h : ta σ H fun x H1 => ∃ a dx fs, x = .ref a ∧ H1 a = some (.ins C dx fs) ∧ fs.lookup m = none ∧ t σ H1 fun vs H2 => sp (x :: (vs ++ dvs)) H2 Q E) :
    tMeth C m sp dvs E ta t σ H Q := h
theorem pe_methX {o e : Expr} {m : Str} {es : List Expr} {ta : TE} {t : TA} {apos pos : Pos} {pl : Sem Bool} (he : PE X o ta) (c : Cls X.K C) (hm : Meth X.K C m f) (F : FnOk X.prog X.w X.K X.mg X.base CX k f fd ps sp) (hr : Room k X.A)
    (hb : Binds X.K fd ps ds) (hd : Vals dvs ds) (hx : ∀ σ, PassesAt CX X σ (E σ)) (ha : PA X (e :: es) t)
    (hst : starEach (e :: es) X.env = (false, eval e X.env) :: starEach es X.env := by rfl) (hpl : (backTo pos (starEach es X.env)).any (·.1) = false := by rfl)
    (ht : eval (.Call (.Attribute o m apos) (e :: es) [] pos) X.env = (eval o X.env >>= fun ov => standAt apos.atName >>= fun _ => holding [ov] (getMethod ov m pl) >>= fun z =>
      callWith pos z.1 z.2 (backTo pos (starEach (e :: es) X.env)) (backToKw pos (keywordEach [] X.env))) := by rfl) :
    PE X (.Call (.Attribute o m apos) (e :: es) [] pos) (tMethS C m sp dvs E ta t) := by
  refine ⟨fun pins s σ H Q I h => ?_⟩
  refine PySem.W.methodCall_KW (pl := pl) (thn (he.run pins s σ H _ I h) ?_) ht
  rintro u s1 ⟨x, H1, I1, rx, a, dx, fs, rfl, ea, l, q⟩
  cases rx
  refine getmeth_ok I1 ea c hm l ?_
  refine PySem.W.callWith_K (first := [.ref a]) (h₀ := X.base) I.ok.mod.kin hm.kp (thn (ha.run pos pins s1 σ H1 _ I1 q) ?_) hst hpl
  rintro us s2 ⟨vs, H2, I2, r, q2⟩
  exact ⟨I2.kIn, run_fnSD (us := Value.ref a :: us) (vs := V.ref a :: vs) F hr hb hd (hx σ) I2 (.cons rfl r) q2⟩
end
end OQ

/-! ### readings: chained comparisons -/
namespace RD
open PySem L2
theorem d_chain {r r' : R2} {ta tb tc : TE} {σ : L2.St} {H : Hp} {Q : VK} (h : ta σ H fun x H1 => tb σ H1 fun y H2 => r x y H2 fun z H3 => ∃ k, z = .bl k ∧ (if k = true then tc σ H3 fun u H4 => r' y u H4 Q else Q (.bl false) H3)) : tChain r r' ta tb tc σ H Q := h
variable {σ : L2.St} {H : Hp}
theorem f_tup {K : PySem.W.Frag} {a : Addr} {xs : List V} {g : TG} {tb : TS} {nx : L2.St → Hp → Prop} {rt : VK} (Pv : Nat → L2.St → Hp → Prop) (h0 : Pv 0 σ H) (hl : ∀ i σ H, i ≤ xs.length → Pv i σ H → SqT K H a xs)
    (hs : ∀ i x σ H, xs[i]? = some x → Pv i σ H → g x σ H fun σ2 H2 => tb ⟨Pv (i + 1), rt, nx, Pv (i + 1)⟩ σ2 H2) (hd : ∀ σ H, Pv xs.length σ H → nx σ H) :
    ∃ W : Nat → Nat → L2.St → Hp → Prop, (∃ m, W 0 m σ H) ∧ ∀ i m σ H, W i m σ H → ((Itt K a).stop i H ∧ nx σ H) ∨ ((Itt K a).go i H ∧ ∃ N : L2.St → Hp → Prop, (∀ σ' H', N σ' H' → ∃ m', m' < m ∧ W (i + 1) m' σ' H') ∧
      ∀ x H', (Itt K a).yld i H x H' → g x σ H' fun σ2 H2 => tb ⟨N, rt, nx, N⟩ σ2 H2) := for_tup (D := ⟨nx, rt, fun _ _ => False, fun _ _ => False⟩) Pv h0 hl hs hd
end RD

/-! ### a range as a value, and for over it -/
namespace OQ
open PySem L2 PySem.Spec PyProof.Rows
section
variable {X : Cx} {tg : Expr} {e : Expr} {te : TE}
theorem cr_range1 : CallR X (.type "range") (fun vs H Q => ∃ j : Int, vs = [V.int j] ∧ ∀ p, H p = none → Q (.ref p) (upd H p (.rng 0 j))) := by
  rintro pins s σ H vs us Q I r ⟨j, rfl, wish⟩
  cases r with
  | cons one rest =>
    cases rest
    obtain ⟨tok, rfl⟩ := one
    have free := I.hok.fresh (Nat.le_refl s.heap.objs.size)
    exact call_range_1 ⟨.ref s.heap.objs.size, _, I.laid (t' := s.toks + 1 + 1) (o := .rng 0 j) (fun _ _ z => Heap.get?_push_of_some _ z) (Nat.le_refl _) ⟨s.toks, tok, s.toks + 1, Heap.get?_push_size _ rfl⟩, rfl, wish _ free⟩
/-- for .. in e, e a range from lo to hi -/
def iRngV (te : TE) : TI := fun σ H R => te σ H fun x H1 => ∃ (a : Addr) (lo hi : Int), x = .ref a ∧ H1 a = some (.rng lo hi) ∧ (-(2 ^ 62) ≤ lo ∧ lo < 2 ^ 62 ∧ -(2 ^ 62) ≤ hi ∧ hi < 2 ^ 62) ∧ R (Itr lo (hi - lo).toNat) H1
theorem pi_rngV (he : PE X e te) : PI X tg e (iRngV te) := by
  refine ⟨fun pins s σ H R I asked => thn (he.run pins s σ H _ I asked) fun v s1 ⟨x, H1, I1, rx, a, lo, hi, ex, ea, ⟨b1, b2, b3, b4⟩, go⟩ => ?_⟩
  subst ex
  obtain rfl : v = Value.ref a := rx
  obtain ⟨t, u, w, there⟩ := I1.hok a _ ea
  have isr : IsRange s1.heap a lo hi 1 t u w := there
  have len : (((hi - lo).toNat : Nat) : Int) = Builtin.Range.rangeSize lo hi 1 := by rw [rangeSize_one]; split <;> omega
  refine wpAny_pyIter_range isr (small_one b1 b2 b3 b4) ⟨s1.heap.objs.size, [s1.heap.objs.size], _, _, H1, rfl, I1.kept (t' := s1.toks) fun _ _ z => Heap.get?_push_of_some _ z, turn_range _ lo (hi - lo).toNat, ?_, fun b hb => ?_, go⟩
  · show IsRangeIter _ _ (lo + ((0 : Nat) : Int) * 1) ((((hi - lo).toNat : Nat) : Int) - ((0 : Nat) : Int)) 1
    rw [len]
    simp only [Int.natCast_zero, Int.zero_mul, Int.add_zero, Int.sub_zero]
    exact Heap.get?_push_size _ rfl
  · obtain rfl : b = s1.heap.objs.size := by simpa using hb
    exact I1.fpOk (Nat.le_refl _) (I1.hok.fresh (Nat.le_refl _))
end
end OQ

/-! ### rules whose reading names K itself (for the blocks of comprehensions) -/
namespace OQ
open PySem L2 PySem.Spec PyProof.Rows
section
variable {X : Cx} {e : Expr} {ta : TE} {f : Str} {pos : Pos}
theorem ixL (K : PySem.W.Frag) (h : X.K = K := by rfl) : IxR X (rIxL K) := h ▸ ix_list
theorem ixT (K : PySem.W.Frag) (h : X.K = K := by rfl) : IxR X (rIxT K) := h ▸ ix_tup
theorem fldK (K : PySem.W.Frag) (he : PE X e ta) (h : X.K = K := by rfl) (hb : attributeBase e f X.env (eval e X.env) = eval e X.env := by rfl) : PE X (.Attribute e f pos) (tFld K ta f) := h ▸ pe_fld he hb
def rTupK (K : PySem.W.Frag) : List V → Hp → VK → Prop := fun xs H Q => ∃ p ys, xs = [.ref p] ∧ ((SqL K H p ys ∧ ∀ l, H l = none → Q (.ref l) (upd H l (.tup ys))) ∨ (SqT K H p ys ∧ Q (.ref p) H))
theorem tupK (K : PySem.W.Frag) (h : X.K = K := by rfl) : CallR X (.type "tuple") (rTupK K) := h ▸ call_tuple_of
end
end OQ

/-! ### == with a builtin value on the left, an own object on the right -/
namespace OQ
open PySem L2 PySem.Spec PyProof.Rows PySem.MeetsSeq PySem.SeqAt
section
variable {prog : Program} {w : World} {A : Around} {E : Value → Shared → Prop} {s : Shared} {K : PySem.W.Frag} {x C f dx : Addr} {od : Option Obj}
/-- the left one's own answer is NotImplemented -/
def Shy (prog : Program) (w : World) (A : Around) (E : Value → Shared → Prop) (s : Shared) (a : Value) (Ta : String) (x : Addr) : Prop :=
  ∃ id, Slot Ta "__eq__" id ∧ ∀ Q' : Value → Shared → Prop, Q' .notImplemented s → wpAny (model prog w) A (call (.builtin id) [a, .ref x]) Q' E s
theorem eq_back {a : Value} {Ta : String} {Q : Value → Shared → Prop} (hu : A.units < cLine) (ha : s.TypeIs a Ta) (shy : Shy prog w A E s a Ta x) (Z : K.In s.heap) (I : PySem.W.InstAt s.heap x (PySem.W.instObj C dx) C od)
    (hsub : PySem.W.subIn K (.ref C) (.type Ta) = some false) (hs : PySem.W.findIn K (.ref C) "__eq__" = some (some (.ref f))) (hf : PySem.W.isFn K (.ref f) = true)
    (h : wpAny (model prog w) A (call (.ref f) [.ref x, a]) (PySem.W.CmpBack Q) E s) : wpAny (model prog w) A (richCompare .Eq a (.ref x)) Q E s := by
  obtain ⟨id, slot, dec⟩ := shy
  have other : (Value.type Ta != Value.ref C) = true := rfl
  have one : wpAny (model prog w) A (tryCompare (.ref x) "__eq__" a) (fun r s' => ∃ v, r = some v ∧ Q v s') E s := by
    unfold tryCompare
    refine wpAny_bind (PySem.W.ifBound_K Z I hs hf (wpAny_mono h (fun v s' hv => ?_) fun _ _ z => z))
    cases v <;> first | exact hv.elim | exact wpAny_pure ⟨_, rfl, hv⟩
  rcases hi : cmpInfo CmpOp.Eq with ⟨sym, g, r⟩
  obtain ⟨rfl, rfl⟩ : g = ("__eq__" : Str) ∧ r = ("__eq__" : Str) := by
    have z : cmpInfo CmpOp.Eq = (_, _, _) := rfl
    rw [z] at hi
    cases hi
    exact ⟨rfl, rfl⟩
  simp only [richCompare, hi, ha.oneThing_none]
  refine wpAny_holding (wpAny_bind (wpAny_cRoomFor hu ?_))
  refine wpAny_bind (wpAny_typeOf ha (wpAny_bind (I.type.here ?_)))
  simp only [other, if_true]
  refine wpAny_bind ((PySem.W.looks_subIn Z hsub).here ?_)
  simp only [Bool.false_eq_true, if_false, Bool.not_false, if_true]
  refine wpAny_bind (m := tryCompare a _ (.ref x)) (wpAny_tryCompare_declines ha slot (dec _ ⟨rfl, ?_⟩))
  refine wpAny_bind (wpAny_mono one (fun r s' z => ?_) fun _ _ z => z)
  obtain ⟨v, rfl, q⟩ := z
  exact wpAny_pure q
theorem shy_none : Shy prog w A E s .none "NoneType" x := ⟨_, PySem.F.slot_NoneType_eq, fun _ q => call_gives PySem.F.slot_NoneType_eq rfl PySem.F.entry_NoneType_eq (PySem.F.args_NoneType_eq_2 _ _) (NoneType___eq___none_ref_0 x) q⟩
theorem int_shy (b : Int) (u : Tok) : Meets (Builtin.«int.__eq__» ⟨[.int b u, .ref x], []⟩) (fun _ R s => s.heap.get? x = some (PySem.W.instObj C dx) ∧ R (.ok (.ret .notImplemented)) s) :=
  .of_wp fun prog w A R s h => by obtain ⟨hp, g, d, tk, os⟩ := s; obtain ⟨hl, h⟩ := h; wp_walk using wpAny_loadPart_at hl, wpAny_load hl; exact ⟨_, rfl, h⟩
theorem str_shy (b : Str) (u : Tok) : Meets (Builtin.«str.__eq__» ⟨[.str b u, .ref x], []⟩) (fun _ R s => s.heap.get? x = some (PySem.W.instObj C dx) ∧ R (.ok (.ret .notImplemented)) s) :=
  .of_wp fun prog w A R s h => by obtain ⟨hp, g, d, tk, os⟩ := s; obtain ⟨hl, h⟩ := h; wp_walk using wpAny_loadPart_at hl, wpAny_load hl; exact ⟨_, rfl, h⟩
theorem shy_int (b : Int) (u : Tok) (hx : s.heap.get? x = some (PySem.W.instObj C dx)) : Shy prog w A E s (.int b u) "int" x := ⟨_, PySem.F.slot_int_eq, fun _ q => call_meets PySem.F.slot_int_eq (typeIs_int s b u) PySem.F.entry_int_eq (PySem.F.args_int_eq_2 _ _) (int_shy b u) ⟨hx, q⟩⟩
theorem shy_str (b : Str) (u : Tok) (hx : s.heap.get? x = some (PySem.W.instObj C dx)) : Shy prog w A E s (.str b u) "str" x := ⟨_, PySem.F.slot_str_eq, fun _ q => call_meets PySem.F.slot_str_eq (typeIs_str s b u) PySem.F.entry_str_eq (PySem.F.args_str_eq_2 _ _) (str_shy b u) ⟨hx, q⟩⟩
theorem list_shy (l : Addr) (items : Array Value) (n : Nat) (dd : Option Addr) (sl : Array (Option Value)) : Meets (Builtin.«list.__eq__» ⟨[.ref l, .ref x], []⟩)
    (fun _ R s => s.heap.get? l = some { cls := .type "list", dict := dd, data := .seq items n, slots := sl } ∧ s.heap.get? x = some (PySem.W.instObj C dx) ∧ K.In s.heap ∧ PySem.W.subIn K (.ref C) (.type "list") = some false ∧ R (.ok (.ret .notImplemented)) s) :=
  .of_wp fun prog w A R s h => by
    obtain ⟨hp, g, d, tk, os⟩ := s
    obtain ⟨hl, hx, Z, sub, h⟩ := h
    have hI : ∀ {A' : Around} {E' : Value → Shared → Prop} {Q' : Bool → Shared → Prop}, Q' false ⟨hp, g, d, tk, os⟩ → wpAny (model prog w) A' (isInstance (.ref x) (.type "list")) Q' E' ⟨hp, g, d, tk, os⟩ := fun q => by
      unfold isInstance
      exact wpAny_bind (wpAny_typeOf_ref hx ((PySem.W.looks_subIn Z sub).here q))
    wp_walk using wpAny_loadPart' hl, hI
    exact ⟨_, rfl, h⟩
theorem shy_list {l : Addr} {items : Array Value} (hl : s.heap.IsList l items) (hx : s.heap.get? x = some (PySem.W.instObj C dx)) (Z : K.In s.heap) (sub : PySem.W.subIn K (.ref C) (.type "list") = some false) : Shy prog w A E s (.ref l) "list" x := by
  obtain ⟨⟨c, dd, dt, sl⟩, ho, hc, n, hd⟩ := id hl
  simp only at hc hd
  subst hc hd
  exact ⟨_, PySem.F.slot_list_eq, fun _ q => call_meets PySem.F.slot_list_eq ⟨_, ho, rfl⟩ PySem.F.entry_list_eq (PySem.F.args_list_eq_2 _ _) (list_shy l items n dd sl) ⟨ho, hx, Z, sub, q⟩⟩
end
section
variable {X : Cx} {CX : CXT} {C f : Addr} {k : Nat} {fd : FuncData} {ps : List Str} {sp : Sp} {E : XK}
/-- the kinds on the left -/
def Plain4 (K : PySem.W.Frag) (H : Hp) (x : V) (T : String) : Prop := (x = .non ∧ T = "NoneType") ∨ (∃ i, x = .int i ∧ T = "int") ∨ (∃ z, x = .str z ∧ T = "str") ∨ ∃ a xs, x = .ref a ∧ SqL K H a xs ∧ T = "list"
def rBackEq (K : PySem.W.Frag) (C : Addr) (sp : Sp) (E : XK) : R2 := fun x y H Q => ∃ (a dx : Addr) (fs : List (Str × V)) (T : String), y = .ref a ∧ H a = some (.ins C dx fs) ∧ Plain4 K H x T ∧ PySem.W.subIn K (.ref C) (.type T) = some false ∧ sp [y, x] H Q E
theorem op_backEq (F : FnOk X.prog X.w X.K X.mg X.base CX k f fd ps sp) (hr : Room k X.A) (hs : PySem.W.findIn X.K (.ref C) "__eq__" = some (some (.ref f))) (hf : PySem.W.isFn X.K (.ref f) = true)
    (hb : Binds X.K fd ps []) (hx : Passes CX X E) : OpR X (compareOp .Eq) (rBackEq X.K C sp E) := by
  rintro pins s σ H x y v u Q I rx ry ⟨a, dx, fs, T, rfl, ha, pl, sub, q⟩
  cases ry
  obtain ⟨_, _, _, ob, _⟩ := (show ObjOk X.prog X.w H s.heap a (.ins C dx fs) from I.hok a _ ha)
  obtain ⟨_, J0, _⟩ := ins_get I.hok ha
  obtain ⟨od, J, _⟩ := J0.look
  have e := J.at_.symm.trans ob
  have call := wpAny_mono (run_at (A := X.A) rfl hr F hb hx I (vs := [V.ref a, x]) (us := [Value.ref a, v]) (Paired.cons (show RelV (V.ref a) (Value.ref a) from rfl) (Paired.cons rx .nil)) q) (fun _ _ z => cmpBack_of z) fun _ _ z => z
  cases e
  rcases pl with ⟨rfl, rfl⟩ | ⟨i, rfl, rfl⟩ | ⟨z, rfl, rfl⟩ | ⟨b, xs, rfl, hq, rfl⟩
  · cases rx
    exact eq_back hr.units0 rfl shy_none I.kIn J sub hs hf call
  · obtain ⟨t, rfl⟩ := rx
    exact eq_back hr.units0 (typeIs_int s i t) (shy_int i t ob) I.kIn J sub hs hf call
  · obtain ⟨t, rfl⟩ := rx
    exact eq_back hr.units0 (typeIs_str s z t) (shy_str z t ob) I.kIn J sub hs hf call
  · cases rx
    obtain ⟨its, _, p, _⟩ := I.list hq
    have hl := p.isList
    obtain ⟨o, ho, hc, _⟩ := id hl
    exact eq_back hr.units0 ⟨o, ho, hc⟩ (shy_list hl ob I.kIn sub) I.kIn J sub hs hf call
end
end OQ

/-! ### own errors as values: made, their fields read, isinstance of them -/
namespace OQ
open PySem L2 PySem.Spec PyProof.Rows
section
variable {X : Cx} {CX : CXT} {x n : Str} {C fI : Addr} {k : Nat} {fd : FuncData} {ps : List Str} {sp : Sp} {ds : List Value} {dvs : List V} {p pos : Pos} {e : Expr} {es : List Expr} {ta : TA} {te : TE} {E : XK}
/-- C(e, ..), C an own error: it stands as it was made -/
def tMkV (C : Addr) (sp : Sp) (dvs : List V) (E : XK) (ta : TA) : TE := fun σ H Q => ta σ H fun vs H1 => ∀ a, H1 a = none → sp (.ref a :: (vs ++ dvs)) (upd H1 a (exo a C none)) (fun v H2 => v = .non ∧ Q (.ref a) H2) E
/-- a new error: its place, and the state with it -/
theorem newErr {pins : List (Addr × Obj)} {st : Shared} {σ : L2.St} {H : Hp} (us : List Value) (D : Addr) (J : Inv X pins σ H st) :
    H (st.heap.objs.size + 1) = none ∧ Inv X pins σ (upd H (st.heap.objs.size + 1) (exo (st.heap.objs.size + 1) D none)) { st with heap := (st.heap.push (PySem.W.kdv_tup us)).push (PySem.HandSPX.excO D st.heap.objs.size) } := by
  have le := Nat.le_succ st.heap.objs.size
  refine ⟨J.hok.fresh le, J.laid (t' := st.toks) (fun _ _ z => Heap.get?_push_of_some _ (Heap.get?_push_of_some _ z)) le (exo_ok (t1 := st.heap.objs.size) ?_)⟩
  have z := Heap.get?_push_size (h := st.heap.push (PySem.W.kdv_tup us)) (o := PySem.HandSPX.excO D st.heap.objs.size) rfl
  have y : (st.heap.push (PySem.W.kdv_tup us)).objs.size = st.heap.objs.size + 1 := by simp [Heap.push]
  rw [y] at z
  exact z
theorem run_mkV {pins : List (Addr × Obj)} {st : Shared} {σ : L2.St} {H1 : Hp} {Q : VK} {vs : List V} {us : List Value} (T : OexC X.K C) (iC : PySem.W.findIn X.K (.ref C) "__init__" = some (some (.ref fI))) (tI : PySem.W.typeIn X.K (.ref fI) = some (.type "function"))
    (F1 : FnOk X.prog X.w X.K X.mg X.base CX k fI fd ps sp) (hr : Room (k + 1) X.A) (hb : Binds X.K fd ps ds) (hd : Vals dvs ds) (hx : Passes CX X E) (few : ps.length ≤ 100) (J : Inv X pins σ H1 st) (rv : Vals vs us)
    (wish : ∀ a, H1 a = none → sp (.ref a :: (vs ++ dvs)) (upd H1 a (exo a C none)) (fun v H2 => v = .non ∧ Q (.ref a) H2) E) : wpAny (model X.prog X.w) X.A (call (.ref C) us) (EP X pins σ Q) X.xe st := by
  obtain ⟨free, J2⟩ := newErr us C J
  have asked := wish _ free
  have all : Vals (V.ref (st.heap.objs.size + 1) :: (vs ++ dvs)) (Value.ref (st.heap.objs.size + 1) :: (us ++ ds)) := .cons rfl (rv.append hd)
  have many : (Value.ref (st.heap.objs.size + 1) :: us ++ ds).length = ps.length := (all.length.symm).trans (F1.len _ _ _ _ asked)
  have short : us.length ≤ sizeLine := by
    have q : (Value.ref (st.heap.objs.size + 1) :: us ++ ds).length ≤ 100 := many ▸ few
    simp only [List.cons_append, List.length_cons, List.length_append] at q
    exact Nat.le_trans (show us.length ≤ 100 by omega) (by decide)
  have body := F1.run _ X.stack _ _ ⟨Value.ref (st.heap.objs.size + 1) :: us, []⟩ _ _ _ E (hr.make C us []) (J2.env0.make C us []) (hb _ (_ :: us) J2.kIn many) all asked
  obtain ⟨_, _, _, _, bm, _, _, _, _, _, _, _, _, _, _, look, good⟩ := T.cls
  refine wpAny_call (PySem.HandSPX.call_own F.excBase_ValueError (fun _ => PySem.HandSPX.refsVE_contains _ bm good) (J.kIn _ _ look) (PySem.W.looks_findIn J.kIn iC) (fun v => PySem.W.bind_fn J.kIn v tI) short (codeAny_mono body ?_))
  rintro (er | fl) s2 post
  · exact hx pins σ _ _ er s2 J2 post
  · match fl, post with
    | .ret u, post =>
      obtain ⟨v, H2, J3, ru, e, q⟩ := J2.after post
      subst e
      exact ⟨ru, V.ref (st.heap.objs.size + 1), H2, J3, rfl, q⟩
theorem pe_mkV (T : OexC X.K C) (iC : PySem.W.findIn X.K (.ref C) "__init__" = some (some (.ref fI))) (tI : PySem.W.typeIn X.K (.ref fI) = some (.type "function"))
    (F1 : FnOk X.prog X.w X.K X.mg X.base CX k fI fd ps sp) (hr : Room (k + 1) X.A) (hb : Binds X.K fd ps ds) (hd : Vals dvs ds) (hx : Passes CX X E) (hsz : ps.length ≤ 100) (hg : Gl X x) (hm : X.mg x = some (.ref C)) (ha : PA X (e :: es) ta)
    (hdb : (x == ("__debug__" : Str)) = false := by decide) (he : starEach (e :: es) X.env = (false, eval e X.env) :: starEach es X.env := by rfl) (hpl : (backTo pos (starEach es X.env)).any (·.1) = false := by rfl) :
    PE X (.Call (.Name x p) (e :: es) [] pos) (tMkV C sp dvs E ta) := by
  refine ⟨fun pins s σ H Q I h => ?_⟩
  refine wpAny_Call_Name_kw (ld_glob I hg hm ?_ hdb)
  refine PySem.W.callWith_K (h₀ := X.base) I.ok.mod.kin T.kC (thn (ha.run pos pins s σ H _ I h) fun us s1 ⟨vs, H1, I1, r1, q1⟩ => ⟨I1.kIn, ?_⟩) he hpl
  exact run_mkV T iC tI F1 hr hb hd hx hsz I1 r1 q1
theorem pe_mkV0 (T : OexC X.K C) (iC : PySem.W.findIn X.K (.ref C) "__init__" = some (some (.ref fI))) (tI : PySem.W.typeIn X.K (.ref fI) = some (.type "function"))
    (F1 : FnOk X.prog X.w X.K X.mg X.base CX k fI fd ps sp) (hr : Room (k + 1) X.A) (hb : Binds X.K fd ps ds) (hd : Vals dvs ds) (hx : Passes CX X E) (hsz : ps.length ≤ 100) (hg : Gl X x) (hm : X.mg x = some (.ref C))
    (hdb : (x == ("__debug__" : Str)) = false := by decide) : PE X (.Call (.Name x p) [] [] pos) (tMkV C sp dvs E tNil) := by
  refine ⟨fun pins s σ H Q I h => ?_⟩
  refine wpAny_Call_Name_kw (ld_glob I hg hm ?_ hdb)
  exact PySem.W.callWith_K0 I.kIn T.kC (run_mkV (us := []) (vs := []) T iC tI F1 hr hb hd hx hsz I .nil h)
/-- an own error at a, with its fields -/
def ErrAt (H : Hp) (a C : Addr) (fs : List (Str × V)) : Prop := ∃ d, H a = some (exo a C (some d)) ∧ H d = some (exd d fs)
theorem errInst {pins : List (Addr × Obj)} {s : Shared} {σ : L2.St} {H : Hp} {a : Addr} {fs : List (Str × V)} (I : Inv X pins σ H s) (h : ErrAt H a C fs) :
    ∃ (oe : Obj) (od : Obj) (mA : Str → Option Value), PySem.W.InstAt s.heap a oe C (some od) ∧ (∀ f, RelO (fs.lookup f) (mA f)) ∧ ∀ n, PySem.W.lookIn n od = some (mA n) := by
  obtain ⟨d, e1, e2⟩ := h
  obtain ⟨t1, ho⟩ := exo_at I.hok e1
  obtain ⟨mA, hns, rel⟩ := exd_at I.hok e2
  obtain ⟨od, hd, hl⟩ := lookIn_ns hns
  exact ⟨_, od, mA, ⟨ho, rfl, rfl, hd⟩, rel, hl⟩
/-- e.f -/
def tVf (K : PySem.W.Frag) (n : Str) (te : TE) : TE := fun σ H Q => te σ H fun x H1 => ∃ (a C : Addr) (fs : List (Str × V)) (v : V), x = .ref a ∧ ErrAt H1 a C fs ∧ XfC K C ∧ PySem.W.findIn K (.ref C) n = some none ∧ fs.lookup n = some v ∧ Q v H1
theorem pe_vf (he : PE X e te) (hb : attributeBase e n X.env (eval e X.env) = eval e X.env := by rfl) : PE X (.Attribute e n pos) (tVf X.K n te) := by
  refine ⟨fun pins s σ H Q I h => ?_⟩
  refine attr_of hb (thn (he.run pins s σ H _ I h) fun u s1 hh => ?_)
  obtain ⟨x, H1, I1, rx, a, D, fs, v, ex, er, T, hno, l, q⟩ := hh
  subst ex
  obtain rfl : u = Value.ref a := rx
  obtain ⟨oe, od, mA, J, hr, hl⟩ := errInst I1 er
  obtain ⟨u, hu, ru⟩ := RelO.some_of (v := v) (o := mA n) (by rw [← l]; exact hr n)
  exact HandSPX.exc_get I1.kIn J T.ga T.gg T.exC (PySem.W.findObj_own T.hdC hno rfl (by rw [hl, hu])) (handed_of ru) ⟨v, H1, I1.tok _, ru, q⟩
/-- isinstance(x, c), x such an error -/
def rIsV (K : PySem.W.Frag) : List V → Hp → VK → Prop := fun xs H Q => ∃ (a D : Addr) (fs : List (Str × V)) (c : V) (cv : Value) (b : Bool), xs = [.ref a, c] ∧ ErrAt H a D fs ∧ ExcC K D ∧ ClsV c cv ∧ PySem.W.kitOne K (.ref D) cv = some b ∧ Q (.bl b) H
theorem call_isV : CallR X (.builtin "isinstance") (rIsV X.K) := by
  rintro pins s σ H xs us Q I r ⟨a, D, fs, c, cv, b, rfl, er, C, hc, e, q⟩
  cases r with
  | cons rx rr => cases rr with
    | cons rt rr =>
      cases rr
      cases rx
      have ec := hc.eq rt
      subst ec
      obtain ⟨oe, od, mA, J, _, _⟩ := errInst I er
      have hcl : (PySem.W.clsIn X.K D).isSome = true := by
        obtain ⟨cd, h1, _⟩ := PySem.W.any_some C.hd
        rw [h1]; rfl
      exact PySem.W.kia_one (PySem.W.kitx_exc hcl C.hg C.hk C.hs C.ha C.hn C.ht C.hm) I.kIn J e (fun z => Value.noConfusion z) fun tk => ⟨.bl b, H, I.kept (t' := tk) fun _ _ z => z, rfl, q⟩
end
end OQ

/-! ### own errors: what is known of their classes -/
namespace OQ
open PySem L2 PySem.Spec PyProof.Rows
structure ErC (K : PySem.W.Frag) (W fI C : Addr) : Prop where
  oex : OexC K C
  ini : PySem.W.findIn K (.ref C) "__init__" = some (some (.ref fI))
  va : PySem.W.findIn K (.ref C) "value" = some none
  xf : XfC K C
  exi : ExcC K C
  mro : ∃ cd, PySem.W.clsIn K C = some cd ∧ cd.mro = [.ref C, .ref W, .type "ValueError", .type "Exception", .type "BaseException", .type "object"]
theorem kit_er {K : PySem.W.Frag} {W f g C D : Addr} (a : ErC K W f C) (b : ErC K W g D) (n : D ≠ W) : PySem.W.kitOne K (.ref C) (.ref D) = some (decide (C = D)) := by
  by_cases h : C = D
  · subst h
    unfold PySem.W.kitOne
    rw [if_pos (by simp), decide_eq_true rfl]
  · have hb : ((Value.ref C : Value) == Value.ref D) = false := Bool.eq_false_iff.mpr fun q => h (by cases beq_iff_eq.mp q; rfl)
    unfold PySem.W.kitOne
    rw [if_neg (by rw [hb]; decide), decide_eq_false h]
    obtain ⟨cd, e1, _⟩ := b.mro
    obtain ⟨cc, e2, e3⟩ := a.mro
    have t : ((PySem.W.clsIn K D).isSome && PySem.W.typeIn K (.ref D) == some (.type "type")) = true := by rw [e1, b.oex.tyC] <;> rfl
    show (if ((PySem.W.clsIn K D).isSome && PySem.W.typeIn K (.ref D) == some (.type "type")) = true then PySem.W.mroIn K C (.ref D) else none) = some false
    rw [if_pos t]
    unfold PySem.W.mroIn
    rw [e2]
    show (if cc.mro.isEmpty = true then none else some (cc.mro.contains (.ref D))) = some false
    rw [e3, if_neg (by simp)]
    congr 1
    refine Bool.eq_false_iff.mpr fun q => ?_
    have m := List.contains_iff_mem.mp q
    simp only [List.mem_cons, List.not_mem_nil, or_false] at m
    rcases m with m | m | m | m | m | m
    · cases m; exact h rfl
    · cases m; exact n rfl
    all_goals cases m
end OQ

/-! ### C.f(..), C an own class of the text: the def itself -/
namespace OQ
open PySem L2 PySem.Spec PyProof.Rows
/-- C.f read off the class: the def at g -/
structure CDef (K : PySem.W.Frag) (C g : Addr) (n : Str) : Prop where
  rd : PySem.W.readsIn K C (.type "type") = true
  ga : PySem.W.specialIn K (.ref C) "__getattribute__" = some (some (.builtin "type.__getattribute__"))
  val : PySem.W.findCls K (.ref C) (.type "type") n = some (.val (.ref g))
  kp : PySem.W.keepIn K (.ref g) = true
section
variable {X : Cx} {CX : CXT} {n : Str} {C g : Addr} {k : Nat} {fd : FuncData} {ps : List Str} {sp : Sp} {o e : Expr} {es : List Expr} {to : TE} {t : TA} {E : XK} {pos apos : Pos} {pl : Sem Bool}
def tCDef (C : Addr) (sp : Sp) (E : XK) (to : TE) (t : TA) : TE := fun σ H Q => to σ H fun x H1 => x = .ref C ∧ t σ H1 fun vs H2 => sp vs H2 Q E
theorem pe_cdef (ho : PE X o to) (c : CDef X.K C g n) (F : FnOk X.prog X.w X.K X.mg X.base CX k g fd ps sp) (hr : Room k X.A) (hb : Binds X.K fd ps []) (hx : Passes CX X E) (ha : PA X (e :: es) t)
    (ht : eval (.Call (.Attribute o n apos) (e :: es) [] pos) X.env = (do
      let ov ← eval o X.env
      standAt apos.atName
      let (f, first) ← holding [ov] (getMethod ov n pl)
      callWith pos f first (backTo pos (starEach (e :: es) X.env)) (backToKw pos (keywordEach [] X.env))) := by rfl)
    (he : starEach (e :: es) X.env = (false, eval e X.env) :: starEach es X.env := by rfl) (hpl : (backTo pos (starEach es X.env)).any (·.1) = false := by rfl) :
    PE X (.Call (.Attribute o n apos) (e :: es) [] pos) (tCDef C sp E to t) := by
  refine ⟨fun pins s σ H Q I h => ?_⟩
  refine PySem.W.methodCall_KW (pl := pl) (thn (ho.run pins s σ H _ I h) fun u s1 ⟨x, H1, I1, rx, ex, q⟩ => ?_) ht
  subst ex
  obtain rfl : u = Value.ref C := rx
  refine PySem.W.method_cls I1.kIn c.ga (PySem.W.cls_value I1.kIn c.rd c.val rfl ?_)
  show wpAny _ _ (callWith pos (Value.ref g) [] (backTo pos (starEach (e :: es) X.env)) []) _ _ _
  refine PySem.W.callWith_K (h₀ := X.base) I1.ok.mod.kin c.kp (thn (ha.run pos pins _ σ H1 _ (I1.tok _) q) fun us s2 ⟨vs, H2, I2, rv, q2⟩ => ⟨I2.kIn, ?_⟩) he hpl
  exact run_at (A := X.A) rfl hr F hb hx I2 rv q2
end
end OQ

/-! ### own errors: of which classes above -/
namespace OQ
open PySem L2 PySem.Spec PyProof.Rows
theorem mro_has {K : PySem.W.Frag} {W f C : Addr} (a : ErC K W f C) {B : Value} (h : B ∈ [Value.ref C, .ref W, .type "ValueError", .type "Exception", .type "BaseException", .type "object"]) : PySem.W.mroIn K C B = some true := by
  obtain ⟨cc, e1, e2⟩ := a.mro
  unfold PySem.W.mroIn
  rw [e1]
  show (if cc.mro.isEmpty = true then none else some (cc.mro.contains B)) = some true
  rw [e2, if_neg (by simp), List.contains_iff_mem.mpr h]
theorem kit_eV {K : PySem.W.Frag} {W f C : Addr} (a : ErC K W f C) : PySem.W.kitOne K (.ref C) (.type "ValueError") = some true := by
  unfold PySem.W.kitOne
  rw [if_neg (by simp)]
  show (if PySem.W.kitMeta "ValueError" = true then PySem.W.mroIn K C (.type "ValueError") else none) = some true
  rw [if_pos (by decide +kernel), mro_has a (by simp)]
theorem kit_eW {K : PySem.W.Frag} {W f C : Addr} (a : ErC K W f C) (hc : PySem.W.isClsIn K W = true) (ht : PySem.W.typeIn K (.ref W) = some (.type "type")) : PySem.W.kitOne K (.ref C) (.ref W) = some true := by
  by_cases n : (Value.ref C == Value.ref W) = true
  · unfold PySem.W.kitOne
    rw [if_pos n]
  · unfold PySem.W.kitOne
    rw [if_neg n]
    have h : ((PySem.W.clsIn K W).isSome && PySem.W.typeIn K (.ref W) == some (.type "type")) = true := by
      rw [show (PySem.W.clsIn K W).isSome = true from hc, ht]; rfl
    show (if ((PySem.W.clsIn K W).isSome && PySem.W.typeIn K (.ref W) == some (.type "type")) = true then PySem.W.mroIn K C (.ref W) else none) = some true
    rw [if_pos h, mro_has a (by simp)]
end OQ

/-! ### all that is asked of an own error's class, in one look -/
namespace OQ
open PySem L2 PySem.Spec PyProof.Rows
/-- the classes above such a one -/
def upVE (C W : Addr) : List Value := [.ref C, .ref W, .type "ValueError", .type "Exception", .type "BaseException", .type "object"]
def shpB (W C : Addr) : Option Obj → Bool
  | some ⟨.type "type", _, .cls k, z⟩ => k.hasDict && (!k.hasDel && (decide (k.mro = upVE C W) && decide (z.size = 6 ∧ z[4]? = some (some (.builtin "ValueError.__new__")))))
  | _ => false
theorem six {z : Array (Option Value)} {u : Option Value} (n : z.size = 6) (e : z[4]? = some u) : ∃ a b c d f, z = #[a, b, c, d, u, f] := by
  obtain ⟨l⟩ := z
  match l, n, e with
  | [a, b, c, d, v, f], _, e => exact ⟨a, b, c, d, f, by cases e; rfl⟩
def fndB (K : PySem.W.Frag) (C : Addr) (n : Str) (v : Option Value) : Bool := decide (PySem.W.findIn K (.ref C) n = some v)
def erB (K : PySem.W.Frag) (W f C : Addr) : Bool :=
  shpB W C (K.lookup C) && (fndB K C "__setattr__" (some (.builtin "object.__setattr__")) && (decide (PySem.W.subIn K (.ref C) (.type "BaseException") = some true) && (decide (PySem.W.typeIn K (.ref C) = some (.type "type")) &&
    (PySem.W.keepIn K (.ref C) && (fndB K C "__init__" (some (.ref f)) && (fndB K C "value" none && (fndB K C "__getattribute__" (some (.builtin "BaseException.__getattribute__")) && (fndB K C "__getattr__" none &&
      (PySem.W.hasDictIn K C && fndB K C "__class__" (some (.builtin "object.__class__")))))))))))
/-- f of all of them -/
def allB {α : Type} (f : α → Bool) : List α → Bool
  | [] => true
  | x :: r => f x && allB f r
theorem allB_at {α : Type} {f : α → Bool} : ∀ {l : List α}, allB f l = true → ∀ x ∈ l, f x = true
  | [], _, _, m => nomatch m
  | y :: r, h, x, m => by
    have q : (f y && allB f r) = true := h
    rw [Bool.and_eq_true] at q
    rcases List.mem_cons.mp m with e | m
    · rw [e]; exact q.1
    · exact allB_at q.2 x m
theorem two {a b : Bool} (h : (a && b) = true) : a = true ∧ b = true := by simpa using h
theorem erB_ok {K : PySem.W.Frag} {W f C : Addr} (hn : PySem.W.specialIn K (.builtin "object.__class__") "__get__" = some (some (.builtin "getset_descriptor.__get__"))) (ht : PySem.W.takesIn K (.builtin "object.__class__") = some true)
    (h : erB K W f C = true) : ErC K W f C := by
  obtain ⟨c1, h⟩ := two h
  obtain ⟨c2, h⟩ := two h
  obtain ⟨c3, h⟩ := two h
  obtain ⟨c4, h⟩ := two h
  obtain ⟨c5, h⟩ := two h
  obtain ⟨c6, h⟩ := two h
  obtain ⟨c7, h⟩ := two h
  obtain ⟨c8, h⟩ := two h
  obtain ⟨c9, h⟩ := two h
  obtain ⟨c10, c11⟩ := two h
  have F : ∀ {n : Str} {v : Option Value}, fndB K C n v = true → PySem.W.findIn K (.ref C) n = some v := fun q => of_decide_eq_true q
  have sub := of_decide_eq_true c3
  cases e : K.lookup C with
  | none => rw [e] at c1; cases c1
  | some o =>
    rw [e] at c1
    unfold shpB at c1
    split at c1
    · rename_i dd k z eo
      have eo' := Option.some.inj eo
      subst eo'
      obtain ⟨d1, c1⟩ := two c1
      obtain ⟨d2, c1⟩ := two c1
      obtain ⟨d3, d4⟩ := two c1
      obtain ⟨s1, s2⟩ := of_decide_eq_true d4
      obtain ⟨k0, k1, k2, k3, k5, rfl⟩ := six s1 s2
      have mr := of_decide_eq_true d3
      obtain ⟨nm, bs, mro, ns, qn, hdct, sn, sub2, ab, col, hdel⟩ := k
      simp only [Bool.not_eq_true'] at d1 d2 mr
      subst d1 d2 mr
      have cl : PySem.W.clsIn K C = some { name := nm, bases := bs, mro := upVE C W, ns := ns, qualname := qn, hasDict := true, slotNames := sn, subclasses := sub2, abstract := ab, collection := col, hasDel := false } := by
        unfold PySem.W.clsIn
        rw [e]
      have up : PySem.W.mroIn K C (.type "object") = some true := by
        unfold PySem.W.mroIn
        rw [cl]
        show (if (upVE C W).isEmpty = true then none else some ((upVE C W).contains (.type "object"))) = some true
        rw [if_neg (by simp [upVE]), List.contains_iff_mem.mpr (by simp [upVE])]
      exact ⟨⟨⟨nm, qn, ns, bs, [.ref W, .type "ValueError", .type "Exception", .type "BaseException", .type "object"], sn, sub2, ab, col, dd, k0, k1, k2, k3, k5, e, by rfl⟩, F c2, sub, of_decide_eq_true c4, c5⟩, F c6, F c7,
        ⟨F c8, F c9, sub, c10⟩, ⟨F c8, F c9, sub, c10, F c11, hn, ht, up⟩, ⟨_, cl, rfl⟩⟩
    · cases c1
end OQ
namespace OQ
open PySem L2 PySem.Spec PyProof.Rows
theorem ErC.cls {K : PySem.W.Frag} {W f C : Addr} (a : ErC K W f C) : PySem.W.isClsIn K C = true := by
  obtain ⟨cc, e, _⟩ := a.mro
  show (PySem.W.clsIn K C).isSome = true
  rw [e]; rfl
/-- what «except D» says of an error of C -/
theorem exm_is {K : PySem.W.Frag} {C D : Addr} {b : Bool} (h1 : PySem.W.subIn K (.ref D) (.type "BaseException") = some true) (h2 : PySem.W.isClsIn K D = true) (h3 : PySem.W.typeIn K (.ref D) = some (.type "type")) (h : PySem.W.mroIn K C (.ref D) = some b) :
    PySem.W.exmOne K (.ref C) (.ref D) = some b := by
  unfold PySem.W.exmOne
  rw [h1, if_pos (by rfl)]
  have q : ((PySem.W.clsIn K D).isSome && PySem.W.typeIn K (.ref D) == some (.type "type")) = true := by
    rw [show (PySem.W.clsIn K D).isSome = true from h2, h3]; rfl
  unfold PySem.W.kitCls
  exact (if_pos q).trans h
theorem mro_er {K : PySem.W.Frag} {W f C : Addr} (a : ErC K W f C) {D : Addr} (n : D ≠ W) : PySem.W.mroIn K C (.ref D) = some (decide (C = D)) := by
  by_cases h : C = D
  · subst h; rw [mro_has a (by simp), decide_eq_true rfl]
  · obtain ⟨cc, e1, e2⟩ := a.mro
    unfold PySem.W.mroIn
    rw [e1, decide_eq_false h]
    show (if cc.mro.isEmpty = true then none else some (cc.mro.contains (.ref D))) = some false
    rw [e2, if_neg (by simp)]
    refine congrArg some (Bool.eq_false_iff.mpr fun q => ?_)
    have m := List.contains_iff_mem.mp q
    simp only [List.mem_cons, Value.ref.injEq, reduceCtorEq, List.not_mem_nil, or_false] at m
    exact m.elim (fun z => h z.symm) n
theorem exm_er {K : PySem.W.Frag} {W f g C D : Addr} (a : ErC K W f C) (b : ErC K W g D) (n : D ≠ W) : PySem.W.exmOne K (.ref C) (.ref D) = some (decide (C = D)) := exm_is b.oex.exC b.cls b.oex.tyC (mro_er a n)
theorem exm_eW {K : PySem.W.Frag} {W f C : Addr} (a : ErC K W f C) (h1 : PySem.W.subIn K (.ref W) (.type "BaseException") = some true) (h2 : PySem.W.isClsIn K W = true) (h3 : PySem.W.typeIn K (.ref W) = some (.type "type")) :
    PySem.W.exmOne K (.ref C) (.ref W) = some true := exm_is h1 h2 h3 (mro_has a (by simp))
end OQ

/-! ### the head by one run: facts by names, and one more look -/
namespace OQ
open PySem L2 PySem.Spec PyProof.Rows
/-- what of the heap is looked at: what the module's names reach, and the host's own names -/
def frB (n : Nat) (g : Addr → Option Obj) : PySem.W.Frag := He.frG g (cStatics :: He.asD g n)
def hookB (n : Nat) (fa : List He.Fa) (fn : List He.DefD) (ex : PySem.W.Frag → Bool) : PySem.W.Hook where
  α := He.AlD × Bool
  obs := fun s => (He.obsD fa fn (frB n s.heap.get?), ex (frB n s.heap.get?))
  val := fun _ => (He.valD fn, true)
  says := fun _ h => ∃ K : PySem.W.Frag, K.In h ∧ He.SaysD fa fn K ∧ ex K = true
  of := fun _ _ e => ⟨_, He.frG_in, congrArg Prod.fst e, congrArg Prod.snd e⟩
  keeps := fun _ _ _ ⟨K, hK, c, x⟩ k => ⟨K, PySem.W.Frag.In.keeps hK k, c, x⟩
def obB (n : Nat) (fa : List He.Fa) (fn : List He.DefD) (ex : PySem.W.Frag → Bool) (s : PySem.W.SharedT) : He.AlD × Bool :=
  (He.obsD fa fn (frB n (HandSHeadRun.getT s)), ex (frB n (HandSHeadRun.getT s)))
theorem obB_eq (n : Nat) (fa : List He.Fa) (fn : List He.DefD) (ex : PySem.W.Frag → Bool) (s : PySem.W.SharedT) : obB n fa fn ex s = (hookB n fa fn ex).obs s.abs := by
  have e : HandSHeadRun.getT s = s.abs.heap.get? := funext (HandSHeadRun.getT_eq s)
  unfold obB
  rw [e]
  rfl
theorem fun_of {K : PySem.W.Frag} {x q : Str} {st : Stmt} {f : Addr} {fd : FuncData} (F : FunD K x q (defArgs st) (defBody st) (defScope st) [] [] f fd) : Fun K x q st f fd := by
  obtain ⟨oc, od, dV, kV, doc, pm, an, cd, ct, sl, e, look, code, df, _⟩ := F.ex
  rcases df with ⟨_, rfl⟩ | ⟨no, _⟩
  · exact ⟨⟨oc, od, kV, doc, pm, an, cd, ct, sl, e, look, code⟩, F.kp⟩
  · exact absurd rfl no
/-- v as an option's option -/
def isB (a : Option (Option Value)) (v : Option Value) : Bool := decide (a = some v)
theorem isB_ok {a : Option (Option Value)} {v : Option Value} (h : isB a v = true) : a = some v := of_decide_eq_true h
end OQ

open RD in
local macro_rules | `(tactic| walk_at "rd1") => `(tactic| with_reducible first
  | refine d_seq ?_ | refine d_asg ?_ | refine d_op ?_ | refine d_c ?_ | refine d_gname ?_ | refine d_ifS ?_ | refine d_test ?_ | refine d_bl ?_ | refine d_ret ?_ | refine d_next ?_ | refine d_drop ?_
  | refine d_and ?_ | refine d_or ?_ | refine d_not ?_ | refine d_andV ?_ | refine d_orV ?_ | refine d_notV ?_ | refine d_if ?_ | refine d_tB ?_
  | refine d_rI0 ?_ | refine d_rU ?_ | refine d_eqI ?_ | refine d_neI ?_ | refine d_eqS ?_ | refine d_neS ?_ | refine d_eqB ?_ | refine d_isN ?_ | refine d_notN ?_ | refine d_intB ?_ | refine d_un ?_ | refine d_cb ?_ | refine d_cons ?_ | refine d_nil ?_ | refine d_lst ?_ | refine d_tup ?_ | refine d_call ?_
  | refine d_iList ?_ | refine d_rng1 ?_ | refine d_lc ?_ | refine d_yes ?_ | refine d_iteT ?_ | refine d_iteF ?_ | refine d_sl ?_ | refine d_noPart ?_ | refine d_part ?_ | refine d_exI ?_ | refine d_fld ?_ | refine d_iteNF ?_ | refine d_iteNT ?_ | refine d_gcd ?_ | refine d_sfld ?_ | refine d_for ?_ | refine OQ.d_makeS ?_ | refine OQ.d_make ?_ | refine OQ.d_methS ?_ | refine OQ.d_meth ?_ | refine d_gsub ?_ | refine d_par ?_ | refine d_int ?_ | refine d_abs ?_)
local macro_rules | `(tactic| walk_at "rdH") => `(tactic| first | assumption | exact L2.upd_same | (simp only [L2.upd_same, L2.upd_ne, ne_eq, not_false_eq_true, *]; done))
local macro_rules | `(tactic| walk_at "rdC") => `(tactic| first | assumption | (refine Or.inr ⟨?_, ?_⟩ <;> first | decide | omega) | (refine Or.inl ⟨?_, ?_⟩ <;> first | decide | omega) | (show (0 : Int) < _; first | assumption | decide | omega) | exact ⟨by decide, by decide +kernel⟩ | exact ⟨by decide, by decide, by decide +kernel⟩ | exact ⟨by assumption, by assumption⟩)
local macro_rules | `(tactic| walk_at "rd2") => `(tactic| first
  | refine RD.d_var rfl ?_
  | ((with_reducible (refine' RD.d_ixL ?hs ?e ?k)); (case hs => exact L2.SqL.of (by walk_at "rdH")); (case e => rfl))
  | ((with_reducible (refine' RD.d_ixT ?hs ?e ?k)); (case hs => exact L2.SqT.of (by walk_at "rdH")); (case e => rfl))
  | ((with_reducible (refine' RD.d_lenL ?hs ?k)); (case hs => exact L2.SqL.of (by walk_at "rdH")))
  | ((with_reducible (refine' RD.d_wipe ?e ?k)); (case e => rfl))
  | ((with_reducible (refine' RD.d_refL ?hs ?k)); (case hs => exact L2.SqL.of (by walk_at "rdH")))
  | ((with_reducible (refine' RD.d_lenT ?hs ?k)); (case hs => exact L2.SqT.of (by walk_at "rdH")))
  | ((with_reducible (refine' RD.d_lenS ?hs ?k)); (case hs => first | assumption | omega))
  | ((with_reducible (refine' RD.d_rI ?c ?k)); (case c => walk_at "rdC"))
  | ((with_reducible (refine' RD.d_setL ?hs ?e ?k)); (case hs => walk_at "rdH"); (case e => rfl)))
local macro_rules | `(tactic| walk_at "rd") => `(tactic| repeat (first | walk_at "rd1" | walk_at "rd2"))

namespace Toy
open PySem L2
def top (i : Nat) : Stmt := PySem.Challenge.pw_watchedways_k30_numbers.main.body.getD i (.Pass ⟨0, 0, 0, 0⟩)
abbrev s_WayError__init : Stmt := inClass (top 3) 0
theorem sc_WayError__init : FnScope ["self", "value"] ["self", "value"] (defScope s_WayError__init) := ⟨rfl, rfl, rfl, by decide +kernel, rfl, by decide +kernel, by decide +kernel⟩
abbrev s_is_integer : Stmt := top 9
theorem sc_is_integer : FnScope ["thing"] ["thing"] (defScope s_is_integer) := ⟨rfl, rfl, rfl, by decide +kernel, rfl, by decide +kernel, by decide +kernel⟩
abbrev s_is_row : Stmt := top 10
theorem sc_is_row : FnScope ["thing"] ["thing"] (defScope s_is_row) := ⟨rfl, rfl, rfl, by decide +kernel, rfl, by decide +kernel, by decide +kernel⟩
abbrev s_Ratio__init : Stmt := inClass (top 12) 0
theorem sc_Ratio__init : FnScope ["self", "top", "bottom", "shared"] ["self", "top", "bottom"] (defScope s_Ratio__init) := ⟨rfl, rfl, rfl, by decide +kernel, rfl, by decide +kernel, by decide +kernel⟩
abbrev s_Ratio__eq : Stmt := inClass (top 12) 1
theorem sc_Ratio__eq : FnScope ["self", "other"] ["self", "other"] (defScope s_Ratio__eq) := ⟨rfl, rfl, rfl, by decide +kernel, rfl, by decide +kernel, by decide +kernel⟩
abbrev s_Ratio__add : Stmt := inClass (top 12) 2
theorem sc_Ratio__add : FnScope ["self", "other"] ["self", "other"] (defScope s_Ratio__add) := ⟨rfl, rfl, rfl, by decide +kernel, rfl, by decide +kernel, by decide +kernel⟩
abbrev s_Ratio__rmul : Stmt := inClass (top 12) 7
theorem sc_Ratio__rmul : FnScope ["self", "other"] ["self", "other"] (defScope s_Ratio__rmul) := ⟨rfl, rfl, rfl, by decide +kernel, rfl, by decide +kernel, by decide +kernel⟩
abbrev s_Ratio__radd : Stmt := inClass (top 12) 3
theorem sc_Ratio__radd : FnScope ["self", "other"] ["self", "other"] (defScope s_Ratio__radd) := ⟨rfl, rfl, rfl, by decide +kernel, rfl, by decide +kernel, by decide +kernel⟩
abbrev s_Ratio__mul : Stmt := inClass (top 12) 6
theorem sc_Ratio__mul : FnScope ["self", "other"] ["self", "other"] (defScope s_Ratio__mul) := ⟨rfl, rfl, rfl, by decide +kernel, rfl, by decide +kernel, by decide +kernel⟩
abbrev s_is_number : Stmt := top 13
theorem sc_is_number : FnScope ["thing"] ["thing"] (defScope s_is_number) := ⟨rfl, rfl, rfl, by decide +kernel, rfl, by decide +kernel, by decide +kernel⟩
abbrev s_as_ratio : Stmt := top 14
theorem sc_as_ratio : FnScope ["thing"] ["thing"] (defScope s_as_ratio) := ⟨rfl, rfl, rfl, by decide +kernel, rfl, by decide +kernel, by decide +kernel⟩
abbrev s_sum_of : Stmt := top 15
theorem sc_sum_of : FnScope ["one", "other"] ["one", "other"] (defScope s_sum_of) := ⟨rfl, rfl, rfl, by decide +kernel, rfl, by decide +kernel, by decide +kernel⟩
abbrev s_product_of : Stmt := top 16
theorem sc_product_of : FnScope ["one", "other"] ["one", "other"] (defScope s_product_of) := ⟨rfl, rfl, rfl, by decide +kernel, rfl, by decide +kernel, by decide +kernel⟩
abbrev s_check_worths : Stmt := top 18
theorem sc_check_worths : FnScope ["reckoning", "first", "second", "thing"] ["reckoning", "first", "second"] (defScope s_check_worths) := ⟨rfl, rfl, rfl, by decide +kernel, rfl, by decide +kernel, by decide +kernel⟩
abbrev s_Numbers__init : Stmt := inClass (top 20) 0
theorem sc_Numbers__init : FnScope ["self"] ["self"] (defScope s_Numbers__init) := ⟨rfl, rfl, rfl, by decide +kernel, rfl, by decide +kernel, by decide +kernel⟩
abbrev s_Numbers__eq : Stmt := inClass (top 20) 1
theorem sc_Numbers__eq : FnScope ["self", "other"] ["self", "other"] (defScope s_Numbers__eq) := ⟨rfl, rfl, rfl, by decide +kernel, rfl, by decide +kernel, by decide +kernel⟩
abbrev s_Numbers_is_worth : Stmt := inClass (top 20) 2
theorem sc_Numbers_is_worth : FnScope ["self", "thing"] ["self", "thing"] (defScope s_Numbers_is_worth) := ⟨rfl, rfl, rfl, by decide +kernel, rfl, by decide +kernel, by decide +kernel⟩
abbrev s_Numbers_join : Stmt := inClass (top 20) 3
theorem sc_Numbers_join : FnScope ["self", "a", "b"] ["self", "a", "b"] (defScope s_Numbers_join) := ⟨rfl, rfl, rfl, by decide +kernel, rfl, by decide +kernel, by decide +kernel⟩
abbrev s_Numbers_times : Stmt := inClass (top 20) 4
theorem sc_Numbers_times : FnScope ["self", "a", "b"] ["self", "a", "b"] (defScope s_Numbers_times) := ⟨rfl, rfl, rfl, by decide +kernel, rfl, by decide +kernel, by decide +kernel⟩
abbrev s_Lengths__init : Stmt := inClass (top 22) 0
theorem sc_Lengths__init : FnScope ["self"] ["self"] (defScope s_Lengths__init) := ⟨rfl, rfl, rfl, by decide +kernel, rfl, by decide +kernel, by decide +kernel⟩
abbrev s_Lengths__eq : Stmt := inClass (top 22) 1
theorem sc_Lengths__eq : FnScope ["self", "other"] ["self", "other"] (defScope s_Lengths__eq) := ⟨rfl, rfl, rfl, by decide +kernel, rfl, by decide +kernel, by decide +kernel⟩
abbrev s_first_fault : Stmt := top 27
theorem sc_first_fault : FnScope ["joins", "products", "none", "one"] ["joins", "products", "none", "one"] (defScope s_first_fault) := ⟨rfl, rfl, rfl, by decide +kernel, rfl, by decide +kernel, by decide +kernel⟩
abbrev s_size_fault : Stmt := top 28
theorem sc_size_fault : FnScope ["joins", "products", "none", "one", "many"] ["joins", "products", "none", "one"] (defScope s_size_fault) := ⟨rfl, rfl, rfl, by decide +kernel, rfl, by decide +kernel, by decide +kernel⟩
abbrev s_is_square : Stmt := top 29
theorem sc_is_square : FnScope ["many", "thing", "row"] ["many", "thing"] (defScope s_is_square) := ⟨rfl, rfl, rfl, by decide +kernel, rfl, by decide +kernel, by decide +kernel⟩
abbrev s_is_side : Stmt := top 30
theorem sc_is_side : FnScope ["many", "thing", "item"] ["many", "thing"] (defScope s_is_side) := ⟨rfl, rfl, rfl, by decide +kernel, rfl, by decide +kernel, by decide +kernel⟩
abbrev s_is_below : Stmt := top 31
theorem sc_is_below : FnScope ["many", "thing"] ["many", "thing"] (defScope s_is_below) := ⟨rfl, rfl, rfl, by decide +kernel, rfl, by decide +kernel, by decide +kernel⟩
abbrev s_none_fault : Stmt := top 32
theorem sc_none_fault : FnScope ["joins", "products", "none", "a"] ["joins", "products", "none"] (defScope s_none_fault) := ⟨rfl, rfl, rfl, by decide +kernel, rfl, by decide +kernel, by decide +kernel⟩
abbrev s_one_fault : Stmt := top 33
theorem sc_one_fault : FnScope ["products", "one", "a"] ["products", "one"] (defScope s_one_fault) := ⟨rfl, rfl, rfl, by decide +kernel, rfl, by decide +kernel, by decide +kernel⟩
abbrev s_idle_fault : Stmt := top 34
theorem sc_idle_fault : FnScope ["joins", "a"] ["joins"] (defScope s_idle_fault) := ⟨rfl, rfl, rfl, by decide +kernel, rfl, by decide +kernel, by decide +kernel⟩
abbrev s_swap_fault : Stmt := top 35
theorem sc_swap_fault : FnScope ["joins", "a", "b"] ["joins"] (defScope s_swap_fault) := ⟨rfl, rfl, rfl, by decide +kernel, rfl, by decide +kernel, by decide +kernel⟩
abbrev s_grouping_fault : Stmt := top 36
theorem sc_grouping_fault : FnScope ["word", "table", "worths", "a", "b", "c"] ["word", "table"] (defScope s_grouping_fault) := ⟨rfl, rfl, rfl, by decide +kernel, rfl, by decide +kernel, by decide +kernel⟩
abbrev s_over_fault : Stmt := top 37
theorem sc_over_fault : FnScope ["joins", "products", "worths", "a", "b", "c", "joined"] ["joins", "products"] (defScope s_over_fault) := ⟨rfl, rfl, rfl, by decide +kernel, rfl, by decide +kernel, by decide +kernel⟩
abbrev s_same_fault : Stmt := top 38
theorem sc_same_fault : FnScope ["none", "one"] ["none", "one"] (defScope s_same_fault) := ⟨rfl, rfl, rfl, by decide +kernel, rfl, by decide +kernel, by decide +kernel⟩
abbrev s_Reckoning__init : Stmt := inClass (top 40) 0
theorem sc_Reckoning__init : FnScope ["self", "joins", "products", "none", "one", "fault", "row", "worths", "a", "b", "c"] ["self", "joins", "products", "none", "one"] (defScope s_Reckoning__init) := ⟨rfl, rfl, rfl, by decide +kernel, rfl, by decide +kernel, by decide +kernel⟩
abbrev s_Reckoning__eq : Stmt := inClass (top 40) 1
theorem sc_Reckoning__eq : FnScope ["self", "other"] ["self", "other"] (defScope s_Reckoning__eq) := ⟨rfl, rfl, rfl, by decide +kernel, rfl, by decide +kernel, by decide +kernel⟩
abbrev s_Reckoning_joined : Stmt := inClass (top 40) 10
theorem sc_Reckoning_joined : FnScope ["self", "worths", "found", "worth"] ["self", "worths"] (defScope s_Reckoning_joined) := ⟨rfl, rfl, rfl, by decide +kernel, rfl, by decide +kernel, by decide +kernel⟩
abbrev s_Reckoning_meet : Stmt := inClass (top 40) 11
theorem sc_Reckoning_meet : FnScope ["self", "a", "b", "below", "worth"] ["self", "a", "b"] (defScope s_Reckoning_meet) := ⟨rfl, rfl, rfl, by decide +kernel, rfl, by decide +kernel, by decide +kernel⟩
abbrev s_Reckoning_left : Stmt := inClass (top 40) 12
theorem sc_Reckoning_left : FnScope ["self", "a", "c", "row", "b"] ["self", "a", "c"] (defScope s_Reckoning_left) := ⟨rfl, rfl, rfl, by decide +kernel, rfl, by decide +kernel, by decide +kernel⟩
abbrev s_Reckoning_right : Stmt := inClass (top 40) 13
theorem sc_Reckoning_right : FnScope ["self", "c", "a", "column", "row", "b"] ["self", "c", "a"] (defScope s_Reckoning_right) := ⟨rfl, rfl, rfl, by decide +kernel, rfl, by decide +kernel, by decide +kernel⟩
abbrev s_yes_no : Stmt := top 43
theorem sc_yes_no : FnScope [] [] (defScope s_yes_no) := ⟨rfl, rfl, rfl, by decide +kernel, rfl, by decide +kernel, by decide +kernel⟩
abbrev s_widths : Stmt := top 44
theorem sc_widths : FnScope ["most", "worths", "a", "b"] ["most"] (defScope s_widths) := ⟨rfl, rfl, rfl, by decide +kernel, rfl, by decide +kernel, by decide +kernel⟩
abbrev s_greater_ones : Stmt := top 45
theorem sc_greater_ones : FnScope ["size", "a", "b"] ["size"] (defScope s_greater_ones) := ⟨rfl, rfl, rfl, by decide +kernel, rfl, by decide +kernel, by decide +kernel⟩
abbrev s_law_hand : Stmt := top 47
theorem sc_law_hand : FnScope ["script", "cells", "cell"] ["script"] (defScope s_law_hand) := ⟨rfl, rfl, rfl, by decide +kernel, rfl, by decide +kernel, by decide +kernel⟩
abbrev s_law_draw : Stmt := top 48
theorem sc_law_draw : FnScope ["hand", "many", "cell", "digit", "number"] ["hand", "many"] (defScope s_law_draw) := ⟨rfl, rfl, rfl, by decide +kernel, rfl, by decide +kernel, by decide +kernel⟩
abbrev s_law_number : Stmt := top 49
theorem sc_law_number : FnScope ["hand", "number"] ["hand"] (defScope s_law_number) := ⟨rfl, rfl, rfl, by decide +kernel, rfl, by decide +kernel, by decide +kernel⟩
abbrev s_law_pair : Stmt := top 50
theorem sc_law_pair : FnScope ["hand", "bottom"] ["hand"] (defScope s_law_pair) := ⟨rfl, rfl, rfl, by decide +kernel, rfl, by decide +kernel, by decide +kernel⟩
abbrev s_law_handed : Stmt := top 51
theorem sc_law_handed : FnScope ["hand", "pair"] ["hand", "pair"] (defScope s_law_handed) := ⟨rfl, rfl, rfl, by decide +kernel, rfl, by decide +kernel, by decide +kernel⟩
abbrev s_law_is : Stmt := top 52
theorem sc_law_is : FnScope ["thing", "top", "bottom"] ["thing", "top", "bottom"] (defScope s_law_is) := ⟨rfl, rfl, rfl, by decide +kernel, rfl, by decide +kernel, by decide +kernel⟩
abbrev s_law_refused : Stmt := top 53
theorem sc_law_refused : FnScope ["kind", "one", "other", "told", "e"] ["kind", "one", "other"] (defScope s_law_refused) := ⟨rfl, rfl, rfl, by decide +kernel, rfl, by decide +kernel, by decide +kernel⟩
abbrev s_law : Stmt := top 54
theorem sc_law : FnScope ["script", "hand", "numbers", "turn", "first", "second", "one", "other", "bottom", "odd", "thing", "due", "flag", "kind", "told"] ["script"] (defScope s_law) := ⟨rfl, rfl, rfl, by decide +kernel, rfl, by decide +kernel, by decide +kernel⟩
structure Top (K : PySem.W.Frag) (mg : Str → Option Value) where
  C_Ratio : Addr
  cl_Ratio : Cls K C_Ratio
  g_Ratio : mg "Ratio" = some (.ref C_Ratio)
  na_Ratio_top : NoAttr K C_Ratio "top"
  na_Ratio_bottom : NoAttr K C_Ratio "bottom"
  C_Numbers : Addr
  cl_Numbers : Cls K C_Numbers
  g_Numbers : mg "Numbers" = some (.ref C_Numbers)
  na_Numbers_none : NoAttr K C_Numbers "none"
  na_Numbers_one : NoAttr K C_Numbers "one"
  C_Lengths : Addr
  cl_Lengths : Cls K C_Lengths
  g_Lengths : mg "Lengths" = some (.ref C_Lengths)
  na_Lengths_none : NoAttr K C_Lengths "none"
  na_Lengths_one : NoAttr K C_Lengths "one"
  C_Reckoning : Addr
  cl_Reckoning : Cls K C_Reckoning
  g_Reckoning : mg "Reckoning" = some (.ref C_Reckoning)
  na_Reckoning_joins : NoAttr K C_Reckoning "joins"
  na_Reckoning_products : NoAttr K C_Reckoning "products"
  na_Reckoning_none : NoAttr K C_Reckoning "none"
  na_Reckoning_one : NoAttr K C_Reckoning "one"
  na_Reckoning__meets : NoAttr K C_Reckoning "_meets"
  na_Reckoning__lefts : NoAttr K C_Reckoning "_lefts"
  na_Reckoning__rights : NoAttr K C_Reckoning "_rights"
  f_WayError__init : Addr
  fd_WayError__init : FuncData
  F_WayError__init : Fun K "__init__" "WayError.__init__" s_WayError__init f_WayError__init fd_WayError__init
  b_WayError__init : Binds K fd_WayError__init ["self", "value"] []
  f_is_integer : Addr
  fd_is_integer : FuncData
  F_is_integer : Fun K "is_integer" "is_integer" s_is_integer f_is_integer fd_is_integer
  b_is_integer : Binds K fd_is_integer ["thing"] []
  g_is_integer : mg "is_integer" = some (.ref f_is_integer)
  f_is_row : Addr
  fd_is_row : FuncData
  F_is_row : Fun K "is_row" "is_row" s_is_row f_is_row fd_is_row
  b_is_row : Binds K fd_is_row ["thing"] []
  g_is_row : mg "is_row" = some (.ref f_is_row)
  f_Ratio__init : Addr
  fd_Ratio__init : FuncData
  F_Ratio__init : FunD K "__init__" "Ratio.__init__" (defArgs s_Ratio__init) (defBody s_Ratio__init) (defScope s_Ratio__init) [V.int 1] [] f_Ratio__init fd_Ratio__init
  b1_Ratio__init : ∃ ds, Vals [V.int 1] ds ∧ Binds K fd_Ratio__init ["self", "top", "bottom"] ds
  b_Ratio__init : Binds K fd_Ratio__init ["self", "top", "bottom"] []
  M_Ratio : Mk K C_Ratio f_Ratio__init
  f_Ratio__eq : Addr
  fd_Ratio__eq : FuncData
  F_Ratio__eq : Fun K "__eq__" "Ratio.__eq__" s_Ratio__eq f_Ratio__eq fd_Ratio__eq
  b_Ratio__eq : Binds K fd_Ratio__eq ["self", "other"] []
  m_Ratio__eq : Meth K C_Ratio "__eq__" f_Ratio__eq
  f_Ratio__add : Addr
  fd_Ratio__add : FuncData
  F_Ratio__add : Fun K "__add__" "Ratio.__add__" s_Ratio__add f_Ratio__add fd_Ratio__add
  b_Ratio__add : Binds K fd_Ratio__add ["self", "other"] []
  m_Ratio__add : Meth K C_Ratio "__add__" f_Ratio__add
  f_Ratio__rmul : Addr
  fd_Ratio__rmul : FuncData
  F_Ratio__rmul : Fun K "__rmul__" "Ratio.__rmul__" s_Ratio__rmul f_Ratio__rmul fd_Ratio__rmul
  b_Ratio__rmul : Binds K fd_Ratio__rmul ["self", "other"] []
  m_Ratio__rmul : Meth K C_Ratio "__rmul__" f_Ratio__rmul
  f_Ratio__radd : Addr
  fd_Ratio__radd : FuncData
  F_Ratio__radd : Fun K "__radd__" "Ratio.__radd__" s_Ratio__radd f_Ratio__radd fd_Ratio__radd
  b_Ratio__radd : Binds K fd_Ratio__radd ["self", "other"] []
  m_Ratio__radd : Meth K C_Ratio "__radd__" f_Ratio__radd
  f_Ratio__mul : Addr
  fd_Ratio__mul : FuncData
  F_Ratio__mul : Fun K "__mul__" "Ratio.__mul__" s_Ratio__mul f_Ratio__mul fd_Ratio__mul
  b_Ratio__mul : Binds K fd_Ratio__mul ["self", "other"] []
  m_Ratio__mul : Meth K C_Ratio "__mul__" f_Ratio__mul
  f_is_number : Addr
  fd_is_number : FuncData
  F_is_number : Fun K "is_number" "is_number" s_is_number f_is_number fd_is_number
  b_is_number : Binds K fd_is_number ["thing"] []
  g_is_number : mg "is_number" = some (.ref f_is_number)
  f_as_ratio : Addr
  fd_as_ratio : FuncData
  F_as_ratio : Fun K "as_ratio" "as_ratio" s_as_ratio f_as_ratio fd_as_ratio
  b_as_ratio : Binds K fd_as_ratio ["thing"] []
  g_as_ratio : mg "as_ratio" = some (.ref f_as_ratio)
  f_sum_of : Addr
  fd_sum_of : FuncData
  F_sum_of : Fun K "sum_of" "sum_of" s_sum_of f_sum_of fd_sum_of
  b_sum_of : Binds K fd_sum_of ["one", "other"] []
  g_sum_of : mg "sum_of" = some (.ref f_sum_of)
  f_product_of : Addr
  fd_product_of : FuncData
  F_product_of : Fun K "product_of" "product_of" s_product_of f_product_of fd_product_of
  b_product_of : Binds K fd_product_of ["one", "other"] []
  g_product_of : mg "product_of" = some (.ref f_product_of)
  f_check_worths : Addr
  fd_check_worths : FuncData
  F_check_worths : Fun K "check_worths" "check_worths" s_check_worths f_check_worths fd_check_worths
  b_check_worths : Binds K fd_check_worths ["reckoning", "first", "second"] []
  g_check_worths : mg "check_worths" = some (.ref f_check_worths)
  f_Numbers__init : Addr
  fd_Numbers__init : FuncData
  F_Numbers__init : Fun K "__init__" "Numbers.__init__" s_Numbers__init f_Numbers__init fd_Numbers__init
  b_Numbers__init : Binds K fd_Numbers__init ["self"] []
  M_Numbers : Mk K C_Numbers f_Numbers__init
  f_Numbers__eq : Addr
  fd_Numbers__eq : FuncData
  F_Numbers__eq : Fun K "__eq__" "Numbers.__eq__" s_Numbers__eq f_Numbers__eq fd_Numbers__eq
  b_Numbers__eq : Binds K fd_Numbers__eq ["self", "other"] []
  m_Numbers__eq : Meth K C_Numbers "__eq__" f_Numbers__eq
  f_Numbers_is_worth : Addr
  fd_Numbers_is_worth : FuncData
  F_Numbers_is_worth : Fun K "is_worth" "Numbers.is_worth" s_Numbers_is_worth f_Numbers_is_worth fd_Numbers_is_worth
  b_Numbers_is_worth : Binds K fd_Numbers_is_worth ["self", "thing"] []
  m_Numbers_is_worth : Meth K C_Numbers "is_worth" f_Numbers_is_worth
  f_Numbers_join : Addr
  fd_Numbers_join : FuncData
  F_Numbers_join : Fun K "join" "Numbers.join" s_Numbers_join f_Numbers_join fd_Numbers_join
  b_Numbers_join : Binds K fd_Numbers_join ["self", "a", "b"] []
  m_Numbers_join : Meth K C_Numbers "join" f_Numbers_join
  f_Numbers_times : Addr
  fd_Numbers_times : FuncData
  F_Numbers_times : Fun K "times" "Numbers.times" s_Numbers_times f_Numbers_times fd_Numbers_times
  b_Numbers_times : Binds K fd_Numbers_times ["self", "a", "b"] []
  m_Numbers_times : Meth K C_Numbers "times" f_Numbers_times
  f_Lengths__init : Addr
  fd_Lengths__init : FuncData
  F_Lengths__init : Fun K "__init__" "Lengths.__init__" s_Lengths__init f_Lengths__init fd_Lengths__init
  b_Lengths__init : Binds K fd_Lengths__init ["self"] []
  M_Lengths : Mk K C_Lengths f_Lengths__init
  f_Lengths__eq : Addr
  fd_Lengths__eq : FuncData
  F_Lengths__eq : Fun K "__eq__" "Lengths.__eq__" s_Lengths__eq f_Lengths__eq fd_Lengths__eq
  b_Lengths__eq : Binds K fd_Lengths__eq ["self", "other"] []
  m_Lengths__eq : Meth K C_Lengths "__eq__" f_Lengths__eq
  f_first_fault : Addr
  fd_first_fault : FuncData
  F_first_fault : Fun K "first_fault" "first_fault" s_first_fault f_first_fault fd_first_fault
  b_first_fault : Binds K fd_first_fault ["joins", "products", "none", "one"] []
  g_first_fault : mg "first_fault" = some (.ref f_first_fault)
  f_size_fault : Addr
  fd_size_fault : FuncData
  F_size_fault : Fun K "size_fault" "size_fault" s_size_fault f_size_fault fd_size_fault
  b_size_fault : Binds K fd_size_fault ["joins", "products", "none", "one"] []
  g_size_fault : mg "size_fault" = some (.ref f_size_fault)
  f_is_square : Addr
  fd_is_square : FuncData
  F_is_square : Fun K "is_square" "is_square" s_is_square f_is_square fd_is_square
  b_is_square : Binds K fd_is_square ["many", "thing"] []
  g_is_square : mg "is_square" = some (.ref f_is_square)
  f_is_side : Addr
  fd_is_side : FuncData
  F_is_side : Fun K "is_side" "is_side" s_is_side f_is_side fd_is_side
  b_is_side : Binds K fd_is_side ["many", "thing"] []
  g_is_side : mg "is_side" = some (.ref f_is_side)
  f_is_below : Addr
  fd_is_below : FuncData
  F_is_below : Fun K "is_below" "is_below" s_is_below f_is_below fd_is_below
  b_is_below : Binds K fd_is_below ["many", "thing"] []
  g_is_below : mg "is_below" = some (.ref f_is_below)
  f_none_fault : Addr
  fd_none_fault : FuncData
  F_none_fault : Fun K "none_fault" "none_fault" s_none_fault f_none_fault fd_none_fault
  b_none_fault : Binds K fd_none_fault ["joins", "products", "none"] []
  g_none_fault : mg "none_fault" = some (.ref f_none_fault)
  f_one_fault : Addr
  fd_one_fault : FuncData
  F_one_fault : Fun K "one_fault" "one_fault" s_one_fault f_one_fault fd_one_fault
  b_one_fault : Binds K fd_one_fault ["products", "one"] []
  g_one_fault : mg "one_fault" = some (.ref f_one_fault)
  f_idle_fault : Addr
  fd_idle_fault : FuncData
  F_idle_fault : Fun K "idle_fault" "idle_fault" s_idle_fault f_idle_fault fd_idle_fault
  b_idle_fault : Binds K fd_idle_fault ["joins"] []
  g_idle_fault : mg "idle_fault" = some (.ref f_idle_fault)
  f_swap_fault : Addr
  fd_swap_fault : FuncData
  F_swap_fault : Fun K "swap_fault" "swap_fault" s_swap_fault f_swap_fault fd_swap_fault
  b_swap_fault : Binds K fd_swap_fault ["joins"] []
  g_swap_fault : mg "swap_fault" = some (.ref f_swap_fault)
  f_grouping_fault : Addr
  fd_grouping_fault : FuncData
  F_grouping_fault : Fun K "grouping_fault" "grouping_fault" s_grouping_fault f_grouping_fault fd_grouping_fault
  b_grouping_fault : Binds K fd_grouping_fault ["word", "table"] []
  g_grouping_fault : mg "grouping_fault" = some (.ref f_grouping_fault)
  f_over_fault : Addr
  fd_over_fault : FuncData
  F_over_fault : Fun K "over_fault" "over_fault" s_over_fault f_over_fault fd_over_fault
  b_over_fault : Binds K fd_over_fault ["joins", "products"] []
  g_over_fault : mg "over_fault" = some (.ref f_over_fault)
  f_same_fault : Addr
  fd_same_fault : FuncData
  F_same_fault : Fun K "same_fault" "same_fault" s_same_fault f_same_fault fd_same_fault
  b_same_fault : Binds K fd_same_fault ["none", "one"] []
  g_same_fault : mg "same_fault" = some (.ref f_same_fault)
  f_Reckoning__init : Addr
  fd_Reckoning__init : FuncData
  F_Reckoning__init : Fun K "__init__" "Reckoning.__init__" s_Reckoning__init f_Reckoning__init fd_Reckoning__init
  b_Reckoning__init : Binds K fd_Reckoning__init ["self", "joins", "products", "none", "one"] []
  M_Reckoning : Mk K C_Reckoning f_Reckoning__init
  f_Reckoning__eq : Addr
  fd_Reckoning__eq : FuncData
  F_Reckoning__eq : Fun K "__eq__" "Reckoning.__eq__" s_Reckoning__eq f_Reckoning__eq fd_Reckoning__eq
  b_Reckoning__eq : Binds K fd_Reckoning__eq ["self", "other"] []
  m_Reckoning__eq : Meth K C_Reckoning "__eq__" f_Reckoning__eq
  f_Reckoning_joined : Addr
  fd_Reckoning_joined : FuncData
  F_Reckoning_joined : Fun K "_joined" "Reckoning._joined" s_Reckoning_joined f_Reckoning_joined fd_Reckoning_joined
  b_Reckoning_joined : Binds K fd_Reckoning_joined ["self", "worths"] []
  m_Reckoning_joined : Meth K C_Reckoning "_joined" f_Reckoning_joined
  f_Reckoning_meet : Addr
  fd_Reckoning_meet : FuncData
  F_Reckoning_meet : Fun K "_meet" "Reckoning._meet" s_Reckoning_meet f_Reckoning_meet fd_Reckoning_meet
  b_Reckoning_meet : Binds K fd_Reckoning_meet ["self", "a", "b"] []
  m_Reckoning_meet : Meth K C_Reckoning "_meet" f_Reckoning_meet
  f_Reckoning_left : Addr
  fd_Reckoning_left : FuncData
  F_Reckoning_left : Fun K "_left" "Reckoning._left" s_Reckoning_left f_Reckoning_left fd_Reckoning_left
  b_Reckoning_left : Binds K fd_Reckoning_left ["self", "a", "c"] []
  m_Reckoning_left : Meth K C_Reckoning "_left" f_Reckoning_left
  f_Reckoning_right : Addr
  fd_Reckoning_right : FuncData
  F_Reckoning_right : Fun K "_right" "Reckoning._right" s_Reckoning_right f_Reckoning_right fd_Reckoning_right
  b_Reckoning_right : Binds K fd_Reckoning_right ["self", "c", "a"] []
  m_Reckoning_right : Meth K C_Reckoning "_right" f_Reckoning_right
  f_yes_no : Addr
  fd_yes_no : FuncData
  F_yes_no : Fun K "yes_no" "yes_no" s_yes_no f_yes_no fd_yes_no
  b_yes_no : Binds K fd_yes_no [] []
  g_yes_no : mg "yes_no" = some (.ref f_yes_no)
  f_widths : Addr
  fd_widths : FuncData
  F_widths : Fun K "widths" "widths" s_widths f_widths fd_widths
  b_widths : Binds K fd_widths ["most"] []
  g_widths : mg "widths" = some (.ref f_widths)
  f_greater_ones : Addr
  fd_greater_ones : FuncData
  F_greater_ones : Fun K "greater_ones" "greater_ones" s_greater_ones f_greater_ones fd_greater_ones
  b_greater_ones : Binds K fd_greater_ones ["size"] []
  g_greater_ones : mg "greater_ones" = some (.ref f_greater_ones)
  f_law_hand : Addr
  fd_law_hand : FuncData
  F_law_hand : Fun K "_law_hand" "_law_hand" s_law_hand f_law_hand fd_law_hand
  b_law_hand : Binds K fd_law_hand ["script"] []
  g_law_hand : mg "_law_hand" = some (.ref f_law_hand)
  f_law_draw : Addr
  fd_law_draw : FuncData
  F_law_draw : Fun K "_law_draw" "_law_draw" s_law_draw f_law_draw fd_law_draw
  b_law_draw : Binds K fd_law_draw ["hand", "many"] []
  g_law_draw : mg "_law_draw" = some (.ref f_law_draw)
  f_law_number : Addr
  fd_law_number : FuncData
  F_law_number : Fun K "_law_number" "_law_number" s_law_number f_law_number fd_law_number
  b_law_number : Binds K fd_law_number ["hand"] []
  g_law_number : mg "_law_number" = some (.ref f_law_number)
  f_law_pair : Addr
  fd_law_pair : FuncData
  F_law_pair : Fun K "_law_pair" "_law_pair" s_law_pair f_law_pair fd_law_pair
  b_law_pair : Binds K fd_law_pair ["hand"] []
  g_law_pair : mg "_law_pair" = some (.ref f_law_pair)
  f_law_handed : Addr
  fd_law_handed : FuncData
  F_law_handed : Fun K "_law_handed" "_law_handed" s_law_handed f_law_handed fd_law_handed
  b_law_handed : Binds K fd_law_handed ["hand", "pair"] []
  g_law_handed : mg "_law_handed" = some (.ref f_law_handed)
  f_law_is : Addr
  fd_law_is : FuncData
  F_law_is : Fun K "_law_is" "_law_is" s_law_is f_law_is fd_law_is
  b_law_is : Binds K fd_law_is ["thing", "top", "bottom"] []
  g_law_is : mg "_law_is" = some (.ref f_law_is)
  f_law_refused : Addr
  fd_law_refused : FuncData
  F_law_refused : Fun K "_law_refused" "_law_refused" s_law_refused f_law_refused fd_law_refused
  b_law_refused : Binds K fd_law_refused ["kind", "one", "other"] []
  g_law_refused : mg "_law_refused" = some (.ref f_law_refused)
  f_law : Addr
  fd_law : FuncData
  F_law : Fun K "law" "law" s_law f_law fd_law
  b_law : Binds K fd_law ["script"] []
  g_law : mg "law" = some (.ref f_law)
  n_abs : mg "abs" = none
  n_all : mg "all" = none
  n_bool : mg "bool" = none
  n_int : mg "int" = none
  n_isinstance : mg "isinstance" = none
  n_len : mg "len" = none
  n_list : mg "list" = none
  n_max : mg "max" = none
  n_min : mg "min" = none
  n_range : mg "range" = none
  n_tuple : mg "tuple" = none
  C_BN : Addr
  g_BadNumber : mg "BadNumber" = some (.ref C_BN)
  g_gcd : mg "gcd" = some (.builtin "math.gcd")
  haR : PySem.W.findIn K (.ref C_Ratio) "__class__" = some (some (.builtin "object.__class__"))
  hnO : PySem.W.specialIn K (.builtin "object.__class__") "__get__" = some (some (.builtin "getset_descriptor.__get__"))
  htO : PySem.W.takesIn K (.builtin "object.__class__") = some true
  hmR : PySem.W.mroIn K C_Ratio (.type "object") = some true
  neR : PySem.W.findIn K (.ref C_Ratio) "__ne__" = some (some (.builtin "object.__ne__"))
  oex_BadNumber : OexC K C_BN
  i_BadNumber : PySem.W.findIn K (.ref C_BN) "__init__" = some (some (.ref f_WayError__init))
  tI : PySem.W.typeIn K (.ref f_WayError__init) = some (.type "function")
  v_BadNumber : PySem.W.findIn K (.ref C_BN) "value" = some none
  xf_BadNumber : XfC K C_BN
  exI_BadNumber : ExcC K C_BN
  exm : PySem.W.exmOne K (.ref C_BN) (.ref C_BN) = some true
  kBN : PySem.W.kitOne K (.ref C_BN) (.ref C_BN) = some true
  kRR : PySem.W.kitOne K (.ref C_Ratio) (.ref C_Ratio) = some true
  kRi : PySem.W.kitOne K (.ref C_Ratio) (.type "int") = some false
  kRb : PySem.W.kitOne K (.ref C_Ratio) (.type "bool") = some false
  nfR : PySem.W.notFirst K C_Ratio (.ref C_Ratio) = true
  kT : ∀ t : String, t ∈ ["NoneType", "bool", "int", "str", "list", "tuple", "dict"] → PySem.W.kitOne K (.type t) (.ref C_Ratio) = some false ∧ PySem.W.notFirst K C_Ratio (.type t) = true
  sfR : PySem.W.selfFirst K C_Ratio = true
  subIR : PySem.W.subIn K (.type "int") (.ref C_Ratio) = some false
  subRI : PySem.W.subIn K (.ref C_Ratio) (.type "int") = some false
  fo_add : Option Value
  ro_add : Option Value
  at_add : PySem.W.findIn K (.ref C_Ratio) (PySem.dunder Operator.Add.info.2) = some (some (.ref f_Ratio__add))
  at_radd : PySem.W.findIn K (.ref C_Ratio) (dunderR Operator.Add.info.2) = some (some (.ref f_Ratio__radd))
  ia_add : PySem.W.findIn K (.type "int") (PySem.dunder Operator.Add.info.2) = some fo_add
  ib_add : PySem.W.findIn K (.type "int") (dunderR Operator.Add.info.2) = some ro_add
  fo_mul : Option Value
  ro_mul : Option Value
  at_mul : PySem.W.findIn K (.ref C_Ratio) (PySem.dunder Operator.Mult.info.2) = some (some (.ref f_Ratio__mul))
  at_rmul : PySem.W.findIn K (.ref C_Ratio) (dunderR Operator.Mult.info.2) = some (some (.ref f_Ratio__rmul))
  ia_mul : PySem.W.findIn K (.type "int") (PySem.dunder Operator.Mult.info.2) = some fo_mul
  ib_mul : PySem.W.findIn K (.type "int") (dunderR Operator.Mult.info.2) = some ro_mul
  k_FEWEST_WORTHS : PySem.Tok
  g_FEWEST_WORTHS : mg "FEWEST_WORTHS" = some (.int 2 k_FEWEST_WORTHS)
  k_MOST_WORTHS : PySem.Tok
  g_MOST_WORTHS : mg "MOST_WORTHS" = some (.int 16 k_MOST_WORTHS)
  k_MOST_WIDTH : PySem.Tok
  g_MOST_WIDTH : mg "MOST_WIDTH" = some (.int 15 k_MOST_WIDTH)
  C_BW : Addr
  g_BadWorth : mg "BadWorth" = some (.ref C_BW)
  oex_BadWorth : OexC K C_BW
  i_BadWorth : PySem.W.findIn K (.ref C_BW) "__init__" = some (some (.ref f_WayError__init))
  v_BadWorth : PySem.W.findIn K (.ref C_BW) "value" = some none
  xf_BadWorth : XfC K C_BW
  exI_BadWorth : ExcC K C_BW
  exmW : PySem.W.exmOne K (.ref C_BW) (.ref C_BW) = some true
  kBW : PySem.W.kitOne K (.ref C_BW) (.ref C_BW) = some true
  C_WE : Addr
  g_WayError : mg "WayError" = some (.ref C_WE)
  exWB : PySem.W.exmOne K (.ref C_BW) (.ref C_WE) = some true
  ha_Numbers : PySem.W.findIn K (.ref C_Numbers) "__class__" = some (some (.builtin "object.__class__"))
  hm_Numbers : PySem.W.mroIn K C_Numbers (.type "object") = some true
  ha_Lengths : PySem.W.findIn K (.ref C_Lengths) "__class__" = some (some (.builtin "object.__class__"))
  hm_Lengths : PySem.W.mroIn K C_Lengths (.type "object") = some true
  ha_Reckoning : PySem.W.findIn K (.ref C_Reckoning) "__class__" = some (some (.builtin "object.__class__"))
  hm_Reckoning : PySem.W.mroIn K C_Reckoning (.type "object") = some true
  ne_Numbers : PySem.W.findIn K (.ref C_Numbers) "__ne__" = some (some (.builtin "object.__ne__"))
  kI_Numbers : PySem.W.kitOne K (.ref C_Numbers) (.type "int") = some false
  kB_Numbers : PySem.W.kitOne K (.ref C_Numbers) (.type "bool") = some false
  ne_Reckoning : PySem.W.findIn K (.ref C_Reckoning) "__ne__" = some (some (.builtin "object.__ne__"))
  kI_Reckoning : PySem.W.kitOne K (.ref C_Reckoning) (.type "int") = some false
  kB_Reckoning : PySem.W.kitOne K (.ref C_Reckoning) (.type "bool") = some false
  kT_Numbers : ∀ t : String, t ∈ ["NoneType", "bool", "int", "str", "list", "tuple", "dict"] → PySem.W.kitOne K (.type t) (.ref C_Numbers) = some false ∧ PySem.W.notFirst K C_Numbers (.type t) = true
  kP_Reckoning_Numbers : PySem.W.kitOne K (.ref C_Reckoning) (.ref C_Numbers) = some false ∧ PySem.W.notFirst K C_Numbers (.ref C_Reckoning) = true
  kP_Lengths_Numbers : PySem.W.kitOne K (.ref C_Lengths) (.ref C_Numbers) = some false ∧ PySem.W.notFirst K C_Numbers (.ref C_Lengths) = true
  kP_Ratio_Numbers : PySem.W.kitOne K (.ref C_Ratio) (.ref C_Numbers) = some false ∧ PySem.W.notFirst K C_Numbers (.ref C_Ratio) = true
  kP_Numbers_Reckoning : PySem.W.kitOne K (.ref C_Numbers) (.ref C_Reckoning) = some false ∧ PySem.W.notFirst K C_Reckoning (.ref C_Numbers) = true
  kP_Numbers_Lengths : PySem.W.kitOne K (.ref C_Numbers) (.ref C_Lengths) = some false ∧ PySem.W.notFirst K C_Lengths (.ref C_Numbers) = true
  kP_Numbers_Ratio : PySem.W.kitOne K (.ref C_Numbers) (.ref C_Ratio) = some false ∧ PySem.W.notFirst K C_Ratio (.ref C_Numbers) = true
  kP_Reckoning_Ratio : PySem.W.kitOne K (.ref C_Reckoning) (.ref C_Ratio) = some false ∧ PySem.W.notFirst K C_Ratio (.ref C_Reckoning) = true
  sb_Numbers : ∀ t : String, t ∈ ["NoneType", "int", "str", "list"] → PySem.W.subIn K (.ref C_Numbers) (.type t) = some false
/-! ### the head -/
theorem dn_add : PySem.dunder Operator.Add.info.2 = ("__add__" : Str) := by decide +kernel
theorem dn_radd : dunderR Operator.Add.info.2 = ("__radd__" : Str) := by decide +kernel
theorem dn_sub : PySem.dunder Operator.Sub.info.2 = ("__sub__" : Str) := by decide +kernel
theorem dn_rsub : dunderR Operator.Sub.info.2 = ("__rsub__" : Str) := by decide +kernel
theorem dn_mul : PySem.dunder Operator.Mult.info.2 = ("__mul__" : Str) := by decide +kernel
theorem dn_rmul : dunderR Operator.Mult.info.2 = ("__rmul__" : Str) := by decide +kernel
def faH0 : List He.Fa := [.glo "WayError", .glo "BadNumber", .glo "BadWorth", .glo "Ratio", .glo "Numbers", .glo "Lengths", .glo "Reckoning", .glo "is_integer", .glo "is_row", .glo "is_number", .glo "as_ratio", .glo "sum_of", .glo "product_of", .glo "check_worths", .glo "first_fault", .glo "size_fault", .glo "is_square", .glo "is_side", .glo "is_below", .glo "none_fault", .glo "one_fault", .glo "idle_fault", .glo "swap_fault", .glo "grouping_fault", .glo "over_fault", .glo "same_fault", .glo "yes_no", .glo "widths", .glo "greater_ones", .glo "_law_hand"]
def faH1 : List He.Fa := [.glo "_law_draw", .glo "_law_number", .glo "_law_pair", .glo "_law_handed", .glo "_law_is", .glo "_law_refused", .glo "law", .free "abs", .free "all", .free "bool", .free "int", .free "isinstance", .free "len", .free "list", .free "max", .free "min", .free "range", .free "tuple", .int "FEWEST_WORTHS" 2, .int "MOST_WORTHS" 16, .int "MOST_WIDTH" 15, .cls "Ratio", .cls "Numbers", .cls "Lengths", .cls "Reckoning", .noat "Ratio" "top", .noat "Ratio" "bottom", .noat "Numbers" "none", .noat "Numbers" "one", .noat "Lengths" "none"]
def faH2 : List He.Fa := [.noat "Lengths" "one", .noat "Reckoning" "joins", .noat "Reckoning" "products", .noat "Reckoning" "none", .noat "Reckoning" "one", .noat "Reckoning" "_meets", .noat "Reckoning" "_lefts", .noat "Reckoning" "_rights", .meth "Ratio" "__eq__", .meth "Ratio" "__add__", .meth "Ratio" "__rmul__", .meth "Ratio" "__radd__", .meth "Ratio" "__mul__", .meth "Numbers" "__eq__", .meth "Numbers" "is_worth", .meth "Numbers" "join", .meth "Numbers" "times", .meth "Lengths" "__eq__", .meth "Reckoning" "__eq__", .meth "Reckoning" "_joined", .meth "Reckoning" "_meet", .meth "Reckoning" "_left", .meth "Reckoning" "_right", .mkr "Ratio", .mkr "Numbers", .mkr "Lengths", .mkr "Reckoning"]
def faH : List He.Fa := faH0 ++ faH1 ++ faH2
def dH_WayError__init : He.DefD := ⟨("WayError", some "__init__"), "__init__", "WayError.__init__", defArgs s_WayError__init, defBody s_WayError__init, defScope s_WayError__init, [], []⟩
def dH_is_integer : He.DefD := ⟨("is_integer", none), "is_integer", "is_integer", defArgs s_is_integer, defBody s_is_integer, defScope s_is_integer, [], []⟩
def dH_is_row : He.DefD := ⟨("is_row", none), "is_row", "is_row", defArgs s_is_row, defBody s_is_row, defScope s_is_row, [], []⟩
def dH_Ratio__init : He.DefD := ⟨("Ratio", some "__init__"), "__init__", "Ratio.__init__", defArgs s_Ratio__init, defBody s_Ratio__init, defScope s_Ratio__init, [.int 1], []⟩
def dH_Ratio__eq : He.DefD := ⟨("Ratio", some "__eq__"), "__eq__", "Ratio.__eq__", defArgs s_Ratio__eq, defBody s_Ratio__eq, defScope s_Ratio__eq, [], []⟩
def dH_Ratio__add : He.DefD := ⟨("Ratio", some "__add__"), "__add__", "Ratio.__add__", defArgs s_Ratio__add, defBody s_Ratio__add, defScope s_Ratio__add, [], []⟩
def dH_Ratio__rmul : He.DefD := ⟨("Ratio", some "__rmul__"), "__rmul__", "Ratio.__rmul__", defArgs s_Ratio__rmul, defBody s_Ratio__rmul, defScope s_Ratio__rmul, [], []⟩
def dH_Ratio__radd : He.DefD := ⟨("Ratio", some "__radd__"), "__radd__", "Ratio.__radd__", defArgs s_Ratio__radd, defBody s_Ratio__radd, defScope s_Ratio__radd, [], []⟩
def dH_Ratio__mul : He.DefD := ⟨("Ratio", some "__mul__"), "__mul__", "Ratio.__mul__", defArgs s_Ratio__mul, defBody s_Ratio__mul, defScope s_Ratio__mul, [], []⟩
def dH_is_number : He.DefD := ⟨("is_number", none), "is_number", "is_number", defArgs s_is_number, defBody s_is_number, defScope s_is_number, [], []⟩
def dH_as_ratio : He.DefD := ⟨("as_ratio", none), "as_ratio", "as_ratio", defArgs s_as_ratio, defBody s_as_ratio, defScope s_as_ratio, [], []⟩
def dH_sum_of : He.DefD := ⟨("sum_of", none), "sum_of", "sum_of", defArgs s_sum_of, defBody s_sum_of, defScope s_sum_of, [], []⟩
def dH_product_of : He.DefD := ⟨("product_of", none), "product_of", "product_of", defArgs s_product_of, defBody s_product_of, defScope s_product_of, [], []⟩
def dH_check_worths : He.DefD := ⟨("check_worths", none), "check_worths", "check_worths", defArgs s_check_worths, defBody s_check_worths, defScope s_check_worths, [], []⟩
def dH_Numbers__init : He.DefD := ⟨("Numbers", some "__init__"), "__init__", "Numbers.__init__", defArgs s_Numbers__init, defBody s_Numbers__init, defScope s_Numbers__init, [], []⟩
def dH_Numbers__eq : He.DefD := ⟨("Numbers", some "__eq__"), "__eq__", "Numbers.__eq__", defArgs s_Numbers__eq, defBody s_Numbers__eq, defScope s_Numbers__eq, [], []⟩
def dH_Numbers_is_worth : He.DefD := ⟨("Numbers", some "is_worth"), "is_worth", "Numbers.is_worth", defArgs s_Numbers_is_worth, defBody s_Numbers_is_worth, defScope s_Numbers_is_worth, [], []⟩
def dH_Numbers_join : He.DefD := ⟨("Numbers", some "join"), "join", "Numbers.join", defArgs s_Numbers_join, defBody s_Numbers_join, defScope s_Numbers_join, [], []⟩
def dH_Numbers_times : He.DefD := ⟨("Numbers", some "times"), "times", "Numbers.times", defArgs s_Numbers_times, defBody s_Numbers_times, defScope s_Numbers_times, [], []⟩
def dH_Lengths__init : He.DefD := ⟨("Lengths", some "__init__"), "__init__", "Lengths.__init__", defArgs s_Lengths__init, defBody s_Lengths__init, defScope s_Lengths__init, [], []⟩
def dH_Lengths__eq : He.DefD := ⟨("Lengths", some "__eq__"), "__eq__", "Lengths.__eq__", defArgs s_Lengths__eq, defBody s_Lengths__eq, defScope s_Lengths__eq, [], []⟩
def dH_first_fault : He.DefD := ⟨("first_fault", none), "first_fault", "first_fault", defArgs s_first_fault, defBody s_first_fault, defScope s_first_fault, [], []⟩
def dH_size_fault : He.DefD := ⟨("size_fault", none), "size_fault", "size_fault", defArgs s_size_fault, defBody s_size_fault, defScope s_size_fault, [], []⟩
def dH_is_square : He.DefD := ⟨("is_square", none), "is_square", "is_square", defArgs s_is_square, defBody s_is_square, defScope s_is_square, [], []⟩
def dH_is_side : He.DefD := ⟨("is_side", none), "is_side", "is_side", defArgs s_is_side, defBody s_is_side, defScope s_is_side, [], []⟩
def dH_is_below : He.DefD := ⟨("is_below", none), "is_below", "is_below", defArgs s_is_below, defBody s_is_below, defScope s_is_below, [], []⟩
def dH_none_fault : He.DefD := ⟨("none_fault", none), "none_fault", "none_fault", defArgs s_none_fault, defBody s_none_fault, defScope s_none_fault, [], []⟩
def dH_one_fault : He.DefD := ⟨("one_fault", none), "one_fault", "one_fault", defArgs s_one_fault, defBody s_one_fault, defScope s_one_fault, [], []⟩
def dH_idle_fault : He.DefD := ⟨("idle_fault", none), "idle_fault", "idle_fault", defArgs s_idle_fault, defBody s_idle_fault, defScope s_idle_fault, [], []⟩
def dH_swap_fault : He.DefD := ⟨("swap_fault", none), "swap_fault", "swap_fault", defArgs s_swap_fault, defBody s_swap_fault, defScope s_swap_fault, [], []⟩
def dH_grouping_fault : He.DefD := ⟨("grouping_fault", none), "grouping_fault", "grouping_fault", defArgs s_grouping_fault, defBody s_grouping_fault, defScope s_grouping_fault, [], []⟩
def dH_over_fault : He.DefD := ⟨("over_fault", none), "over_fault", "over_fault", defArgs s_over_fault, defBody s_over_fault, defScope s_over_fault, [], []⟩
def dH_same_fault : He.DefD := ⟨("same_fault", none), "same_fault", "same_fault", defArgs s_same_fault, defBody s_same_fault, defScope s_same_fault, [], []⟩
def dH_Reckoning__init : He.DefD := ⟨("Reckoning", some "__init__"), "__init__", "Reckoning.__init__", defArgs s_Reckoning__init, defBody s_Reckoning__init, defScope s_Reckoning__init, [], []⟩
def dH_Reckoning__eq : He.DefD := ⟨("Reckoning", some "__eq__"), "__eq__", "Reckoning.__eq__", defArgs s_Reckoning__eq, defBody s_Reckoning__eq, defScope s_Reckoning__eq, [], []⟩
def dH_Reckoning_joined : He.DefD := ⟨("Reckoning", some "_joined"), "_joined", "Reckoning._joined", defArgs s_Reckoning_joined, defBody s_Reckoning_joined, defScope s_Reckoning_joined, [], []⟩
def dH_Reckoning_meet : He.DefD := ⟨("Reckoning", some "_meet"), "_meet", "Reckoning._meet", defArgs s_Reckoning_meet, defBody s_Reckoning_meet, defScope s_Reckoning_meet, [], []⟩
def dH_Reckoning_left : He.DefD := ⟨("Reckoning", some "_left"), "_left", "Reckoning._left", defArgs s_Reckoning_left, defBody s_Reckoning_left, defScope s_Reckoning_left, [], []⟩
def dH_Reckoning_right : He.DefD := ⟨("Reckoning", some "_right"), "_right", "Reckoning._right", defArgs s_Reckoning_right, defBody s_Reckoning_right, defScope s_Reckoning_right, [], []⟩
def dH_yes_no : He.DefD := ⟨("yes_no", none), "yes_no", "yes_no", defArgs s_yes_no, defBody s_yes_no, defScope s_yes_no, [], []⟩
def dH_widths : He.DefD := ⟨("widths", none), "widths", "widths", defArgs s_widths, defBody s_widths, defScope s_widths, [], []⟩
def dH_greater_ones : He.DefD := ⟨("greater_ones", none), "greater_ones", "greater_ones", defArgs s_greater_ones, defBody s_greater_ones, defScope s_greater_ones, [], []⟩
def dH_law_hand : He.DefD := ⟨("_law_hand", none), "_law_hand", "_law_hand", defArgs s_law_hand, defBody s_law_hand, defScope s_law_hand, [], []⟩
def dH_law_draw : He.DefD := ⟨("_law_draw", none), "_law_draw", "_law_draw", defArgs s_law_draw, defBody s_law_draw, defScope s_law_draw, [], []⟩
def dH_law_number : He.DefD := ⟨("_law_number", none), "_law_number", "_law_number", defArgs s_law_number, defBody s_law_number, defScope s_law_number, [], []⟩
def dH_law_pair : He.DefD := ⟨("_law_pair", none), "_law_pair", "_law_pair", defArgs s_law_pair, defBody s_law_pair, defScope s_law_pair, [], []⟩
def dH_law_handed : He.DefD := ⟨("_law_handed", none), "_law_handed", "_law_handed", defArgs s_law_handed, defBody s_law_handed, defScope s_law_handed, [], []⟩
def dH_law_is : He.DefD := ⟨("_law_is", none), "_law_is", "_law_is", defArgs s_law_is, defBody s_law_is, defScope s_law_is, [], []⟩
def dH_law_refused : He.DefD := ⟨("_law_refused", none), "_law_refused", "_law_refused", defArgs s_law_refused, defBody s_law_refused, defScope s_law_refused, [], []⟩
def dH_law : He.DefD := ⟨("law", none), "law", "law", defArgs s_law, defBody s_law, defScope s_law, [], []⟩
def fnH0 : List He.DefD := [dH_WayError__init, dH_is_integer, dH_is_row, dH_Ratio__init, dH_Ratio__eq, dH_Ratio__add, dH_Ratio__rmul, dH_Ratio__radd, dH_Ratio__mul, dH_is_number, dH_as_ratio, dH_sum_of, dH_product_of, dH_check_worths, dH_Numbers__init, dH_Numbers__eq, dH_Numbers_is_worth, dH_Numbers_join, dH_Numbers_times, dH_Lengths__init, dH_Lengths__eq, dH_first_fault, dH_size_fault, dH_is_square, dH_is_side]
def fnH1 : List He.DefD := [dH_is_below, dH_none_fault, dH_one_fault, dH_idle_fault, dH_swap_fault, dH_grouping_fault, dH_over_fault, dH_same_fault, dH_Reckoning__init, dH_Reckoning__eq, dH_Reckoning_joined, dH_Reckoning_meet, dH_Reckoning_left, dH_Reckoning_right, dH_yes_no, dH_widths, dH_greater_ones, dH_law_hand, dH_law_draw, dH_law_number, dH_law_pair, dH_law_handed, dH_law_is, dH_law_refused, dH_law]
def fnH : List He.DefD := fnH0 ++ fnH1
def x_eBN (K : PySem.W.Frag) : Bool := OQ.erB K (He.ga K "WayError") (He.fAd K ("WayError", some "__init__")) (He.ga K "BadNumber")
def x_eBW (K : PySem.W.Frag) : Bool := OQ.erB K (He.ga K "WayError") (He.fAd K ("WayError", some "__init__")) (He.ga K "BadWorth")
def x_gcd (K : PySem.W.Frag) : Bool := OQ.isB (PySem.W.nsIn K mainGlobals "gcd") (some (.builtin "math.gcd"))
def x_hnO (K : PySem.W.Frag) : Bool := OQ.isB (PySem.W.specialIn K (.builtin "object.__class__") "__get__") (some (.builtin "getset_descriptor.__get__"))
def x_htO (K : PySem.W.Frag) : Bool := decide (PySem.W.takesIn K (.builtin "object.__class__") = some true)
def x_tI (K : PySem.W.Frag) : Bool := decide (PySem.W.typeIn K (.ref (He.fAd K ("WayError", some "__init__"))) = some (.type "function"))
def x_icWE (K : PySem.W.Frag) : Bool := PySem.W.isClsIn K (He.ga K "WayError")
def x_tyWE (K : PySem.W.Frag) : Bool := decide (PySem.W.typeIn K (.ref (He.ga K "WayError")) = some (.type "type"))
def x_exWE (K : PySem.W.Frag) : Bool := decide (PySem.W.subIn K (.ref (He.ga K "WayError")) (.type "BaseException") = some true)
def x_haRatio (K : PySem.W.Frag) : Bool := OQ.isB (PySem.W.findIn K (.ref (He.ga K "Ratio")) "__class__") (some (.builtin "object.__class__"))
def x_hmRatio (K : PySem.W.Frag) : Bool := decide (PySem.W.mroIn K (He.ga K "Ratio") (.type "object") = some true)
def x_haNumbers (K : PySem.W.Frag) : Bool := OQ.isB (PySem.W.findIn K (.ref (He.ga K "Numbers")) "__class__") (some (.builtin "object.__class__"))
def x_hmNumbers (K : PySem.W.Frag) : Bool := decide (PySem.W.mroIn K (He.ga K "Numbers") (.type "object") = some true)
def x_haLengths (K : PySem.W.Frag) : Bool := OQ.isB (PySem.W.findIn K (.ref (He.ga K "Lengths")) "__class__") (some (.builtin "object.__class__"))
def x_hmLengths (K : PySem.W.Frag) : Bool := decide (PySem.W.mroIn K (He.ga K "Lengths") (.type "object") = some true)
def x_haReckoning (K : PySem.W.Frag) : Bool := OQ.isB (PySem.W.findIn K (.ref (He.ga K "Reckoning")) "__class__") (some (.builtin "object.__class__"))
def x_hmReckoning (K : PySem.W.Frag) : Bool := decide (PySem.W.mroIn K (He.ga K "Reckoning") (.type "object") = some true)
def x_neRatio (K : PySem.W.Frag) : Bool := OQ.isB (PySem.W.findIn K (.ref (He.ga K "Ratio")) "__ne__") (some (.builtin "object.__ne__"))
def x_kIRatio (K : PySem.W.Frag) : Bool := decide (PySem.W.kitOne K (.ref (He.ga K "Ratio")) (.type "int") = some false)
def x_kBRatio (K : PySem.W.Frag) : Bool := decide (PySem.W.kitOne K (.ref (He.ga K "Ratio")) (.type "bool") = some false)
def x_neNumbers (K : PySem.W.Frag) : Bool := OQ.isB (PySem.W.findIn K (.ref (He.ga K "Numbers")) "__ne__") (some (.builtin "object.__ne__"))
def x_kINumbers (K : PySem.W.Frag) : Bool := decide (PySem.W.kitOne K (.ref (He.ga K "Numbers")) (.type "int") = some false)
def x_kBNumbers (K : PySem.W.Frag) : Bool := decide (PySem.W.kitOne K (.ref (He.ga K "Numbers")) (.type "bool") = some false)
def x_neReckoning (K : PySem.W.Frag) : Bool := OQ.isB (PySem.W.findIn K (.ref (He.ga K "Reckoning")) "__ne__") (some (.builtin "object.__ne__"))
def x_kIReckoning (K : PySem.W.Frag) : Bool := decide (PySem.W.kitOne K (.ref (He.ga K "Reckoning")) (.type "int") = some false)
def x_kBReckoning (K : PySem.W.Frag) : Bool := decide (PySem.W.kitOne K (.ref (He.ga K "Reckoning")) (.type "bool") = some false)
def x_kTRatio (K : PySem.W.Frag) : Bool := (["NoneType", "bool", "int", "str", "list", "tuple", "dict"] : List String).all fun t => decide (PySem.W.kitOne K (.type t) (.ref (He.ga K "Ratio")) = some false) && PySem.W.notFirst K (He.ga K "Ratio") (.type t)
def x_kTNumbers (K : PySem.W.Frag) : Bool := (["NoneType", "bool", "int", "str", "list", "tuple", "dict"] : List String).all fun t => decide (PySem.W.kitOne K (.type t) (.ref (He.ga K "Numbers")) = some false) && PySem.W.notFirst K (He.ga K "Numbers") (.type t)
def x_kPReckoningNumbers (K : PySem.W.Frag) : Bool := decide (PySem.W.kitOne K (.ref (He.ga K "Reckoning")) (.ref (He.ga K "Numbers")) = some false) && PySem.W.notFirst K (He.ga K "Numbers") (.ref (He.ga K "Reckoning"))
def x_kPLengthsNumbers (K : PySem.W.Frag) : Bool := decide (PySem.W.kitOne K (.ref (He.ga K "Lengths")) (.ref (He.ga K "Numbers")) = some false) && PySem.W.notFirst K (He.ga K "Numbers") (.ref (He.ga K "Lengths"))
def x_kPRatioNumbers (K : PySem.W.Frag) : Bool := decide (PySem.W.kitOne K (.ref (He.ga K "Ratio")) (.ref (He.ga K "Numbers")) = some false) && PySem.W.notFirst K (He.ga K "Numbers") (.ref (He.ga K "Ratio"))
def x_kPNumbersReckoning (K : PySem.W.Frag) : Bool := decide (PySem.W.kitOne K (.ref (He.ga K "Numbers")) (.ref (He.ga K "Reckoning")) = some false) && PySem.W.notFirst K (He.ga K "Reckoning") (.ref (He.ga K "Numbers"))
def x_kPNumbersLengths (K : PySem.W.Frag) : Bool := decide (PySem.W.kitOne K (.ref (He.ga K "Numbers")) (.ref (He.ga K "Lengths")) = some false) && PySem.W.notFirst K (He.ga K "Lengths") (.ref (He.ga K "Numbers"))
def x_kPNumbersRatio (K : PySem.W.Frag) : Bool := decide (PySem.W.kitOne K (.ref (He.ga K "Numbers")) (.ref (He.ga K "Ratio")) = some false) && PySem.W.notFirst K (He.ga K "Ratio") (.ref (He.ga K "Numbers"))
def x_kPReckoningRatio (K : PySem.W.Frag) : Bool := decide (PySem.W.kitOne K (.ref (He.ga K "Reckoning")) (.ref (He.ga K "Ratio")) = some false) && PySem.W.notFirst K (He.ga K "Ratio") (.ref (He.ga K "Reckoning"))
def x_sb (K : PySem.W.Frag) : Bool := (["NoneType", "int", "str", "list"] : List String).all fun t => decide (PySem.W.subIn K (.ref (He.ga K "Numbers")) (.type t) = some false)
def x_sfR (K : PySem.W.Frag) : Bool := PySem.W.selfFirst K (He.ga K "Ratio")
def x_sIR (K : PySem.W.Frag) : Bool := decide (PySem.W.subIn K (.type "int") (.ref (He.ga K "Ratio")) = some false)
def x_sRI (K : PySem.W.Frag) : Bool := decide (PySem.W.subIn K (.ref (He.ga K "Ratio")) (.type "int") = some false)
def x_ioadd (K : PySem.W.Frag) : Bool := (PySem.W.findIn K (.type "int") "__add__").isSome
def x_iradd (K : PySem.W.Frag) : Bool := (PySem.W.findIn K (.type "int") "__radd__").isSome
def x_iomul (K : PySem.W.Frag) : Bool := (PySem.W.findIn K (.type "int") "__mul__").isSome
def x_irmul (K : PySem.W.Frag) : Bool := (PySem.W.findIn K (.type "int") "__rmul__").isSome
def exH (K : PySem.W.Frag) : Bool := x_eBN K && (x_eBW K && (x_gcd K && (x_hnO K && (x_htO K && (x_tI K && (x_icWE K && (x_tyWE K && (x_exWE K && (x_haRatio K && (x_hmRatio K && (x_haNumbers K && (x_hmNumbers K && (x_haLengths K && (x_hmLengths K && (x_haReckoning K && (x_hmReckoning K && (x_neRatio K && (x_kIRatio K && (x_kBRatio K && (x_neNumbers K && (x_kINumbers K && (x_kBNumbers K && (x_neReckoning K && (x_kIReckoning K && (x_kBReckoning K && (x_kTRatio K && (x_kTNumbers K && (x_kPReckoningNumbers K && (x_kPLengthsNumbers K && (x_kPRatioNumbers K && (x_kPNumbersReckoning K && (x_kPNumbersLengths K && (x_kPNumbersRatio K && (x_kPReckoningRatio K && (x_sb K && (x_sfR K && (x_sIR K && (x_sRI K && (x_ioadd K && (x_iradd K && (x_iomul K && (x_irmul K))))))))))))))))))))))))))))))))))))))))))
abbrev hk : PySem.W.Hook := OQ.hookB 5 faH fnH exH
def ob : PySem.W.SharedT → He.AlD × Bool := OQ.obB 5 faH fnH exH

/-! ### the run -/
def looseH0 : List Str := ["_wall", "WayError", "BadReckoning", "BadWorth", "BadMost", "BadNumber", "is_integer", "is_row", "Ratio", "is_number", "as_ratio", "sum_of", "product_of", "check_worths", "Numbers", "Lengths", "longer", "FEWEST_WORTHS", "MOST_WORTHS", "first_fault", "size_fault", "is_square", "is_side", "is_below", "none_fault", "one_fault", "idle_fault", "swap_fault", "grouping_fault", "over_fault"]
def looseH1 : List Str := ["same_fault", "Reckoning", "MOST_WIDTH", "yes_no", "widths", "greater_ones", "_law_hand", "_law_draw", "_law_number", "_law_pair", "_law_handed", "_law_is", "_law_refused"]
def looseH : List Str := looseH0 ++ looseH1
abbrev Rw : PySem.W.OpenRow := PySem.W.OpenLaw.row PySem.Challenge.rw_watchedways_k30_numbers
set_option maxHeartbeats 0 in
theorem run (w : World) : HandSHeadRun.RunEqI Rw (PySem.W.view Rw.prog [0, 54]) hk ob 30000 looseH w := by
  unfold HandSHeadRun.RunEqI
  kernel_rfl

/-! ### the law's draws -/
def handV (c : Addr) (p q m n : Int) : List V := [.ref c, .int p, .int q, .int m, .int n]
/-- the hand at h -/
def HandAt (H : Hp) (h c : Addr) : Prop := ∃ (cs : List Int) (p q m n : Int), H h = some (.lst (handV c p q m n)) ∧ H c = some (.lst (cs.map V.int)) ∧ c ≠ h ∧ 0 ≤ p
/-- all but what stands at h is as it was -/
def But (h : Addr) (H H' : Hp) : Prop := ∀ b, b ≠ h → H' b = H b
def spDraw : Sp := fun vs H Q _ => ∃ (h c : Addr) (many : Int), vs = [.ref h, .int many] ∧ HandAt H h c ∧ 0 < many ∧ many.natAbs.log2 < 9000 ∧
  ∀ (r : Int) (H' : Hp), 0 ≤ r → r < many → HandAt H' h c → But h H H' → Q (.int r) H'
def spHand (K : PySem.W.Frag) : Sp := fun vs H Q _ => ∃ (a : Addr) (ns : List Int), vs = [.ref a] ∧ SqL K H a (ns.map V.int) ∧ ns.length ≤ 63 ∧
  ∀ (h c : Addr) (H' : Hp), HandAt H' h c → Same H H' → H h = none → Q (.ref h) H'
theorem upd_upd {H : Hp} {p : Addr} {o u : HO} : upd (upd H p o) p u = upd H p u := by
  funext b
  by_cases e : b = p
  · subst e; rw [upd_same, upd_same]
  · rw [upd_ne e, upd_ne e, upd_ne e]
theorem upd_id {H : Hp} {p : Addr} {o : HO} (e : H p = some o) : upd H p o = H := by
  funext b
  by_cases h : b = p
  · subst h; rw [upd_same, e]
  · rw [upd_ne h]
theorem upd_none {H : Hp} {p q : Addr} {o : HO} (e : upd H p o q = none) : q ≠ p ∧ H q = none := by
  by_cases h : q = p
  · subst h; rw [upd_same] at e; cases e
  · rw [upd_ne h] at e; exact ⟨h, e⟩
theorem ne_of_free {H : Hp} {p q : Addr} {o : HO} (e : upd H p o q = none) : q ≠ p := (upd_none e).1

/-! ### integers -/
/-- whether x is an integer (a flag is none) -/
def IsI (K : PySem.W.Frag) (H : Hp) (x : V) (b : Bool) : Prop := ∃ (t : Value) (b1 b2 : Bool), TyX K H x t ∧ PySem.W.kitOne K t (.type "int") = some b1 ∧ PySem.W.kitOne K t (.type "bool") = some b2 ∧ b = (b1 && !b2)
theorem isI_int {K : PySem.W.Frag} {H : Hp} (i : Int) : IsI K H (.int i) true := ⟨.type "int", true, false, .base (.int i), kit_ty (by decide +kernel), kit_ty (by decide +kernel), rfl⟩
theorem isI_bl {K : PySem.W.Frag} {H : Hp} (i : Bool) : IsI K H (.bl i) false := ⟨.type "bool", true, true, .base (.bl i), kit_ty (by decide +kernel), kit_ty (by decide +kernel), rfl⟩
theorem isI_non {K : PySem.W.Frag} {H : Hp} : IsI K H .non false := ⟨.type "NoneType", false, false, .base .non, kit_ty (by decide +kernel), kit_ty (by decide +kernel), rfl⟩
theorem isI_str {K : PySem.W.Frag} {H : Hp} (z : Str) : IsI K H (.str z) false := ⟨.type "str", false, false, .base (.str z), kit_ty (by decide +kernel), kit_ty (by decide +kernel), rfl⟩
theorem isI_lst {K : PySem.W.Frag} {H : Hp} {a : Addr} {xs : List V} (e : H a = some (.lst xs)) : IsI K H (.ref a) false := ⟨.type "list", false, false, .base (.lst e), kit_ty (by decide +kernel), kit_ty (by decide +kernel), rfl⟩
theorem isI_tup {K : PySem.W.Frag} {H : Hp} {a : Addr} {xs : List V} (e : H a = some (.tup xs)) : IsI K H (.ref a) false := ⟨.type "tuple", false, false, .base (.tup e), kit_ty (by decide +kernel), kit_ty (by decide +kernel), rfl⟩
theorem isI_dK {K : PySem.W.Frag} {H : Hp} {a : Addr} {xs : List (Key × V)} (e : H a = some (.dK xs)) : IsI K H (.ref a) false := ⟨.type "dict", false, false, .base (.dK e), kit_ty (by decide +kernel), kit_ty (by decide +kernel), rfl⟩
def spIsInt (K : PySem.W.Frag) : Sp := fun vs H Q _ => ∃ (x : V) (b : Bool), vs = [x] ∧ IsI K H x b ∧ Q (.bl b) H
section
variable {P : Program} {w : World} {K : PySem.W.Frag} {mg : Str → Option Value} {base : Heap}
theorem ok_is_integer (T : Top K mg) : FnOk P w K mg base CX0 1 T.f_is_integer T.fd_is_integer ["thing"] (spIsInt K) := by
  refine T.F_is_integer.ok sc_is_integer (fun vs H Q E h => ?_) (fun cdv A outer s H vs Q E hr h => ?_)
  · obtain ⟨x, b, rfl, _⟩ := h; rfl
  · obtain ⟨x, b, rfl, ⟨t, b1, b2, ty, e1, e2, eb⟩, q⟩ := h
    refine ⟨_, (pss_one (ps_ret (pe_and (pe_callB call_isi (by rfl) T.n_isinstance (by decide +kernel) (pa_cons (pv 0) (pa_cons (pe_bltn (v := V.ty "int") (by rfl) T.n_int (by decide +kernel) rfl) pa_nil))) (pe_one (pe_not (pe_callB call_isi (by rfl) T.n_isinstance (by decide +kernel) (pa_cons (pv 0) (pa_cons (pe_bltn (v := V.ty "bool") (by rfl) T.n_bool (by decide +kernel) rfl) pa_nil)))))))), ?_⟩
    walk_at "rd"
    refine RD.d_isi (.ty _) ty e1 ?_
    walk_at "rd"
    cases b1 with
    | false =>
      walk_at "rd"
      rw [eb] at q; exact q
    | true =>
      walk_at "rd"
      refine RD.d_isi (.ty _) ty e2 ?_
      walk_at "rd"
      rw [eb] at q
      simpa using q
end

/-! ### errors with a value -/
def spWE (K : PySem.W.Frag) : Sp := fun vs H Q _ => ∃ (a C : Addr) (v : V), vs = [.ref a, v] ∧ OexC K C ∧ PySem.W.findIn K (.ref C) "value" = some none ∧ H a = some (exo a C none) ∧
  ∀ d, H d = none → d ≠ a → Q .non (upd (upd H d (exd d [("value", v)])) a (exo a C (some d)))
/-- an error's own dict, with its value -/
def ErrD (v : V) : HO := .xd [(("value" : Str), v)]
theorem errD_v (v : V) : List.lookup ("value" : Str) [(("value" : Str), v)] = some v := by simp [List.lookup]
section
variable {P : Program} {w : World} {K : PySem.W.Frag} {mg : Str → Option Value} {base : Heap}
theorem ok_WayError__init (T : Top K mg) : FnOk P w K mg base CX0 1 T.f_WayError__init T.fd_WayError__init ["self", "value"] (spWE K) := by
  refine T.F_WayError__init.ok sc_WayError__init (fun vs H Q E h => ?_) (fun cdv A outer s H vs Q E hr h => ?_)
  · obtain ⟨a, C, v, rfl, _⟩ := h; rfl
  · obtain ⟨a, C, v, rfl, oc, nv, ha, q⟩ := h
    refine ⟨_, (pss_one (ps_ost (pv 0) (pv 1))), ?_⟩
    exact ⟨_, rfl, _, rfl, a, C, rfl, oc, nv, .inl ⟨ha, fun d hd ne => q d hd ne⟩⟩
end
/-- what is asked where such an error is raised -/
theorem d_mkO {K : PySem.W.Frag} {H : Hp} {C : Addr} {v : V} {R : XK} (oc : OexC K C) (nv : PySem.W.findIn K (.ref C) "value" = some none) (k : ∀ d, H d = none → R (.ref C) (some d) (upd H d (ErrD v))) :
    [v].length ≤ 1000 ∧ ∀ a, H a = none → spWE K (.ref a :: ([v] ++ [])) (upd H a (exo a C none))
      (fun u H2 => u = .non ∧ ∃ (d : Addr) (fs : List (Str × V)), H2 a = some (exo a C (some d)) ∧ H2 d = some (exd d fs) ∧ H d = none ∧ R (.ref C) (some d) (upd (del H2 a) d (.xd fs))) (fun _ _ _ => False) := by
  refine ⟨by simp, fun a ha => ⟨a, C, v, rfl, oc, nv, upd_same, fun d hd ne => ⟨rfl, d, [(("value" : Str), v)], upd_same, ?_, ?_, ?_⟩⟩⟩
  · rw [upd_ne ne, upd_same]
  · rw [upd_ne ne] at hd; exact hd
  · have hd0 : H d = none := by rw [upd_ne ne] at hd; exact hd
    have e : upd (del (upd (upd (upd H a (exo a C none)) d (exd d [("value", v)])) a (exo a C (some d))) a) d (.xd [("value", v)]) = upd H d (ErrD v) := by
      funext b
      by_cases hb : b = d
      · subst hb; rw [upd_same, upd_same]; rfl
      · rw [upd_ne hb, upd_ne hb]
        by_cases hba : b = a
        · subst hba; rw [del_same, ha]
        · rw [del_ne hba, upd_ne hba, upd_ne hb, upd_ne hba]
    rw [e]; exact k d hd0
theorem d_raise {K : PySem.W.Frag} {σ : L2.St} {H : Hp} {C : Addr} {ta : TA} {R : XK} (h : ta σ H fun vs H1 => vs.length ≤ 1000 ∧ ∀ a, H1 a = none → spWE K (.ref a :: (vs ++ [])) (upd H1 a (exo a C none))
      (fun u H2 => u = .non ∧ ∃ (d : Addr) (fs : List (Str × V)), H2 a = some (exo a C (some d)) ∧ H2 d = some (exd d fs) ∧ H1 d = none ∧ R (.ref C) (some d) (upd (del H2 a) d (.xd fs))) (fun _ _ _ => False)) :
    tMkO C (spWE K) [] ta σ H R := h

/-! ### the class Ratio -/
def ratF (q : Rat) : List (Str × V) := [(("top" : Str), V.int q.num), (("bottom" : Str), V.int (q.den : Int))]
def RatAt (C : Addr) (H : Hp) (a : Addr) (q : Rat) : Prop := ∃ dx, H a = some (.ins C dx (ratF q))
def spRat (K : PySem.W.Frag) (C BN : Addr) : Sp := fun vs H Q E => ∃ (x dx : Addr) (t b : V), vs = [.ref x, t, b] ∧ H x = some (.ins C dx []) ∧
  ((IsI K H t false ∧ ∀ d, H d = none → E (.ref BN) (some d) (upd H d (ErrD t))) ∨
   (∃ i : Int, t = .int i ∧ (IsI K H b false ∨ b = .int 0) ∧ ∀ d, H d = none → E (.ref BN) (some d) (upd H d (ErrD b))) ∨
   ∃ i j : Int, t = .int i ∧ b = .int j ∧ j ≠ 0 ∧ j.natAbs.log2 < 9000 ∧ Q .non (upd H x (.ins C dx (ratF (Rat.divInt i j)))))
theorem ratF_put (u v : V) : putF "bottom" v (putF "top" u []) = [(("top" : Str), u), (("bottom" : Str), v)] := by
  show (if ("top" : Str) = "bottom" then [(("top" : Str), v)] else (("top" : Str), u) :: putF "bottom" v []) = _
  rw [if_neg (by decide +kernel)]; rfl
theorem ratF_top (q : Rat) : (ratF q).lookup ("top" : Str) = some (.int q.num) := by unfold ratF; simp [List.lookup]
theorem tb_ne : (("bottom" : Str) == ("top" : Str)) = false := by decide +kernel
theorem ratF_bottom (q : Rat) : (ratF q).lookup ("bottom" : Str) = some (.int (q.den : Int)) := by unfold ratF; simp [List.lookup, tb_ne]
theorem log2_mono {a b : Nat} (h : a ≤ b) : a.log2 ≤ b.log2 := by
  by_cases ha : a = 0
  · subst ha; simp
  · exact (Nat.le_log2 (by omega)).mpr (Nat.le_trans (Nat.log2_self_le ha) h)
section
variable {P : Program} {w : World} {K : PySem.W.Frag} {mg : Str → Option Value} {base : Heap}
theorem ok_Ratio__init (T : Top K mg) : FnOk P w K mg base (L2.CX P w) 3 T.f_Ratio__init T.fd_Ratio__init ["self", "top", "bottom"] (spRat K T.C_Ratio T.C_BN) := by
  refine T.F_Ratio__init.ok sc_Ratio__init (fun vs H Q E h => ?_) (fun cdv A outer s H vs Q E hr h => ?_)
  · obtain ⟨x, dx, t, b, rfl, _⟩ := h; rfl
  · obtain ⟨x, dx, t, b, rfl, hx, h⟩ := h
    refine ⟨_, (pss_cons (ps_if (pt_not (pt_val (pe_call (ok_is_integer T) (hr.mono (by decide)) (by rfl) T.g_is_integer T.F_is_integer.kp T.b_is_integer .nil pass0 (pa_cons (pv 1) pa_nil))))
 (pss_one (ps_raise rfl (takes_of rfl rfl rfl rfl) (pmk_oex T.oex_BadNumber T.i_BadNumber T.tI (ok_WayError__init T) (hr.mono (by decide)) T.b_WayError__init .nil pass0 (by rfl) T.g_BadNumber (pa_cons (pv 1) pa_nil))))
 pss_nil)
 (pss_cons (ps_if (PW.pt (pw_or (pt_not (pt_val (pe_call (ok_is_integer T) (hr.mono (by decide)) (by rfl) T.g_is_integer T.F_is_integer.kp T.b_is_integer .nil pass0 (pa_cons (pv 2) pa_nil)))) (pw_or1 (pt_cmpR op_eq (pv 2) pe_int (nomark _)))))
 (pss_one (ps_raise rfl (takes_of rfl rfl rfl rfl) (pmk_oex T.oex_BadNumber T.i_BadNumber T.tI (ok_WayError__init T) (hr.mono (by decide)) T.b_WayError__init .nil pass0 (by rfl) T.g_BadNumber (pa_cons (pv 2) pa_nil))))
 pss_nil)
 (pss_cons (ps_set (i := 3) sc_Ratio__init.nd rfl (Or.inl rfl) (pe_callBfun cr_gcd (by rfl) T.g_gcd (pa_cons (pv 1) (pa_cons (pv 2) pa_nil))))
 (C8.pss_cut (ps_if (pt_cmpR op_lt (pv 2) pe_int (nomark _))
 (pss_one (ps_set (i := 3) sc_Ratio__init.nd rfl (Or.inl rfl) (pe_un un_neg (pv 3))))
 pss_nil)
 (pss_cons (ps_fld (pv 0) (pe_op OQ.op_fdivX (pv 1) (pv 3)) rfl)
 (pss_one (ps_fld (pv 0) (pe_op OQ.op_fdivX (pv 2) (pv 3)) rfl))))))), ?_⟩
    walk_at "rd"
    rcases h with ⟨ni, k⟩ | ⟨i, rfl, nb, k⟩ | ⟨i, j, rfl, rfl, nz, hl, k⟩
    · refine ⟨t, false, rfl, ni, ?_⟩
      walk_at "rd"
      exact d_mkO T.oex_BadNumber T.v_BadNumber k
    · refine ⟨.int i, true, rfl, isI_int i, ?_⟩
      walk_at "rd"
      rcases nb with nb | rfl
      · refine ⟨b, false, rfl, nb, ?_⟩
        walk_at "rd"
        exact d_mkO T.oex_BadNumber T.v_BadNumber k
      · refine ⟨.int 0, true, rfl, isI_int 0, ?_⟩
        walk_at "rd"
        exact d_mkO T.oex_BadNumber T.v_BadNumber k
    · refine ⟨.int i, true, rfl, isI_int i, ?_⟩
      walk_at "rd"
      refine ⟨.int j, true, rfl, isI_int j, ?_⟩
      walk_at "rd"
      refine RD.d_iteDF nz ?_
      walk_at "rd"
      have hs := RM.shr_ne (i := i) nz
      have hb : (RM.shr i j).natAbs.log2 < 9000 := Nat.lt_of_le_of_lt (log2_mono (RM.shr_le nz)) hl
      refine RD.d_cut (fun σ' H' => σ' = [some (.ref x), some (.int i), some (.int j), some (.int (RM.shr i j))] ∧ H' = H) ?_ ?_
      · walk_at "rd"
        refine RD.iteD (fun c => ?_) (fun c => ?_)
        · walk_at "rd"
          exact ⟨by unfold RM.shr; rw [if_pos c]; rfl, rfl⟩
        · walk_at "rd"
          exact ⟨by unfold RM.shr; rw [if_neg c]; rfl, rfl⟩
      · rintro σ' H' ⟨rfl, rfl⟩
        walk_at "rd"
        refine ⟨x, T.C_Ratio, dx, [], rfl, hx, T.cl_Ratio, T.na_Ratio_top, by show 0 < 1000; decide, ?_⟩
        walk_at "rd"
        refine ⟨x, T.C_Ratio, dx, _, rfl, upd_same, T.cl_Ratio, T.na_Ratio_bottom, by show 1 < 1000; decide, ?_⟩
        rw [upd_upd, RM.num_eq nz, RM.den_eq nz, ratF_put]
        exact k
end

section
variable {P : Program} {w : World} {K : PySem.W.Frag} {mg : Str → Option Value} {base : Heap} {H : Hp} {R : V → Prop}
theorem ratTop (T : Top K mg) {a : Addr} {q : Rat} (h : RatAt T.C_Ratio H a q) (k : R (.int q.num)) : ∃ a' C dx fs v, V.ref a = .ref a' ∧ H a' = some (.ins C dx fs) ∧ Cls K C ∧ NoAttr K C "top" ∧ fs.lookup ("top" : Str) = some v ∧ R v := by
  obtain ⟨dx, e⟩ := h
  exact ⟨a, _, dx, _, _, rfl, e, T.cl_Ratio, T.na_Ratio_top, ratF_top q, k⟩
theorem ratBottom (T : Top K mg) {a : Addr} {q : Rat} (h : RatAt T.C_Ratio H a q) (k : R (.int (q.den : Int))) : ∃ a' C dx fs v, V.ref a = .ref a' ∧ H a' = some (.ins C dx fs) ∧ Cls K C ∧ NoAttr K C "bottom" ∧ fs.lookup ("bottom" : Str) = some v ∧ R v := by
  obtain ⟨dx, e⟩ := h
  exact ⟨a, _, dx, _, _, rfl, e, T.cl_Ratio, T.na_Ratio_bottom, ratF_bottom q, k⟩
theorem tyR (T : Top K mg) {a : Addr} {q : Rat} (h : RatAt T.C_Ratio H a q) : TyX K H (.ref a) (.ref T.C_Ratio) := by
  obtain ⟨dx, e⟩ := h
  exact .base (.ins e T.cl_Ratio T.haR T.hnO T.htO T.hmR)
theorem isI_rat (T : Top K mg) {a : Addr} {q : Rat} (h : RatAt T.C_Ratio H a q) : IsI K H (.ref a) false := ⟨_, false, false, tyR T h, T.kRi, T.kRb, rfl⟩
def spEq (K : PySem.W.Frag) (C : Addr) : Sp := fun vs H Q _ => ∃ (a : Addr) (p : Rat) (y : V), vs = [.ref a, y] ∧ RatAt C H a p ∧
  ((∃ b q, y = .ref b ∧ RatAt C H b q ∧ Q (.bl (decide (p = q))) H) ∨ (∃ i : Int, y = .int i ∧ Q (.bl (decide (p = (i : Rat)))) H) ∨
   (∃ t, TyX K H y t ∧ PySem.W.kitOne K t (.ref C) = some false ∧ IsI K H y false ∧ Q (.bl false) H))
theorem ok_Ratio__eq (T : Top K mg) : FnOk P w K mg base CX0 2 T.f_Ratio__eq T.fd_Ratio__eq ["self", "other"] (spEq K T.C_Ratio) := by
  refine T.F_Ratio__eq.ok sc_Ratio__eq (fun vs H Q E h => ?_) (fun cdv A outer s H vs Q E hr h => ?_)
  · obtain ⟨a, p, y, rfl, _⟩ := h; rfl
  · obtain ⟨a, p, y, rfl, ha, h⟩ := h
    refine ⟨_, (pss_cons (ps_if (pt_val (pe_callB call_isi (by rfl) T.n_isinstance (by decide +kernel) (pa_cons (pv 1) (pa_cons (pe_glob (v := V.ref T.C_Ratio) (by rfl) T.g_Ratio rfl) pa_nil))))
 (pss_one (ps_ret (pe_and (pe_cmpR op_eq (pe_fld (pv 0) (by rfl)) (pe_fld (pv 1) (by rfl)) (nomark _)) (pe_one (pe_cmpR op_eq (pe_fld (pv 0) (by rfl)) (pe_fld (pv 1) (by rfl)) (nomark _))))))
 pss_nil)
 (pss_one (ps_ret (pe_and (pe_call (ok_is_integer T) (hr.mono (by decide)) (by rfl) T.g_is_integer T.F_is_integer.kp T.b_is_integer .nil pass0 (pa_cons (pv 1) pa_nil)) (pe_and (pe_cmpR op_eq (pe_fld (pv 0) (by rfl)) pe_int (nomark _)) (pe_one (pe_cmpR op_eq (pe_fld (pv 0) (by rfl)) (pv 1) (nomark _)))))))), ?_⟩
    walk_at "rd"
    rcases h with ⟨b, q, rfl, hb, k⟩ | ⟨i, rfl, k⟩ | ⟨t, ty, kt, ni, k⟩
    · refine RD.d_isi (.own _) (tyR T hb) T.kRR ?_
      walk_at "rd"
      refine ratTop T ha ?_
      walk_at "rd"
      refine ratTop T hb ?_
      walk_at "rd"
      refine RD.iteD (fun c => ?_) (fun c => ?_)
      · walk_at "rd"
        refine ratBottom T ha ?_
        walk_at "rd"
        refine ratBottom T hb ?_
        walk_at "rd"
        have e : decide ((p.den : Int) = (q.den : Int)) = decide (p = q) := by
          rw [decide_eq_decide]
          exact ⟨fun z => Rat.ext c (by omega), fun z => by rw [z]⟩
        rw [e]; exact k
      · walk_at "rd"
        have e : false = decide (p = q) := by
          symm; exact decide_eq_false (fun z => c (by rw [z]))
        rw [e]; exact k
    · refine RD.d_isi (.own _) (.base (.int i)) (T.kT "int" (by simp)).1 ?_
      walk_at "rd"
      refine ⟨.int i, true, rfl, isI_int i, ?_⟩
      walk_at "rd"
      refine ratBottom T ha ?_
      walk_at "rd"
      refine RD.iteD (fun c => ?_) (fun c => ?_)
      · walk_at "rd"
        refine ratTop T ha ?_
        walk_at "rd"
        have e : decide (p.num = i) = decide (p = (i : Rat)) := by
          rw [decide_eq_decide]
          exact ⟨fun z => Rat.ext (by rw [Rat.num_intCast]; exact z) (by rw [Rat.den_intCast]; omega), fun z => by rw [z, Rat.num_intCast]⟩
        rw [e]; exact k
      · walk_at "rd"
        have e : false = decide (p = (i : Rat)) := by
          symm; exact decide_eq_false (fun z => c (by rw [z, Rat.den_intCast]; rfl))
        rw [e]; exact k
    · refine RD.d_isi (.own _) ty kt ?_
      walk_at "rd"
      refine ⟨y, false, rfl, ni, ?_⟩
      walk_at "rd"
      exact k
end

/-! ### what the law asks of a Ratio, and of refusals -/
theorem tyX_same {K : PySem.W.Frag} {H H' : Hp} {x : V} {t : Value} (h : TyX K H x t) (s : Same H H') : TyX K H' x t := by
  cases h with
  | base b =>
    refine .base ?_
    cases b with
    | non => exact .non
    | bl x => exact .bl x
    | int i => exact .int i
    | str x => exact .str x
    | flt x => exact .flt x
    | lst e => exact .lst (s _ _ e)
    | frz e => exact .frz (s _ _ e)
    | tup e => exact .tup (s _ _ e)
    | dK e => exact .dK (s _ _ e)
    | dT e => exact .dT (s _ _ e)
    | ins e cl a n k m => exact .ins (s _ _ e) cl a n k m
  | byt b => exact .byt b
  | set e => exact .set (s _ _ e)
  | kList e c => exact .kList e c
  | kTuple e c => exact .kTuple e c
  | kDict e c => exact .kDict e c
  | fTuple e => exact .fTuple (s _ _ e)
  | fDict e => exact .fDict (s _ _ e)
theorem IsI.same {K : PySem.W.Frag} {H H' : Hp} {x : V} {b : Bool} (h : IsI K H x b) (s : Same H H') : IsI K H' x b := by
  obtain ⟨t, b1, b2, ty, e1, e2, e⟩ := h
  exact ⟨t, b1, b2, tyX_same ty s, e1, e2, e⟩
theorem RatAt.same {C : Addr} {H H' : Hp} {a : Addr} {q : Rat} (h : RatAt C H a q) (s : Same H H') : RatAt C H' a q := by
  obtain ⟨dx, e⟩ := h
  exact ⟨dx, s _ _ e⟩
theorem HandAt.same {H H' : Hp} {h c : Addr} (x : HandAt H h c) (s : Same H H') : HandAt H' h c := by
  obtain ⟨cs, p, q, m, n, e1, e2, ne, hp⟩ := x
  exact ⟨cs, p, q, m, n, s _ _ e1, s _ _ e2, ne, hp⟩
theorem same_upd {H : Hp} {p : Addr} {o : HO} (h : H p = none) : Same H (upd H p o) := fun b u e => by
  rw [upd_ne (ne_of_none e h)]; exact e
theorem same_made {H : Hp} {x dx C : Addr} (nx : H x = none) (ndx : H dx = none) (ne : dx ≠ x) : Same H (upd (upd H dx (.own x)) x (.ins C dx [])) := fun b u e => by
  rw [upd_ne (ne_of_none e nx), upd_ne (ne_of_none e ndx)]; exact e

/-! ### rows and tables of worths -/
def RowL (H : Hp) (r : Addr) (n : Nat) (g : Nat → Int) : Prop := H r = some (.lst ((List.range n).map fun j => V.int (g j)))
def TabL (H : Hp) (a : Addr) (n : Nat) (f : Nat → Nat → Int) : Prop := ∃ rs : List Addr, rs.length = n ∧ H a = some (.lst (rs.map V.ref)) ∧ ∀ (i : Nat) (r : Addr), rs[i]? = some r → RowL H r n (f i)
/-- all of f is below n -/
def Wth (n : Nat) (f : Nat → Nat → Int) : Prop := ∀ i j, i < n → j < n → 0 ≤ f i j ∧ f i j < n
theorem RowL.same {H H' : Hp} {r : Addr} {n : Nat} {g : Nat → Int} (h : RowL H r n g) (s : Same H H') : RowL H' r n g := s _ _ h
theorem TabL.same {H H' : Hp} {a : Addr} {n : Nat} {f : Nat → Nat → Int} (h : TabL H a n f) (s : Same H H') : TabL H' a n f := by
  obtain ⟨rs, l, e, q⟩ := h
  exact ⟨rs, l, s _ _ e, fun i r z => s _ _ (q i r z)⟩
theorem kitA_list {K : PySem.W.Frag} : PySem.W.kitAny K (.type "list") [.type "list", .type "tuple"] = some true := by
  unfold PySem.W.kitAny
  rw [kit_ty (r := true) (by decide +kernel)]
def spIsRow (K : PySem.W.Frag) : Sp := fun vs H Q _ => ∃ (x : V) (t : Value) (b : Bool), vs = [x] ∧ TyX K H x t ∧ PySem.W.kitAny K t [.type "list", .type "tuple"] = some b ∧ ∀ H', Same H H' → Q (.bl b) H'
def spBelow : Sp := fun vs H Q _ => ∃ n i : Int, vs = [.int n, .int i] ∧ 0 ≤ i ∧ i < n ∧ Q (.bl true) H
def spSide : Sp := fun vs H Q _ => ∃ (n : Nat) (r : Addr) (g : Nat → Int), vs = [.int n, .ref r] ∧ n ≤ 16 ∧ RowL H r n g ∧ (∀ j, j < n → 0 ≤ g j ∧ g j < n) ∧ ∀ H', Same H H' → Q (.bl true) H'
def spSquare : Sp := fun vs H Q _ => ∃ (n : Nat) (a : Addr) (f : Nat → Nat → Int), vs = [.int n, .ref a] ∧ n ≤ 16 ∧ TabL H a n f ∧ Wth n f ∧ ∀ H', Same H H' → Q (.bl true) H'
section
variable {P : Program} {w : World} {K : PySem.W.Frag} {mg : Str → Option Value} {base : Heap}
theorem ok_is_row (T : Top K mg) : FnOk P w K mg base CX0 1 T.f_is_row T.fd_is_row ["thing"] (spIsRow K) := by
  refine T.F_is_row.ok sc_is_row (fun vs H Q E h => ?_) (fun cdv A outer s H vs Q E hr h => ?_)
  · obtain ⟨x, t, b, rfl, _⟩ := h; rfl
  · obtain ⟨x, t, b, rfl, ty, e, k⟩ := h
    refine ⟨_, (pss_one (ps_ret (pe_callB call_isiT (by rfl) T.n_isinstance (by decide +kernel) (pa_cons (pv 0) (pa_cons (pe_tup (pa_cons (pe_bltn (v := V.ty "list") (by rfl) T.n_list (by decide +kernel) rfl) (pa_cons (pe_bltn (v := V.ty "tuple") (by rfl) T.n_tuple (by decide +kernel) rfl) pa_nil))) pa_nil))))), ?_⟩
    walk_at "rd"
    refine ⟨by show 2 ≤ sizeLine; decide, fun tp htp => ?_⟩
    walk_at "rd"
    exact ⟨x, tp, _, t, _, b, rfl, upd_same, .cons (.ty _) (.cons (.ty _) .nil), tyX_same ty (same_upd htp), e, k _ (same_upd htp)⟩
theorem ok_is_below (T : Top K mg) : FnOk P w K mg base CX0 2 T.f_is_below T.fd_is_below ["many", "thing"] spBelow := by
  refine T.F_is_below.ok sc_is_below (fun vs H Q E h => ?_) (fun cdv A outer s H vs Q E hr h => ?_)
  · obtain ⟨n, i, rfl, _⟩ := h; rfl
  · obtain ⟨n, i, rfl, h0, h1, k⟩ := h
    refine ⟨_, (pss_one (ps_ret (pe_and (pe_call (ok_is_integer T) (hr.mono (by decide)) (by rfl) T.g_is_integer T.F_is_integer.kp T.b_is_integer .nil pass0 (pa_cons (pv 1) pa_nil)) (pe_one (pe_chain op_le op_lt pe_int (pv 1) (pv 0)))))), ?_⟩
    walk_at "rd"
    refine ⟨.int i, true, rfl, isI_int i, ?_⟩
    walk_at "rd"
    refine RD.d_chain ?_
    walk_at "rd"
    rw [decide_eq_true h0]
    walk_at "rd"
    rw [decide_eq_true h1]
    exact k
theorem ok_is_side (T : Top K mg) : FnOk P w K mg base CX0 4 T.f_is_side T.fd_is_side ["many", "thing"] spSide := by
  refine T.F_is_side.ok sc_is_side (fun vs H Q E h => ?_) (fun cdv A outer s H vs Q E hr h => ?_)
  · obtain ⟨n, r, g, rfl, _⟩ := h; rfl
  · obtain ⟨n, r, g, rfl, n16, hR, hg, k⟩ := h
    refine ⟨_, (pss_one (ps_ret (pe_and (pe_call (ok_is_row T) (hr.mono (by decide)) (by rfl) T.g_is_row T.F_is_row.kp T.b_is_row .nil pass0 (pa_cons (pv 1) pa_nil)) (pe_and (pe_cmpR op_eq (pe_callB RD.c_len (by rfl) T.n_len (by decide +kernel) (pa_cons (pv 1) pa_nil)) (pv 0) (nomark _)) (pe_one (pe_callB (cr_all rfl) (by rfl) T.n_all (by decide +kernel) (pa_cons (pe_lc (own := [("item", 2)]) (g := (gName 2)) (tt := tYes) rfl sc_is_side.nd (pi_list (pv 1)) (blkOk_by (own := [("item", 2)]) (N := ["many", "thing", "item"]) (sc := defScope s_is_side) (by decide +kernel)) (fun _ _ _ _ _ => (pg_name (i := 2) sc_is_side.nd rfl (Or.inl rfl))) (fun _ _ _ _ _ => pts_nil) (fun _ _ _ _ _ => (pe_call (ok_is_below T) (hr.mono (by decide)) (by rfl) T.g_is_below T.F_is_below.kp T.b_is_below .nil pass0 (pa_cons (pv 0) (pa_cons (pv 2) pa_nil))))) pa_nil))))))), ?_⟩
    walk_at "rd"
    refine ⟨.ref r, .type "list", true, rfl, .base (.lst hR), kitA_list, fun H1 s1 => ?_⟩
    replace hR := hR.same s1
    have hR' : H1 r = some (.lst ((List.range n).map fun j => V.int (g j))) := hR
    walk_at "rd"
    rw [List.length_map, List.length_range, decide_eq_true rfl]
    walk_at "rd"
    intro D hD
    have sD := same_upd (o := HO.lst []) hD
    refine lc_list (K := K) (a := r) (xs := (List.range n).map fun j => V.int (g j)) (fun i H' => Same H1 H' ∧ H' D = some (.lst ((List.replicate i true).map V.bl))) ⟨sD, upd_same⟩ ?_ ?_ ?_
    · rintro i H' _ ⟨s2, _⟩
      exact SqL.of (hR.same s2)
    · rintro i x H' hi ⟨s2, eD⟩
      have il : i < n := by have := (List.getElem?_eq_some_iff.mp hi).1; simpa using this
      rw [List.getElem?_map, List.getElem?_range il] at hi
      cases hi
      walk_at "rd"
      refine ⟨n, g i, rfl, (hg i il).1, (hg i il).2, ?_⟩
      refine ⟨_, eD, by rw [List.length_map, List.length_replicate]; exact Nat.lt_of_lt_of_le il (Nat.le_trans n16 (by decide)), fun b u e => ?_, ?_⟩
      · rw [upd_ne (ne_of_none e hD)]; exact s2 _ _ e
      · rw [upd_same, List.replicate_succ', List.map_append]; rfl
    · rintro H' ⟨s2, eD⟩
      rw [List.length_map, List.length_range] at eD
      walk_at "rd"
      refine ⟨D, _, rfl, SqL.of eD, ?_⟩
      rw [show (List.replicate n true).all id = true from List.all_eq_true.mpr fun x hx => by rw [(List.mem_replicate.mp hx).2]; rfl]
      exact k _ (s1.trans s2)
theorem ok_is_square (T : Top K mg) : FnOk P w K mg base CX0 6 T.f_is_square T.fd_is_square ["many", "thing"] spSquare := by
  refine T.F_is_square.ok sc_is_square (fun vs H Q E h => ?_) (fun cdv A outer s H vs Q E hr h => ?_)
  · obtain ⟨n, a, f, rfl, _⟩ := h; rfl
  · obtain ⟨n, a, f, rfl, n16, hT, hf, k⟩ := h
    refine ⟨_, (pss_one (ps_ret (pe_and (pe_call (ok_is_row T) (hr.mono (by decide)) (by rfl) T.g_is_row T.F_is_row.kp T.b_is_row .nil pass0 (pa_cons (pv 1) pa_nil)) (pe_and (pe_cmpR op_eq (pe_callB RD.c_len (by rfl) T.n_len (by decide +kernel) (pa_cons (pv 1) pa_nil)) (pv 0) (nomark _)) (pe_one (pe_callB (cr_all rfl) (by rfl) T.n_all (by decide +kernel) (pa_cons (pe_lc (own := [("row", 2)]) (g := (gName 2)) (tt := tYes) rfl sc_is_square.nd (pi_list (pv 1)) (blkOk_by (own := [("row", 2)]) (N := ["many", "thing", "row"]) (sc := defScope s_is_square) (by decide +kernel)) (fun _ _ _ _ _ => (pg_name (i := 2) sc_is_square.nd rfl (Or.inl rfl))) (fun _ _ _ _ _ => pts_nil) (fun _ _ _ _ _ => (pe_call (ok_is_side T) (hr.mono (by decide)) (by rfl) T.g_is_side T.F_is_side.kp T.b_is_side .nil pass0 (pa_cons (pv 0) (pa_cons (pv 2) pa_nil))))) pa_nil))))))), ?_⟩
    walk_at "rd"
    obtain ⟨rs, len, ea, rows⟩ := id hT
    refine ⟨.ref a, .type "list", true, rfl, .base (.lst ea), kitA_list, fun H1 s1 => ?_⟩
    replace ea := s1 _ _ ea
    walk_at "rd"
    rw [List.length_map, len, decide_eq_true rfl]
    walk_at "rd"
    intro D hD
    have sD := same_upd (o := HO.lst []) hD
    refine lc_list (K := K) (a := a) (xs := rs.map V.ref) (fun i H' => Same H1 H' ∧ H' D = some (.lst ((List.replicate i true).map V.bl))) ⟨sD, upd_same⟩ ?_ ?_ ?_
    · rintro i H' _ ⟨s2, _⟩
      exact SqL.of (s2 _ _ ea)
    · rintro i x H' hi ⟨s2, eD⟩
      have il : i < n := by have := (List.getElem?_eq_some_iff.mp hi).1; rw [List.length_map, len] at this; exact this
      have il' : i < rs.length := by rw [len]; exact il
      rw [List.getElem?_map, List.getElem?_eq_getElem il'] at hi
      cases hi
      walk_at "rd"
      refine ⟨n, rs[i], f i, rfl, n16, ((rows i _ (List.getElem?_eq_getElem il')).same s1).same s2, fun j hj => hf i j il hj, fun H'' s3 => ?_⟩
      refine ⟨_, s3 _ _ eD, by rw [List.length_map, List.length_replicate]; exact Nat.lt_of_lt_of_le il (Nat.le_trans n16 (by decide)), fun b u e => ?_, ?_⟩
      · rw [upd_ne (ne_of_none e hD)]; exact s3 _ _ (s2 _ _ e)
      · rw [upd_same, List.replicate_succ', List.map_append]; rfl
    · rintro H' ⟨s2, eD⟩
      rw [List.length_map, len] at eD
      walk_at "rd"
      refine ⟨D, _, rfl, SqL.of eD, ?_⟩
      rw [show (List.replicate n true).all id = true from List.all_eq_true.mpr fun x hx => by rw [(List.mem_replicate.mp hx).2]; rfl]
      exact k _ (s1.trans s2)
end

/-! ### the faults of a reckoning that has none -/
def TabN (H : Hp) (a : Addr) (n : Nat) (f : Nat → Nat → Nat) : Prop := TabL H a n fun i j => (f i j : Int)
structure Good (n : Nat) (J P : Nat → Nat → Nat) (z o : Nat) : Prop where
  n2 : 2 ≤ n
  n16 : n ≤ 16
  zn : z < n
  on : o < n
  wj : ∀ a b, a < n → b < n → J a b < n
  wp : ∀ a b, a < n → b < n → P a b < n
  none : ∀ a, a < n → J z a = a ∧ J a z = a ∧ P z a = z ∧ P a z = z
  one : ∀ a, a < n → P o a = a ∧ P a o = a
  idle : ∀ a, a < n → J a a = a
  swap : ∀ a b, a < n → b < n → J a b = J b a
  gj : ∀ a b c, a < n → b < n → c < n → J (J a b) c = J a (J b c)
  gp : ∀ a b c, a < n → b < n → c < n → P (P a b) c = P a (P b c)
  over : ∀ a b c, a < n → b < n → c < n → P a (J b c) = J (P a b) (P a c) ∧ P (J b c) a = J (P b a) (P c a)
  same : z ≠ o
section
variable {K : PySem.W.Frag} {H : Hp} {a : Addr} {n : Nat} {Q : VK}
theorem ixT {f : Nat → Nat → Nat} {i : Int} {m : Nat} (h : TabN H a n f) (e : i = m) (hn : m < n) (k : ∀ r, RowL H r n (fun j => (f m j : Int)) → Q (.ref r) H) : rIxL K (.ref a) (.int i) H Q := by
  obtain ⟨rs, len, ea, rows⟩ := h
  have hm : m < rs.length := by rw [len]; exact hn
  subst e
  exact RD.d_ixL (SqL.of ea) (atI_nat (by rw [List.getElem?_map, List.getElem?_eq_getElem hm]; rfl)) (k _ (rows m _ (List.getElem?_eq_getElem hm)))
theorem ixR {g : Nat → Int} {i : Int} {m : Nat} (h : RowL H a n g) (e : i = m) (hn : m < n) (k : Q (.int (g m)) H) : rIxL K (.ref a) (.int i) H Q := by
  subst e
  exact RD.d_ixL (SqL.of h) (atI_nat (by rw [List.getElem?_map, List.getElem?_range hn]; rfl)) k
end
/-- what comes to None, the objects that were there as they were -/
def spNo (C : List V → Hp → Prop) : Sp := fun vs H Q _ => C vs H ∧ ∀ H', Same H H' → Q .non H'
section
variable {P : Program} {w : World} {K : PySem.W.Frag} {mg : Str → Option Value} {base : Heap}
theorem ok_none_fault (T : Top K mg) : FnOk P w K mg base CX0 1 T.f_none_fault T.fd_none_fault ["joins", "products", "none"] (spNo fun vs H => ∃ a b n J M z o, vs = [.ref a, .ref b, .int (z : Nat)] ∧ TabN H a n J ∧ TabN H b n M ∧ Good n J M z o) := by
  refine T.F_none_fault.ok sc_none_fault (fun vs H Q E h => ?_) (fun cdv A outer s H vs Q E hr h => ?_)
  · obtain ⟨⟨a, b, n, J, M, z, o, rfl, _⟩, _⟩ := h; rfl
  · obtain ⟨⟨a, b, n, J, M, z, o, rfl, tj, tp, G⟩, k⟩ := h
    obtain ⟨rs, len, ea, rows⟩ := id tj
    have n16 := G.n16
    refine ⟨_, (pss_cons (ps_for PassesOwn.never rfl (pi_range1 (by rfl) T.n_range (pa_cons (pe_callB RD.c_len (by rfl) T.n_len (by decide +kernel) (pa_cons (pv 0) pa_nil)) pa_nil)) (pg_name (i := 3) sc_none_fault.nd rfl (Or.inl rfl))
 (pss_cons (ps_if (PW.pt (pw_or (pt_cmpR op_ne (pe_ix ix_list (pe_ix ix_list (pv 0) (pv 2) (fun _ _ => rfl)) (pv 3) (fun _ _ => rfl)) (pv 3) (nomark _)) (pw_or1 (pt_cmpR op_ne (pe_ix ix_list (pe_ix ix_list (pv 0) (pv 3) (fun _ _ => rfl)) (pv 2) (fun _ _ => rfl)) (pv 3) (nomark _)))))
 (pss_one (ps_ret (pe_tup (pa_cons pe_str (pa_cons (pv 3) (pa_cons (pe_un un_neg pe_int) (pa_cons (pe_un un_neg pe_int) pa_nil)))))))
 pss_nil)
 (pss_one (ps_if (PW.pt (pw_or (pt_cmpR op_ne (pe_ix ix_list (pe_ix ix_list (pv 1) (pv 2) (fun _ _ => rfl)) (pv 3) (fun _ _ => rfl)) (pv 2) (nomark _)) (pw_or1 (pt_cmpR op_ne (pe_ix ix_list (pe_ix ix_list (pv 1) (pv 3) (fun _ _ => rfl)) (pv 2) (fun _ _ => rfl)) (pv 2) (nomark _)))))
 (pss_one (ps_ret (pe_tup (pa_cons pe_str (pa_cons (pv 3) (pa_cons (pe_un un_neg pe_int) (pa_cons (pe_un un_neg pe_int) pa_nil)))))))
 pss_nil))))
 (pss_one (ps_ret pe_non))), ?_⟩
    walk_at "rd"
    refine ⟨n, by rw [List.length_map, len], by omega, by omega, ?_⟩
    refine RD.f_range (lo := 0) (n := n) (fun t σ' H' => ∃ v : Option V, σ' = [some (.ref a), some (.ref b), some (.int z), v] ∧ H' = H) ⟨none, rfl, rfl⟩ ?_ ?_
    · rintro t σ' H' ht ⟨v, rfl, rfl⟩
      obtain ⟨g1, g2, g3, g4⟩ := G.none t ht
      walk_at "rd"
      refine ixT (m := z) tj (by omega) G.zn (fun r hr => ?_)
      walk_at "rd"
      refine ixR (m := t) hr (by omega) ht ?_
      walk_at "rd"
      rw [decide_eq_true (by rw [g1]; omega : ((J z t : Nat) : Int) = 0 + t)]
      walk_at "rd"
      refine ixT (m := t) tj (by omega) ht (fun r hr => ?_)
      walk_at "rd"
      refine ixR (m := z) hr (by omega) G.zn ?_
      walk_at "rd"
      rw [decide_eq_true (by rw [g2]; omega : ((J t z : Nat) : Int) = 0 + t)]
      walk_at "rd"
      refine ixT (m := z) tp (by omega) G.zn (fun r hr => ?_)
      walk_at "rd"
      refine ixR (m := t) hr (by omega) ht ?_
      walk_at "rd"
      rw [decide_eq_true (by rw [g3] : ((M z t : Nat) : Int) = (z : Int))]
      walk_at "rd"
      refine ixT (m := t) tp (by omega) ht (fun r hr => ?_)
      walk_at "rd"
      refine ixR (m := z) hr (by omega) G.zn ?_
      walk_at "rd"
      rw [decide_eq_true (by rw [g4] : ((M t z : Nat) : Int) = (z : Int))]
      walk_at "rd"
      exact ⟨_, rfl, rfl⟩
    · rintro σ' H' ⟨v, rfl, rfl⟩
      walk_at "rd"
      exact k _ (Same.refl _)
theorem ok_one_fault (T : Top K mg) : FnOk P w K mg base CX0 1 T.f_one_fault T.fd_one_fault ["products", "one"] (spNo fun vs H => ∃ b n J M z o, vs = [.ref b, .int (o : Nat)] ∧ TabN H b n M ∧ Good n J M z o) := by
  refine T.F_one_fault.ok sc_one_fault (fun vs H Q E h => ?_) (fun cdv A outer s H vs Q E hr h => ?_)
  · obtain ⟨⟨b, n, J, M, z, o, rfl, _⟩, _⟩ := h; rfl
  · obtain ⟨⟨b, n, J, M, z, o, rfl, tp, G⟩, k⟩ := h
    obtain ⟨rs, len, ea, rows⟩ := id tp
    have n16 := G.n16
    refine ⟨_, (pss_cons (ps_for PassesOwn.never rfl (pi_range1 (by rfl) T.n_range (pa_cons (pe_callB RD.c_len (by rfl) T.n_len (by decide +kernel) (pa_cons (pv 0) pa_nil)) pa_nil)) (pg_name (i := 2) sc_one_fault.nd rfl (Or.inl rfl))
 (pss_one (ps_if (PW.pt (pw_or (pt_cmpR op_ne (pe_ix ix_list (pe_ix ix_list (pv 0) (pv 1) (fun _ _ => rfl)) (pv 2) (fun _ _ => rfl)) (pv 2) (nomark _)) (pw_or1 (pt_cmpR op_ne (pe_ix ix_list (pe_ix ix_list (pv 0) (pv 2) (fun _ _ => rfl)) (pv 1) (fun _ _ => rfl)) (pv 2) (nomark _)))))
 (pss_one (ps_ret (pe_tup (pa_cons pe_str (pa_cons (pv 2) (pa_cons (pe_un un_neg pe_int) (pa_cons (pe_un un_neg pe_int) pa_nil)))))))
 pss_nil)))
 (pss_one (ps_ret pe_non))), ?_⟩
    walk_at "rd"
    refine ⟨n, by rw [List.length_map, len], by omega, by omega, ?_⟩
    refine RD.f_range (lo := 0) (n := n) (fun t σ' H' => ∃ v : Option V, σ' = [some (.ref b), some (.int o), v] ∧ H' = H) ⟨none, rfl, rfl⟩ ?_ ?_
    · rintro t σ' H' ht ⟨v, rfl, rfl⟩
      obtain ⟨g1, g2⟩ := G.one t ht
      walk_at "rd"
      refine ixT (m := o) tp (by omega) G.on (fun r hr => ?_)
      walk_at "rd"
      refine ixR (m := t) hr (by omega) ht ?_
      walk_at "rd"
      rw [decide_eq_true (by rw [g1]; omega : ((M o t : Nat) : Int) = 0 + t)]
      walk_at "rd"
      refine ixT (m := t) tp (by omega) ht (fun r hr => ?_)
      walk_at "rd"
      refine ixR (m := o) hr (by omega) G.on ?_
      walk_at "rd"
      rw [decide_eq_true (by rw [g2]; omega : ((M t o : Nat) : Int) = 0 + t)]
      walk_at "rd"
      exact ⟨_, rfl, rfl⟩
    · rintro σ' H' ⟨v, rfl, rfl⟩
      walk_at "rd"
      exact k _ (Same.refl _)
theorem ok_idle_fault (T : Top K mg) : FnOk P w K mg base CX0 1 T.f_idle_fault T.fd_idle_fault ["joins"] (spNo fun vs H => ∃ a n J M z o, vs = [.ref a] ∧ TabN H a n J ∧ Good n J M z o) := by
  refine T.F_idle_fault.ok sc_idle_fault (fun vs H Q E h => ?_) (fun cdv A outer s H vs Q E hr h => ?_)
  · obtain ⟨⟨a, n, J, M, z, o, rfl, _⟩, _⟩ := h; rfl
  · obtain ⟨⟨a, n, J, M, z, o, rfl, tj, G⟩, k⟩ := h
    obtain ⟨rs, len, ea, rows⟩ := id tj
    have n16 := G.n16
    refine ⟨_, (pss_cons (ps_for PassesOwn.never rfl (pi_range1 (by rfl) T.n_range (pa_cons (pe_callB RD.c_len (by rfl) T.n_len (by decide +kernel) (pa_cons (pv 0) pa_nil)) pa_nil)) (pg_name (i := 1) sc_idle_fault.nd rfl (Or.inl rfl))
 (pss_one (ps_if (pt_cmpR op_ne (pe_ix ix_list (pe_ix ix_list (pv 0) (pv 1) (fun _ _ => rfl)) (pv 1) (fun _ _ => rfl)) (pv 1) (nomark _))
 (pss_one (ps_ret (pe_tup (pa_cons pe_str (pa_cons (pv 1) (pa_cons (pe_un un_neg pe_int) (pa_cons (pe_un un_neg pe_int) pa_nil)))))))
 pss_nil)))
 (pss_one (ps_ret pe_non))), ?_⟩
    walk_at "rd"
    refine ⟨n, by rw [List.length_map, len], by omega, by omega, ?_⟩
    refine RD.f_range (lo := 0) (n := n) (fun t σ' H' => ∃ v : Option V, σ' = [some (.ref a), v] ∧ H' = H) ⟨none, rfl, rfl⟩ ?_ ?_
    · rintro t σ' H' ht ⟨v, rfl, rfl⟩
      have g1 := G.idle t ht
      walk_at "rd"
      refine ixT (m := t) tj (by omega) ht (fun r hr => ?_)
      walk_at "rd"
      refine ixR (m := t) hr (by omega) ht ?_
      walk_at "rd"
      rw [decide_eq_true (by rw [g1]; omega : ((J t t : Nat) : Int) = 0 + t)]
      walk_at "rd"
      exact ⟨_, rfl, rfl⟩
    · rintro σ' H' ⟨v, rfl, rfl⟩
      walk_at "rd"
      exact k _ (Same.refl _)
theorem ok_swap_fault (T : Top K mg) : FnOk P w K mg base CX0 1 T.f_swap_fault T.fd_swap_fault ["joins"] (spNo fun vs H => ∃ a n J M z o, vs = [.ref a] ∧ TabN H a n J ∧ Good n J M z o) := by
  refine T.F_swap_fault.ok sc_swap_fault (fun vs H Q E h => ?_) (fun cdv A outer s H vs Q E hr h => ?_)
  · obtain ⟨⟨a, n, J, M, z, o, rfl, _⟩, _⟩ := h; rfl
  · obtain ⟨⟨a, n, J, M, z, o, rfl, tj, G⟩, k⟩ := h
    obtain ⟨rs, len, ea, rows⟩ := id tj
    have n16 := G.n16
    refine ⟨_, (pss_cons (ps_for PassesOwn.never rfl (pi_range1 (by rfl) T.n_range (pa_cons (pe_callB RD.c_len (by rfl) T.n_len (by decide +kernel) (pa_cons (pv 0) pa_nil)) pa_nil)) (pg_name (i := 1) sc_swap_fault.nd rfl (Or.inl rfl))
 (pss_one (ps_for PassesOwn.never rfl (pi_range1 (by rfl) T.n_range (pa_cons (pe_callB RD.c_len (by rfl) T.n_len (by decide +kernel) (pa_cons (pv 0) pa_nil)) pa_nil)) (pg_name (i := 2) sc_swap_fault.nd rfl (Or.inl rfl))
 (pss_one (ps_if (pt_cmpR op_ne (pe_ix ix_list (pe_ix ix_list (pv 0) (pv 1) (fun _ _ => rfl)) (pv 2) (fun _ _ => rfl)) (pe_ix ix_list (pe_ix ix_list (pv 0) (pv 2) (fun _ _ => rfl)) (pv 1) (fun _ _ => rfl)) (nomark _))
 (pss_one (ps_ret (pe_tup (pa_cons pe_str (pa_cons (pv 1) (pa_cons (pv 2) (pa_cons (pe_un un_neg pe_int) pa_nil)))))))
 pss_nil)))))
 (pss_one (ps_ret pe_non))), ?_⟩
    walk_at "rd"
    refine ⟨n, by rw [List.length_map, len], by omega, by omega, ?_⟩
    refine RD.f_range (lo := 0) (n := n) (fun t σ' H' => ∃ v v2 : Option V, σ' = [some (.ref a), v, v2] ∧ H' = H) ⟨none, none, rfl, rfl⟩ ?_ ?_
    · rintro t σ' H' ht ⟨v, v2, rfl, rfl⟩
      walk_at "rd"
      refine ⟨n, by rw [List.length_map, len], by omega, by omega, ?_⟩
      refine RD.f_range (lo := 0) (n := n) (fun u σ' H'' => ∃ v2 : Option V, σ' = [some (.ref a), some (.int (0 + t)), v2] ∧ H'' = H') ⟨v2, rfl, rfl⟩ ?_ ?_
      · rintro u σ' H'' hu ⟨v2, rfl, rfl⟩
        have g1 := G.swap t u ht hu
        walk_at "rd"
        refine ixT (m := t) tj (by omega) ht (fun r hr => ?_)
        walk_at "rd"
        refine ixR (m := u) hr (by omega) hu ?_
        walk_at "rd"
        refine ixT (m := u) tj (by omega) hu (fun r hr => ?_)
        walk_at "rd"
        refine ixR (m := t) hr (by omega) ht ?_
        walk_at "rd"
        rw [decide_eq_true (by rw [g1] : ((J t u : Nat) : Int) = ((J u t : Nat) : Int))]
        walk_at "rd"
        exact ⟨_, rfl, rfl⟩
      · rintro σ' H'' ⟨v2, rfl, rfl⟩
        exact ⟨_, _, rfl, rfl⟩
    · rintro σ' H' ⟨v, v2, rfl, rfl⟩
      walk_at "rd"
      exact k _ (Same.refl _)
theorem ok_grouping_fault (T : Top K mg) : FnOk P w K mg base CX0 1 T.f_grouping_fault T.fd_grouping_fault ["word", "table"] (spNo fun vs H => ∃ (q : V) (a : Addr) (n : Nat) (J : Nat → Nat → Nat), vs = [q, .ref a] ∧ TabN H a n J ∧ n ≤ 16 ∧ (∀ a b, a < n → b < n → J a b < n) ∧ (∀ a b c, a < n → b < n → c < n → J (J a b) c = J a (J b c))) := by
  refine T.F_grouping_fault.ok sc_grouping_fault (fun vs H Q E h => ?_) (fun cdv A outer s H vs Q E hr h => ?_)
  · obtain ⟨⟨q, a, n, J, rfl, _⟩, _⟩ := h; rfl
  · obtain ⟨⟨q, a, n, J, rfl, tj, n16, wj, gj⟩, k⟩ := h
    obtain ⟨rs, len, ea, rows⟩ := id tj
    refine ⟨_, (pss_cons (ps_set (i := 2) sc_grouping_fault.nd rfl (Or.inl rfl) (pe_callTy OQ.cr_range1 (by rfl) T.n_range (by decide +kernel) (pa_cons (pe_callB RD.c_len (by rfl) T.n_len (by decide +kernel) (pa_cons (pv 1) pa_nil)) pa_nil)))
 (pss_cons (ps_for PassesOwn.never rfl (OQ.pi_rngV (pv 2)) (pg_name (i := 3) sc_grouping_fault.nd rfl (Or.inl rfl))
 (pss_one (ps_for PassesOwn.never rfl (OQ.pi_rngV (pv 2)) (pg_name (i := 4) sc_grouping_fault.nd rfl (Or.inl rfl))
 (pss_one (ps_for PassesOwn.never rfl (OQ.pi_rngV (pv 2)) (pg_name (i := 5) sc_grouping_fault.nd rfl (Or.inl rfl))
 (pss_one (ps_if (pt_cmpR op_ne (pe_ix ix_list (pe_ix ix_list (pv 1) (pe_ix ix_list (pe_ix ix_list (pv 1) (pv 3) (fun _ _ => rfl)) (pv 4) (fun _ _ => rfl)) (fun _ _ => rfl)) (pv 5) (fun _ _ => rfl)) (pe_ix ix_list (pe_ix ix_list (pv 1) (pv 3) (fun _ _ => rfl)) (pe_ix ix_list (pe_ix ix_list (pv 1) (pv 4) (fun _ _ => rfl)) (pv 5) (fun _ _ => rfl)) (fun _ _ => rfl)) (nomark _))
 (pss_one (ps_ret (pe_tup (pa_cons (pv 0) (pa_cons (pv 3) (pa_cons (pv 4) (pa_cons (pv 5) pa_nil)))))))
 pss_nil)))))))
 (pss_one (ps_ret pe_non)))), ?_⟩
    walk_at "rd"
    refine ⟨n, by rw [List.length_map, len], fun p hp => ?_⟩
    have sp := same_upd (o := HO.rng 0 n) hp
    have ep : upd H p (.rng 0 n) p = some (.rng 0 n) := upd_same
    replace tj := TabL.same tj sp
    generalize upd H p (.rng 0 n) = H0 at *
    walk_at "rd"
    refine ⟨p, 0, n, rfl, ep, by omega, ?_⟩
    refine RD.f_range (lo := 0) (n := ((n : Int) - 0).toNat) (fun t σ' H' => ∃ v v2 v3 : Option V, σ' = [some q, some (.ref a), some (.ref p), v, v2, v3] ∧ H' = H0) ⟨none, none, none, rfl, rfl⟩ ?_ ?_
    · rintro t σ' H' ht' ⟨v, v2, v3, rfl, rfl⟩
      have ht : t < n := by omega
      walk_at "rd"
      refine ⟨p, 0, n, rfl, ep, by omega, ?_⟩
      refine RD.f_range (lo := 0) (n := ((n : Int) - 0).toNat) (fun u σ' H'' => ∃ v2 v3 : Option V, σ' = [some q, some (.ref a), some (.ref p), some (.int (0 + t)), v2, v3] ∧ H'' = H') ⟨v2, v3, rfl, rfl⟩ ?_ ?_
      · rintro u σ' H'' hu' ⟨v2, v3, rfl, rfl⟩
        have hu : u < n := by omega
        walk_at "rd"
        refine ⟨p, 0, n, rfl, ep, by omega, ?_⟩
        refine RD.f_range (lo := 0) (n := ((n : Int) - 0).toNat) (fun c σ' H' => ∃ v3 : Option V, σ' = [some q, some (.ref a), some (.ref p), some (.int (0 + t)), some (.int (0 + u)), v3] ∧ H' = H'') ⟨v3, rfl, rfl⟩ ?_ ?_
        · rintro c σ' H' hc' ⟨v3, rfl, rfl⟩
          have hc : c < n := by omega
          have w1 := wj t u ht hu
          have w2 := wj u c hu hc
          have g1 := gj t u c ht hu hc
          walk_at "rd"
          refine ixT (m := t) tj (by omega) ht (fun r hr => ?_)
          walk_at "rd"
          refine ixR (m := u) hr (by omega) hu ?_
          walk_at "rd"
          refine ixT (m := J t u) tj (by omega) w1 (fun r hr => ?_)
          walk_at "rd"
          refine ixR (m := c) hr (by omega) hc ?_
          walk_at "rd"
          refine ixT (m := t) tj (by omega) ht (fun r0 hr0 => ?_)
          walk_at "rd"
          refine ixT (m := u) tj (by omega) hu (fun r hr => ?_)
          walk_at "rd"
          refine ixR (m := c) hr (by omega) hc ?_
          walk_at "rd"
          refine ixR (m := J u c) hr0 rfl w2 ?_
          walk_at "rd"
          rw [decide_eq_true (by rw [g1] : ((J (J t u) c : Nat) : Int) = ((J t (J u c) : Nat) : Int))]
          walk_at "rd"
          exact ⟨_, rfl, rfl⟩
        · rintro σ' H' ⟨v3, rfl, rfl⟩
          exact ⟨_, _, rfl, rfl⟩
      · rintro σ' H'' ⟨v2, v3, rfl, rfl⟩
        exact ⟨_, _, _, rfl, rfl⟩
    · rintro σ' H' ⟨v, v2, v3, rfl, rfl⟩
      walk_at "rd"
      exact k _ sp
end

/-! ### the first fault, where there is none -/
section
variable {P : Program} {w : World} {K : PySem.W.Frag} {mg : Str → Option Value} {base : Heap}
theorem ok_over_fault (T : Top K mg) : FnOk P w K mg base CX0 1 T.f_over_fault T.fd_over_fault ["joins", "products"] (spNo fun vs H => ∃ a b n J M z o, vs = [.ref a, .ref b] ∧ TabN H a n J ∧ TabN H b n M ∧ Good n J M z o) := by
  refine T.F_over_fault.ok sc_over_fault (fun vs H Q E h => ?_) (fun cdv A outer s H vs Q E hr h => ?_)
  · obtain ⟨⟨a, b, n, J, M, z, o, rfl, _⟩, _⟩ := h; rfl
  · obtain ⟨⟨a, b, n, J, M, z, o, rfl, tj, tp, G⟩, k⟩ := h
    obtain ⟨rs, len, ea, rows⟩ := id tj
    have n16 := G.n16
    refine ⟨_, (pss_cons (ps_set (i := 2) sc_over_fault.nd rfl (Or.inl rfl) (pe_callTy OQ.cr_range1 (by rfl) T.n_range (by decide +kernel) (pa_cons (pe_callB RD.c_len (by rfl) T.n_len (by decide +kernel) (pa_cons (pv 0) pa_nil)) pa_nil)))
 (pss_cons (ps_for PassesOwn.never rfl (OQ.pi_rngV (pv 2)) (pg_name (i := 3) sc_over_fault.nd rfl (Or.inl rfl))
 (pss_one (ps_for PassesOwn.never rfl (OQ.pi_rngV (pv 2)) (pg_name (i := 4) sc_over_fault.nd rfl (Or.inl rfl))
 (pss_one (ps_for PassesOwn.never rfl (OQ.pi_rngV (pv 2)) (pg_name (i := 5) sc_over_fault.nd rfl (Or.inl rfl))
 (pss_cons (ps_set (i := 6) sc_over_fault.nd rfl (Or.inl rfl) (pe_ix ix_list (pe_ix ix_list (pv 0) (pv 4) (fun _ _ => rfl)) (pv 5) (fun _ _ => rfl)))
 (pss_cons (ps_if (pt_cmpR op_ne (pe_ix ix_list (pe_ix ix_list (pv 1) (pv 3) (fun _ _ => rfl)) (pv 6) (fun _ _ => rfl)) (pe_ix ix_list (pe_ix ix_list (pv 0) (pe_ix ix_list (pe_ix ix_list (pv 1) (pv 3) (fun _ _ => rfl)) (pv 4) (fun _ _ => rfl)) (fun _ _ => rfl)) (pe_ix ix_list (pe_ix ix_list (pv 1) (pv 3) (fun _ _ => rfl)) (pv 5) (fun _ _ => rfl)) (fun _ _ => rfl)) (nomark _))
 (pss_one (ps_ret (pe_tup (pa_cons pe_str (pa_cons (pv 3) (pa_cons (pv 4) (pa_cons (pv 5) pa_nil)))))))
 pss_nil)
 (pss_one (ps_if (pt_cmpR op_ne (pe_ix ix_list (pe_ix ix_list (pv 1) (pv 6) (fun _ _ => rfl)) (pv 3) (fun _ _ => rfl)) (pe_ix ix_list (pe_ix ix_list (pv 0) (pe_ix ix_list (pe_ix ix_list (pv 1) (pv 4) (fun _ _ => rfl)) (pv 3) (fun _ _ => rfl)) (fun _ _ => rfl)) (pe_ix ix_list (pe_ix ix_list (pv 1) (pv 5) (fun _ _ => rfl)) (pv 3) (fun _ _ => rfl)) (fun _ _ => rfl)) (nomark _))
 (pss_one (ps_ret (pe_tup (pa_cons pe_str (pa_cons (pv 3) (pa_cons (pv 4) (pa_cons (pv 5) pa_nil)))))))
 pss_nil)))))))))
 (pss_one (ps_ret pe_non)))), ?_⟩
    walk_at "rd"
    refine ⟨n, by rw [List.length_map, len], fun p hp => ?_⟩
    have sp := same_upd (o := HO.rng 0 n) hp
    have ep : upd H p (.rng 0 n) p = some (.rng 0 n) := upd_same
    replace tj := TabL.same tj sp
    replace tp := TabL.same tp sp
    generalize upd H p (.rng 0 n) = H0 at *
    walk_at "rd"
    refine ⟨p, 0, n, rfl, ep, by omega, ?_⟩
    refine RD.f_range (lo := 0) (n := ((n : Int) - 0).toNat) (fun t σ' H' => ∃ v v2 v3 v4 : Option V, σ' = [some (.ref a), some (.ref b), some (.ref p), v, v2, v3, v4] ∧ H' = H0) ⟨none, none, none, none, rfl, rfl⟩ ?_ ?_
    · rintro t σ' H' ht' ⟨v, v2, v3, v4, rfl, rfl⟩
      have ht : t < n := by omega
      walk_at "rd"
      refine ⟨p, 0, n, rfl, ep, by omega, ?_⟩
      refine RD.f_range (lo := 0) (n := ((n : Int) - 0).toNat) (fun u σ' H'' => ∃ v2 v3 v4 : Option V, σ' = [some (.ref a), some (.ref b), some (.ref p), some (.int (0 + t)), v2, v3, v4] ∧ H'' = H') ⟨v2, v3, v4, rfl, rfl⟩ ?_ ?_
      · rintro u σ' H'' hu' ⟨v2, v3, v4, rfl, rfl⟩
        have hu : u < n := by omega
        walk_at "rd"
        refine ⟨p, 0, n, rfl, ep, by omega, ?_⟩
        refine RD.f_range (lo := 0) (n := ((n : Int) - 0).toNat) (fun c σ' H' => ∃ v3 v4 : Option V, σ' = [some (.ref a), some (.ref b), some (.ref p), some (.int (0 + t)), some (.int (0 + u)), v3, v4] ∧ H' = H'') ⟨v3, v4, rfl, rfl⟩ ?_ ?_
        · rintro c σ' H' hc' ⟨v3, v4, rfl, rfl⟩
          have hc : c < n := by omega
          have w1 := G.wj u c hu hc
          obtain ⟨g1, g2⟩ := G.over t u c ht hu hc
          walk_at "rd"
          refine ixT (m := u) tj (by omega) hu (fun r hr => ?_)
          walk_at "rd"
          refine ixR (m := c) hr (by omega) hc ?_
          walk_at "rd"
          refine ixT (m := t) tp (by omega) ht (fun r hr => ?_)
          walk_at "rd"
          refine ixR (m := J u c) hr (by omega) w1 ?_
          walk_at "rd"
          refine ixT (m := t) tp (by omega) ht (fun r hr => ?_)
          walk_at "rd"
          refine ixR (m := u) hr (by omega) hu ?_
          walk_at "rd"
          refine ixT (m := M t u) tj rfl (G.wp t u ht hu) (fun r0 hr0 => ?_)
          walk_at "rd"
          refine ixT (m := t) tp (by omega) ht (fun r hr => ?_)
          walk_at "rd"
          refine ixR (m := c) hr (by omega) hc ?_
          walk_at "rd"
          refine ixR (m := M t c) hr0 rfl (G.wp t c ht hc) ?_
          walk_at "rd"
          rw [decide_eq_true (by rw [g1] : ((M t (J u c) : Nat) : Int) = ((J (M t u) (M t c) : Nat) : Int))]
          walk_at "rd"
          refine ixT (m := J u c) tp (by omega) w1 (fun r hr => ?_)
          walk_at "rd"
          refine ixR (m := t) hr (by omega) ht ?_
          walk_at "rd"
          refine ixT (m := u) tp (by omega) hu (fun r hr => ?_)
          walk_at "rd"
          refine ixR (m := t) hr (by omega) ht ?_
          walk_at "rd"
          refine ixT (m := M u t) tj rfl (G.wp u t hu ht) (fun r0 hr0 => ?_)
          walk_at "rd"
          refine ixT (m := c) tp (by omega) hc (fun r hr => ?_)
          walk_at "rd"
          refine ixR (m := t) hr (by omega) ht ?_
          walk_at "rd"
          refine ixR (m := M c t) hr0 rfl (G.wp c t hc ht) ?_
          walk_at "rd"
          rw [decide_eq_true (by rw [g2] : ((M (J u c) t : Nat) : Int) = ((J (M u t) (M c t) : Nat) : Int))]
          walk_at "rd"
          exact ⟨_, _, rfl, rfl⟩
        · rintro σ' H' ⟨v3, v4, rfl, rfl⟩
          exact ⟨_, _, _, rfl, rfl⟩
      · rintro σ' H'' ⟨v2, v3, v4, rfl, rfl⟩
        exact ⟨_, _, _, _, rfl, rfl⟩
    · rintro σ' H' ⟨v, v2, v3, v4, rfl, rfl⟩
      walk_at "rd"
      exact k _ sp
theorem ok_same_fault (T : Top K mg) : FnOk P w K mg base CX0 1 T.f_same_fault T.fd_same_fault ["none", "one"] (spNo fun vs _ => ∃ z o : Nat, vs = [.int z, .int o] ∧ z ≠ o) := by
  refine T.F_same_fault.ok sc_same_fault (fun vs H Q E h => ?_) (fun cdv A outer s H vs Q E hr h => ?_)
  · obtain ⟨⟨z, o, rfl, _⟩, _⟩ := h; rfl
  · obtain ⟨⟨z, o, rfl, ne⟩, k⟩ := h
    refine ⟨_, (pss_one (ps_ret (pe_ifExp (pt_cmpR op_eq (pv 0) (pv 1) (nomark _)) (pe_tup (pa_cons pe_str (pa_cons (pe_un un_neg pe_int) (pa_cons (pe_un un_neg pe_int) (pa_cons (pe_un un_neg pe_int) pa_nil))))) pe_non))), ?_⟩
    walk_at "rd"
    refine RD.iteD (fun c => absurd c (by omega)) (fun c => ?_)
    walk_at "rd"
    exact k _ (Same.refl _)
theorem ok_size_fault (T : Top K mg) : FnOk P w K mg base CX0 8 T.f_size_fault T.fd_size_fault ["joins", "products", "none", "one"] (spNo fun vs H => ∃ a b n J M z o, vs = [.ref a, .ref b, .int (z : Nat), .int (o : Nat)] ∧ TabN H a n J ∧ TabN H b n M ∧ Good n J M z o) := by
  refine T.F_size_fault.ok sc_size_fault (fun vs H Q E h => ?_) (fun cdv A outer s H vs Q E hr h => ?_)
  · obtain ⟨⟨a, b, n, J, M, z, o, rfl, _⟩, _⟩ := h; rfl
  · obtain ⟨⟨a, b, n, J, M, z, o, rfl, tj, tp, G⟩, k⟩ := h
    obtain ⟨rs, len, ea, rows⟩ := id tj
    have n16 := G.n16
    have n2 := G.n2
    have wj : Wth n fun i j => (J i j : Int) := fun i j hi hj => by have := G.wj i j hi hj; show (0 : Int) ≤ ((J i j : Nat) : Int) ∧ ((J i j : Nat) : Int) < n; omega
    have wp : Wth n fun i j => (M i j : Int) := fun i j hi hj => by have := G.wp i j hi hj; show (0 : Int) ≤ ((M i j : Nat) : Int) ∧ ((M i j : Nat) : Int) < n; omega
    refine ⟨_, (pss_cons (ps_if (PW.pt (pw_or (pt_not (pt_val (pe_call (ok_is_row T) (hr.mono (by decide)) (by rfl) T.g_is_row T.F_is_row.kp T.b_is_row .nil pass0 (pa_cons (pv 0) pa_nil)))) (pw_or1 (pt_not (pt_chain op_le op_le (pe_glob (v := V.int 2) (by rfl) T.g_FEWEST_WORTHS ⟨_, rfl⟩) (pe_callB RD.c_len (by rfl) T.n_len (by decide +kernel) (pa_cons (pv 0) pa_nil)) (pe_glob (v := V.int 16) (by rfl) T.g_MOST_WORTHS ⟨_, rfl⟩))))))
 (pss_one (ps_ret (pe_tup (pa_cons pe_str (pa_cons (pe_un un_neg pe_int) (pa_cons (pe_un un_neg pe_int) (pa_cons (pe_un un_neg pe_int) pa_nil)))))))
 pss_nil)
 (pss_cons (ps_set (i := 4) sc_size_fault.nd rfl (Or.inl rfl) (pe_callB RD.c_len (by rfl) T.n_len (by decide +kernel) (pa_cons (pv 0) pa_nil)))
 (pss_cons (ps_if (PW.pt (pw_or (pt_not (pt_val (pe_call (ok_is_square T) (hr.mono (by decide)) (by rfl) T.g_is_square T.F_is_square.kp T.b_is_square .nil pass0 (pa_cons (pv 4) (pa_cons (pv 0) pa_nil))))) (pw_or1 (pt_not (pt_val (pe_call (ok_is_square T) (hr.mono (by decide)) (by rfl) T.g_is_square T.F_is_square.kp T.b_is_square .nil pass0 (pa_cons (pv 4) (pa_cons (pv 1) pa_nil))))))))
 (pss_one (ps_ret (pe_tup (pa_cons pe_str (pa_cons (pe_un un_neg pe_int) (pa_cons (pe_un un_neg pe_int) (pa_cons (pe_un un_neg pe_int) pa_nil)))))))
 pss_nil)
 (pss_cons (ps_if (PW.pt (pw_or (pt_not (pt_val (pe_call (ok_is_below T) (hr.mono (by decide)) (by rfl) T.g_is_below T.F_is_below.kp T.b_is_below .nil pass0 (pa_cons (pv 4) (pa_cons (pv 2) pa_nil))))) (pw_or1 (pt_not (pt_val (pe_call (ok_is_below T) (hr.mono (by decide)) (by rfl) T.g_is_below T.F_is_below.kp T.b_is_below .nil pass0 (pa_cons (pv 4) (pa_cons (pv 3) pa_nil))))))))
 (pss_one (ps_ret (pe_tup (pa_cons pe_str (pa_cons (pe_un un_neg pe_int) (pa_cons (pe_un un_neg pe_int) (pa_cons (pe_un un_neg pe_int) pa_nil)))))))
 pss_nil)
 (pss_one (ps_ret pe_non)))))), ?_⟩
    walk_at "rd"
    refine ⟨.ref a, .type "list", true, rfl, .base (.lst ea), kitA_list, fun H1 s1 => ?_⟩
    have ea1 := s1 _ _ ea
    replace tj := TabL.same tj s1
    replace tp := TabL.same tp s1
    walk_at "rd"
    rw [List.length_map, len, decide_eq_true (by omega : (2 : Int) ≤ n)]
    walk_at "rd"
    rw [decide_eq_true (by omega : (n : Int) ≤ 16)]
    walk_at "rd"
    rw [List.length_map, len]
    refine ⟨n, a, _, rfl, n16, tj, wj, fun H2 s2 => ?_⟩
    replace tj := TabL.same tj s2
    replace tp := TabL.same tp s2
    walk_at "rd"
    refine ⟨n, b, _, rfl, n16, tp, wp, fun H3 s3 => ?_⟩
    walk_at "rd"
    refine ⟨n, z, rfl, by omega, by have := G.zn; omega, ?_⟩
    walk_at "rd"
    refine ⟨n, o, rfl, by omega, by have := G.on; omega, ?_⟩
    walk_at "rd"
    exact k _ ((s1.trans s2).trans s3)
theorem d_orT {K : PySem.W.Frag} {ta tb : TE} {σ : L2.St} {H : Hp} {Q : VK} (h : ta σ H fun x H1 => ∃ k, TruV K x H1 k ∧ if k = true then Q x H1 else tb σ H1 Q) : tOrT K ta tb σ H Q := h
theorem ok_first_fault (T : Top K mg) : FnOk P w K mg base CX0 10 T.f_first_fault T.fd_first_fault ["joins", "products", "none", "one"] (spNo fun vs H => ∃ a b n J M z o, vs = [.ref a, .ref b, .int (z : Nat), .int (o : Nat)] ∧ TabN H a n J ∧ TabN H b n M ∧ Good n J M z o) := by
  refine T.F_first_fault.ok sc_first_fault (fun vs H Q E h => ?_) (fun cdv A outer s H vs Q E hr h => ?_)
  · obtain ⟨⟨a, b, n, J, M, z, o, rfl, _⟩, _⟩ := h; rfl
  · obtain ⟨⟨a, b, n, J, M, z, o, rfl, tj, tp, G⟩, k⟩ := h
    refine ⟨_, (pss_one (ps_ret (pe_orT (pe_call (ok_size_fault T) (hr.mono (by decide)) (by rfl) T.g_size_fault T.F_size_fault.kp T.b_size_fault .nil pass0 (pa_cons (pv 0) (pa_cons (pv 1) (pa_cons (pv 2) (pa_cons (pv 3) pa_nil))))) (pe_orT (pe_call (ok_none_fault T) (hr.mono (by decide)) (by rfl) T.g_none_fault T.F_none_fault.kp T.b_none_fault .nil pass0 (pa_cons (pv 0) (pa_cons (pv 1) (pa_cons (pv 2) pa_nil)))) (pe_orT (pe_call (ok_one_fault T) (hr.mono (by decide)) (by rfl) T.g_one_fault T.F_one_fault.kp T.b_one_fault .nil pass0 (pa_cons (pv 1) (pa_cons (pv 3) pa_nil))) (pe_orT (pe_call (ok_idle_fault T) (hr.mono (by decide)) (by rfl) T.g_idle_fault T.F_idle_fault.kp T.b_idle_fault .nil pass0 (pa_cons (pv 0) pa_nil)) (pe_orT (pe_call (ok_swap_fault T) (hr.mono (by decide)) (by rfl) T.g_swap_fault T.F_swap_fault.kp T.b_swap_fault .nil pass0 (pa_cons (pv 0) pa_nil)) (pe_orT (pe_call (ok_grouping_fault T) (hr.mono (by decide)) (by rfl) T.g_grouping_fault T.F_grouping_fault.kp T.b_grouping_fault .nil pass0 (pa_cons pe_str (pa_cons (pv 0) pa_nil))) (pe_orT (pe_call (ok_grouping_fault T) (hr.mono (by decide)) (by rfl) T.g_grouping_fault T.F_grouping_fault.kp T.b_grouping_fault .nil pass0 (pa_cons pe_str (pa_cons (pv 1) pa_nil))) (pe_orT (pe_call (ok_over_fault T) (hr.mono (by decide)) (by rfl) T.g_over_fault T.F_over_fault.kp T.b_over_fault .nil pass0 (pa_cons (pv 0) (pa_cons (pv 1) pa_nil))) (pe_one (pe_call (ok_same_fault T) (hr.mono (by decide)) (by rfl) T.g_same_fault T.F_same_fault.kp T.b_same_fault .nil pass0 (pa_cons (pv 2) (pa_cons (pv 3) pa_nil)))))))))))))), ?_⟩
    walk_at "rd"
    refine d_orT ?_
    walk_at "rd"
    refine ⟨⟨a, b, n, J, M, z, o, rfl, tj, tp, G⟩, fun H1 s1 => ?_⟩
    replace tj := TabL.same tj s1
    replace tp := TabL.same tp s1
    refine ⟨false, rfl, ?_⟩
    walk_at "rd"
    try refine d_orT ?_
    walk_at "rd"
    refine ⟨⟨a, b, n, J, M, z, o, rfl, tj, tp, G⟩, fun H2 s2 => ?_⟩
    replace tj := TabL.same tj s2
    replace tp := TabL.same tp s2
    refine ⟨false, rfl, ?_⟩
    walk_at "rd"
    try refine d_orT ?_
    walk_at "rd"
    refine ⟨⟨b, n, J, M, z, o, rfl, tp, G⟩, fun H3 s3 => ?_⟩
    replace tj := TabL.same tj s3
    replace tp := TabL.same tp s3
    refine ⟨false, rfl, ?_⟩
    walk_at "rd"
    try refine d_orT ?_
    walk_at "rd"
    refine ⟨⟨a, n, J, M, z, o, rfl, tj, G⟩, fun H4 s4 => ?_⟩
    replace tj := TabL.same tj s4
    replace tp := TabL.same tp s4
    refine ⟨false, rfl, ?_⟩
    walk_at "rd"
    try refine d_orT ?_
    walk_at "rd"
    refine ⟨⟨a, n, J, M, z, o, rfl, tj, G⟩, fun H5 s5 => ?_⟩
    replace tj := TabL.same tj s5
    replace tp := TabL.same tp s5
    refine ⟨false, rfl, ?_⟩
    walk_at "rd"
    try refine d_orT ?_
    walk_at "rd"
    refine ⟨⟨_, a, n, J, rfl, tj, G.n16, G.wj, G.gj⟩, fun H6 s6 => ?_⟩
    replace tj := TabL.same tj s6
    replace tp := TabL.same tp s6
    refine ⟨false, rfl, ?_⟩
    walk_at "rd"
    try refine d_orT ?_
    walk_at "rd"
    refine ⟨⟨_, b, n, M, rfl, tp, G.n16, G.wp, G.gp⟩, fun H7 s7 => ?_⟩
    replace tj := TabL.same tj s7
    replace tp := TabL.same tp s7
    refine ⟨false, rfl, ?_⟩
    walk_at "rd"
    try refine d_orT ?_
    walk_at "rd"
    refine ⟨⟨a, b, n, J, M, z, o, rfl, tj, tp, G⟩, fun H8 s8 => ?_⟩
    replace tj := TabL.same tj s8
    replace tp := TabL.same tp s8
    refine ⟨false, rfl, ?_⟩
    walk_at "rd"
    try refine d_orT ?_
    walk_at "rd"
    exact ⟨⟨z, o, rfl, G.same⟩, fun H9 s9 => k _ ((((((((s1.trans s2).trans s3).trans s4).trans s5).trans s6).trans s7).trans s8).trans s9)⟩
end

/-! ### a reckoning's own tables, its inner methods -/
def RowT (H : Hp) (r : Addr) (n : Nat) (g : Nat → Nat) : Prop := H r = some (.tup ((List.range n).map fun j => V.int (g j : Nat)))
def TabT (H : Hp) (a : Addr) (n : Nat) (f : Nat → Nat → Nat) : Prop := ∃ rs : List Addr, rs.length = n ∧ H a = some (.tup (rs.map V.ref)) ∧ ∀ (i : Nat) (r : Addr), rs[i]? = some r → RowT H r n (f i)
theorem TabT.same {H H' : Hp} {a : Addr} {n : Nat} {f : Nat → Nat → Nat} (h : TabT H a n f) (s : Same H H') : TabT H' a n f := by
  obtain ⟨rs, l, e, q⟩ := h
  exact ⟨rs, l, s _ _ e, fun i r z => s _ _ (q i r z)⟩
section
variable {K : PySem.W.Frag} {H : Hp} {a : Addr} {n : Nat} {Q : VK}
theorem iyT {f : Nat → Nat → Nat} {i : Int} {m : Nat} (h : TabT H a n f) (e : i = m) (hn : m < n) (k : ∀ r, RowT H r n (f m) → Q (.ref r) H) : rIxT K (.ref a) (.int i) H Q := by
  obtain ⟨rs, len, ea, rows⟩ := h
  have hm : m < rs.length := by rw [len]; exact hn
  subst e
  exact RD.d_ixT (SqT.of ea) (atI_nat (by rw [List.getElem?_map, List.getElem?_eq_getElem hm]; rfl)) (k _ (rows m _ (List.getElem?_eq_getElem hm)))
theorem iyR {g : Nat → Nat} {i : Int} {m : Nat} (h : RowT H a n g) (e : i = m) (hn : m < n) (k : Q (.int (g m : Nat)) H) : rIxT K (.ref a) (.int i) H Q := by
  subst e
  exact RD.d_ixT (SqT.of h) (atI_nat (by rw [List.getElem?_map, List.getElem?_range hn]; rfl)) k
end
/-- the object at x has these tables, and none -/
structure Rek (C : Addr) (H : Hp) (x : Addr) (n : Nat) (J M : Nat → Nat → Nat) (z : Nat) : Prop where
  zn : z < n
  n16 : n ≤ 16
  wj : ∀ a b, a < n → b < n → J a b < n
  wp : ∀ a b, a < n → b < n → M a b < n
  has : ∃ (dx jt pt : Addr) (fs : List (Str × V)), H x = some (.ins C dx fs) ∧ fs.lookup ("joins" : Str) = some (.ref jt) ∧ TabT H jt n J ∧ fs.lookup ("products" : Str) = some (.ref pt) ∧ TabT H pt n M ∧ fs.lookup ("none" : Str) = some (.int z) ∧
    fs.lookup ("_joined" : Str) = none ∧ fs.lookup ("_meet" : Str) = none ∧ fs.lookup ("_left" : Str) = none ∧ fs.lookup ("_right" : Str) = none
theorem Rek.same {C : Addr} {H H' : Hp} {x : Addr} {n : Nat} {J M : Nat → Nat → Nat} {z : Nat} (h : Rek C H x n J M z) (s : Same H H') : Rek C H' x n J M z := by
  obtain ⟨dx, jt, pt, fs, e, l1, t1, l2, t2, r⟩ := h.has
  exact ⟨h.zn, h.n16, h.wj, h.wp, dx, jt, pt, fs, s _ _ e, l1, t1.same s, l2, t2.same s, r⟩
def spJoined (C : Addr) : Sp := fun vs H Q _ => ∃ (x l : Addr) (n : Nat) (J M : Nat → Nat → Nat) (z : Nat) (ws : List Nat), vs = [.ref x, .ref l] ∧ Rek C H x n J M z ∧ H l = some (.lst (ws.map fun j => V.int (j : Nat))) ∧ (∀ j ∈ ws, j < n) ∧ ∀ r : Nat, r < n → Q (.int r) H
def spTwoW (C : Addr) : Sp := fun vs H Q _ => ∃ (x : Addr) (n : Nat) (J M : Nat → Nat → Nat) (z a b : Nat), vs = [.ref x, .int a, .int b] ∧ Rek C H x n J M z ∧ a < n ∧ b < n ∧ ∀ (r : Nat) (H' : Hp), Same H H' → r < n → Q (.int r) H'
section
variable {P : Program} {w : World} {K : PySem.W.Frag} {mg : Str → Option Value} {base : Heap} {H : Hp} {R : V → Prop}
theorem rekJ (T : Top K mg) {x : Addr} {n : Nat} {J M : Nat → Nat → Nat} {z : Nat} (h : Rek T.C_Reckoning H x n J M z) (k : ∀ jt, TabT H jt n J → R (.ref jt)) : ∃ a' C dx fs v, V.ref x = .ref a' ∧ H a' = some (.ins C dx fs) ∧ Cls K C ∧ NoAttr K C "joins" ∧ fs.lookup ("joins" : Str) = some v ∧ R v := by
  obtain ⟨dx, jt, pt, fs, e, l1, t1, _⟩ := h.has
  exact ⟨x, _, dx, fs, _, rfl, e, T.cl_Reckoning, T.na_Reckoning_joins, l1, k jt t1⟩
theorem rekP (T : Top K mg) {x : Addr} {n : Nat} {J M : Nat → Nat → Nat} {z : Nat} (h : Rek T.C_Reckoning H x n J M z) (k : ∀ pt, TabT H pt n M → R (.ref pt)) : ∃ a' C dx fs v, V.ref x = .ref a' ∧ H a' = some (.ins C dx fs) ∧ Cls K C ∧ NoAttr K C "products" ∧ fs.lookup ("products" : Str) = some v ∧ R v := by
  obtain ⟨dx, jt, pt, fs, e, l1, t1, l2, t2, _⟩ := h.has
  exact ⟨x, _, dx, fs, _, rfl, e, T.cl_Reckoning, T.na_Reckoning_products, l2, k pt t2⟩
theorem rekN (T : Top K mg) {x : Addr} {n : Nat} {J M : Nat → Nat → Nat} {z : Nat} (h : Rek T.C_Reckoning H x n J M z) (k : R (.int z)) : ∃ a' C dx fs v, V.ref x = .ref a' ∧ H a' = some (.ins C dx fs) ∧ Cls K C ∧ NoAttr K C "none" ∧ fs.lookup ("none" : Str) = some v ∧ R v := by
  obtain ⟨dx, jt, pt, fs, e, l1, t1, l2, t2, l3, _⟩ := h.has
  exact ⟨x, _, dx, fs, _, rfl, e, T.cl_Reckoning, T.na_Reckoning_none, l3, k⟩
theorem rekM {C : Addr} {x : Addr} {n : Nat} {J M : Nat → Nat → Nat} {z : Nat} {m : Str} {R : Prop} (h : Rek C H x n J M z) (hm : m = "_joined" ∨ m = "_meet" ∨ m = "_left" ∨ m = "_right") (k : R) : ∃ a' dx fs, V.ref x = .ref a' ∧ H a' = some (.ins C dx fs) ∧ fs.lookup m = none ∧ R := by
  obtain ⟨dx, jt, pt, fs, e, l1, t1, l2, t2, l3, m1, m2, m3, m4⟩ := h.has
  refine ⟨x, dx, fs, rfl, e, ?_, k⟩
  rcases hm with rfl | rfl | rfl | rfl
  · exact m1
  · exact m2
  · exact m3
  · exact m4
theorem ok_Reckoning_joined (T : Top K mg) : FnOk P w K mg base CX0 1 T.f_Reckoning_joined T.fd_Reckoning_joined ["self", "worths"] (spJoined T.C_Reckoning) := by
  refine T.F_Reckoning_joined.ok sc_Reckoning_joined (fun vs H Q E h => ?_) (fun cdv A outer s H vs Q E hr h => ?_)
  · obtain ⟨x, l, n, J, M, z, ws, rfl, _⟩ := h; rfl
  · obtain ⟨x, l, n, J, M, z, ws, rfl, re, el, all, k⟩ := h
    refine ⟨_, (pss_cons (ps_set (i := 2) sc_Reckoning_joined.nd rfl (Or.inl rfl) (pe_fld (pv 0) (by rfl)))
 (pss_cons (ps_for PassesOwn.never rfl (pi_list (pv 1)) (pg_name (i := 3) sc_Reckoning_joined.nd rfl (Or.inl rfl))
 (pss_one (ps_set (i := 2) sc_Reckoning_joined.nd rfl (Or.inl rfl) (pe_ix ix_tup (pe_ix ix_tup (pe_fld (pv 0) (by rfl)) (pv 2) (fun _ _ => rfl)) (pv 3) (fun _ _ => rfl)))))
 (pss_one (ps_ret (pv 2))))), ?_⟩
    walk_at "rd"
    refine rekN T re ?_
    walk_at "rd"
    refine RD.f_list (K := K) (a := l) (xs := ws.map fun j => V.int (j : Nat)) (fun i σ' H' => ∃ (r : Nat) (v : Option V), r < n ∧ σ' = [some (.ref x), some (.ref l), some (.int r), v] ∧ H' = H) ⟨z, none, re.zn, rfl, rfl⟩ ?_ ?_ ?_
    · rintro i σ' H' _ ⟨r, v, _, _, rfl⟩
      exact SqL.of el
    · rintro i y σ' H' hi ⟨r, v, hr2, rfl, rfl⟩
      rw [List.getElem?_map] at hi
      obtain ⟨j, ej, rfl⟩ := Option.map_eq_some_iff.mp hi
      have hj := all j (List.mem_of_getElem? ej)
      walk_at "rd"
      refine rekJ T re (fun jt tt => ?_)
      walk_at "rd"
      refine iyT (m := r) tt rfl hr2 (fun q hq => ?_)
      walk_at "rd"
      refine iyR (m := j) hq rfl hj ?_
      walk_at "rd"
      exact ⟨J r j, _, re.wj r j hr2 hj, rfl, rfl⟩
    · rintro σ' H' ⟨r, v, hr2, rfl, rfl⟩
      walk_at "rd"
      exact k r hr2
/-- one more worth behind the others -/
theorem lcPut {H H' : Hp} {D : Addr} {ws : List Nat} {n i k : Nat} (hD : H D = none) (s1 : Same H H') (hi : i < n) (lw : ws.length ≤ k) (k16 : k < 17) (eD : H' D = some (.lst (ws.map fun j => V.int (j : Nat)))) (all : ∀ j ∈ ws, j < n) :
    ∃ acc, H' D = some (.lst acc) ∧ acc.length < sizeLine ∧ ∃ ws' : List Nat, Same H (upd H' D (.lst (acc ++ [V.int (0 + (i : Int))]))) ∧ upd H' D (.lst (acc ++ [V.int (0 + (i : Int))])) D = some (.lst (ws'.map fun j => V.int (j : Nat))) ∧ ws'.length ≤ k + 1 ∧ ∀ j ∈ ws', j < n := by
  refine ⟨_, eD, by rw [List.length_map]; exact Nat.lt_of_le_of_lt lw (Nat.lt_of_lt_of_le k16 (by decide)), ws ++ [i], fun b u e => ?_, ?_, by rw [List.length_append]; simpa using lw, fun j hj => ?_⟩
  · rw [upd_ne (ne_of_none e hD)]; exact s1 _ _ e
  · rw [upd_same, List.map_append, Int.zero_add]; rfl
  · rcases List.mem_append.mp hj with hj | hj
    · exact all j hj
    · rw [List.mem_singleton.mp hj]; exact hi
theorem ok_Reckoning_meet (T : Top K mg) : FnOk P w K mg base CX0 3 T.f_Reckoning_meet T.fd_Reckoning_meet ["self", "a", "b"] (spTwoW T.C_Reckoning) := by
  refine T.F_Reckoning_meet.ok sc_Reckoning_meet (fun vs H Q E h => ?_) (fun cdv A outer s H vs Q E hr h => ?_)
  · obtain ⟨x, n, J, M, z, a, b, rfl, _⟩ := h; rfl
  · obtain ⟨x, n, J, M, z, a, b, rfl, re, ha, hb, k⟩ := h
    refine ⟨_, (pss_cons (ps_setLc (i := 3) (own := [("worth", 4)]) (g := (gName 4)) (tt := _) rfl sc_Reckoning_meet.nd rfl rfl (sw_true rfl rfl rfl (by decide +kernel)) (pi_range1 (by rfl) T.n_range (pa_cons (pe_callB RD.c_len (by rfl) T.n_len (by decide +kernel) (pa_cons (pe_fld (pv 0) (by rfl)) pa_nil)) pa_nil)) (blkOk_by (own := [("worth", 4)]) (N := ["self", "a", "b", "below", "worth"]) (sc := defScope s_Reckoning_meet) (by decide +kernel)) (fun _ _ _ _ _ => (pg_name (i := 4) sc_Reckoning_meet.nd rfl (Or.inl rfl))) (fun _ _ _ _ _ => (pts_one (pt_cmpR op_eq (pe_ix (OQ.ixT K) (pe_ix (OQ.ixT K) (OQ.fldK K (pv 0)) (pv 4) (fun _ _ => rfl)) (pv 1) (fun _ _ => rfl)) (pv 1) (nomark _)))) (fun _ _ _ _ _ => (pv 4)))
 (pss_one (ps_ret (pe_meth (pv 0) T.cl_Reckoning T.m_Reckoning_joined (ok_Reckoning_joined T) (hr.mono (by decide)) T.b_Reckoning_joined .nil pass0 (pa_cons (pe_lc (own := [("worth", 4)]) (g := (gName 4)) (tt := _) rfl sc_Reckoning_meet.nd (pi_list (pv 3)) (blkOk_by (own := [("worth", 4)]) (N := ["self", "a", "b", "below", "worth"]) (sc := defScope s_Reckoning_meet) (by decide +kernel)) (fun _ _ _ _ _ => (pg_name (i := 4) sc_Reckoning_meet.nd rfl (Or.inl rfl))) (fun _ _ _ _ _ => (pts_one (pt_cmpR op_eq (pe_ix (OQ.ixT K) (pe_ix (OQ.ixT K) (OQ.fldK K (pv 0)) (pv 4) (fun _ _ => rfl)) (pv 2) (fun _ _ => rfl)) (pv 2) (nomark _)))) (fun _ _ _ _ _ => (pv 4))) pa_nil))))), ?_⟩
    walk_at "rd"
    refine rekJ T re (fun jt tt => ?_)
    obtain ⟨rs, len, ej, rows⟩ := id tt
    walk_at "rd"
    have n16 := re.n16
    refine ⟨n, by rw [List.length_map, len], by omega, by omega, ?_⟩
    intro D hD
    refine lc_range (lo := 0) (n := n) (fun i H' => ∃ ws : List Nat, Same H H' ∧ H' D = some (.lst (ws.map fun j => V.int (j : Nat))) ∧ ws.length ≤ i ∧ ∀ j ∈ ws, j < n) ⟨[], same_upd hD, upd_same, Nat.le_refl _, (fun _ m => nomatch m)⟩ ?_ ?_
    · rintro i H' hi ⟨ws, s1, eD, lw, all⟩
      have re1 := re.same s1
      walk_at "rd"
      refine rekJ T re1 (fun jt1 tt1 => ?_)
      walk_at "rd"
      refine iyT (m := i) tt1 (by omega) hi (fun q hq => ?_)
      walk_at "rd"
      refine iyR (m := a) hq rfl ha ?_
      walk_at "rd"
      refine RD.iteD (fun c => ?_) (fun c => ?_)
      · walk_at "rd"
        exact lcPut hD s1 hi lw (by omega) eD all
      · exact ⟨ws, s1, eD, by omega, all⟩
    · rintro H' ⟨ws, s1, eD, lw, all⟩
      have re1 := re.same s1
      walk_at "rd"
      refine rekM re1 (.inl rfl) ?_
      walk_at "rd"
      intro D2 hD2
      refine lc_list (K := K) (a := D) (xs := ws.map fun j => V.int (j : Nat)) (fun i H'' => ∃ us : List Nat, Same H' H'' ∧ H'' D2 = some (.lst (us.map fun j => V.int (j : Nat))) ∧ us.length ≤ i ∧ ∀ j ∈ us, j < n) ⟨[], same_upd hD2, upd_same, Nat.le_refl _, (fun _ m => nomatch m)⟩ ?_ ?_ ?_
      · rintro i H'' _ ⟨us, s2, _⟩
        exact SqL.of (s2 _ _ eD)
      · rintro i y H'' hi ⟨us, s2, eD2, lu, all2⟩
        have il : i < ws.length := by have := (List.getElem?_eq_some_iff.mp hi).1; simpa using this
        rw [List.getElem?_map, List.getElem?_eq_getElem il] at hi
        cases hi
        have hj := all _ (List.getElem_mem il)
        generalize ws[i] = j at *
        walk_at "rd"
        refine rekJ T (re1.same s2) (fun jt1 tt1 => ?_)
        walk_at "rd"
        refine iyT (m := j) tt1 rfl hj (fun q hq => ?_)
        walk_at "rd"
        refine iyR (m := b) hq rfl hb ?_
        walk_at "rd"
        refine RD.iteD (fun c => ?_) (fun c => ?_)
        · walk_at "rd"
          have z := lcPut hD2 s2 hj lu (by omega) eD2 all2
          rwa [Int.zero_add] at z
        · exact ⟨us, s2, eD2, by omega, all2⟩
      · rintro H'' ⟨us, s2, eD2, lu, all2⟩
        walk_at "rd"
        exact ⟨x, D2, n, J, M, z, us, rfl, re1.same s2, eD2, all2, fun r hr2 => k r _ (s1.trans s2) hr2⟩
theorem ok_Reckoning_left (T : Top K mg) : FnOk P w K mg base CX0 3 T.f_Reckoning_left T.fd_Reckoning_left ["self", "a", "c"] (spTwoW T.C_Reckoning) := by
  refine T.F_Reckoning_left.ok sc_Reckoning_left (fun vs H Q E h => ?_) (fun cdv A outer s H vs Q E hr h => ?_)
  · obtain ⟨x, n, J, M, z, a, b, rfl, _⟩ := h; rfl
  · obtain ⟨x, n, J, M, z, a, b, rfl, re, ha, hb, k⟩ := h
    have n16 := re.n16
    refine ⟨_, (pss_cons (ps_set (i := 3) sc_Reckoning_left.nd rfl (Or.inr rfl) (pe_ix ix_tup (pe_fld (pv 0) (by rfl)) (pv 1) (fun _ _ => rfl)))
 (pss_one (ps_ret (pe_meth (pv 0) T.cl_Reckoning T.m_Reckoning_joined (ok_Reckoning_joined T) (hr.mono (by decide)) T.b_Reckoning_joined .nil pass0 (pa_cons (pe_lc (own := [("b", 4)]) (g := (gName 4)) (tt := _) rfl sc_Reckoning_left.nd (pi_range1 (by rfl) T.n_range (pa_cons (pe_callB RD.c_len (by rfl) T.n_len (by decide +kernel) (pa_cons (pv 3) pa_nil)) pa_nil)) (blkOk_by (own := [("b", 4)]) (N := ["self", "a", "c", "row", "b"]) (sc := defScope s_Reckoning_left) (by decide +kernel)) (fun _ _ _ _ _ => (pg_name (i := 4) sc_Reckoning_left.nd rfl (Or.inl rfl))) (fun _ _ _ _ _ => (pts_one (pt_cmpR op_eq (pe_ix (OQ.ixT K) (pe_ix (OQ.ixT K) (OQ.fldK K (pv 0)) (pe_ix (OQ.ixT K) (pv 3) (pv 4) (fun _ _ => rfl)) (fun _ _ => rfl)) (pv 2) (fun _ _ => rfl)) (pv 2) (nomark _)))) (fun _ _ _ _ _ => (pv 4))) pa_nil))))), ?_⟩
    walk_at "rd"
    refine rekP T re (fun pt tp => ?_)
    walk_at "rd"
    refine iyT (m := a) tp rfl ha (fun row hrow => ?_)
    have hrow' : H row = some (.tup ((List.range n).map fun j => V.int (M a j : Nat))) := hrow
    walk_at "rd"
    refine rekM re (.inl rfl) ?_
    walk_at "rd"
    refine ⟨n, by rw [List.length_map, List.length_range], by omega, by omega, ?_⟩
    intro D hD
    refine lc_range (lo := 0) (n := n) (fun i H' => ∃ ws : List Nat, Same H H' ∧ H' D = some (.lst (ws.map fun j => V.int (j : Nat))) ∧ ws.length ≤ i ∧ ∀ j ∈ ws, j < n) ⟨[], same_upd hD, upd_same, Nat.le_refl _, (fun _ m => nomatch m)⟩ ?_ ?_
    · rintro i H' hi ⟨ws, s1, eD, lw, all⟩
      have re1 := re.same s1
      have hrow1 : RowT H' row n (M a) := s1 _ _ hrow
      walk_at "rd"
      refine rekJ T re1 (fun jt1 tt1 => ?_)
      walk_at "rd"
      refine iyR (m := i) hrow1 (by omega) hi ?_
      walk_at "rd"
      refine iyT (m := M a i) tt1 rfl (re.wp a i ha hi) (fun q hq => ?_)
      walk_at "rd"
      refine iyR (m := b) hq rfl hb ?_
      walk_at "rd"
      refine RD.iteD (fun c => ?_) (fun c => ?_)
      · walk_at "rd"
        exact lcPut hD s1 hi lw (by omega) eD all
      · exact ⟨ws, s1, eD, by omega, all⟩
    · rintro H' ⟨ws, s1, eD, lw, all⟩
      walk_at "rd"
      exact ⟨x, D, n, J, M, z, ws, rfl, re.same s1, eD, all, fun r hr2 => k r _ s1 hr2⟩
end

/-! ### a reckoning made -/
section
variable {P : Program} {w : World} {K : PySem.W.Frag} {mg : Str → Option Value} {base : Heap} {H : Hp} {R : V → Prop}
theorem d_iTup {K : PySem.W.Frag} {tl : TE} {σ : L2.St} {H : Hp} {R : It → Hp → Prop} (h : tl σ H fun x H1 => ∃ a, x = .ref a ∧ (∃ xs, SqT K H1 a xs) ∧ R (Itt K a) H1) : iTup K tl σ H R := h
theorem ok_Reckoning_right (T : Top K mg) : FnOk P w K mg base CX0 3 T.f_Reckoning_right T.fd_Reckoning_right ["self", "c", "a"] (spTwoW T.C_Reckoning) := by
  refine T.F_Reckoning_right.ok sc_Reckoning_right (fun vs H Q E h => ?_) (fun cdv A outer s H vs Q E hr h => ?_)
  · obtain ⟨x, n, J, M, z, a, b, rfl, _⟩ := h; rfl
  · obtain ⟨x, n, J, M, z, c, a, rfl, re, hc, ha, k⟩ := h
    have n16 := re.n16
    refine ⟨_, (pss_cons (ps_set (i := 3) sc_Reckoning_right.nd rfl (Or.inr rfl) (pe_lc (own := [("row", 4)]) (g := (gName 4)) (tt := tYes) rfl sc_Reckoning_right.nd (pi_tup (pe_fld (pv 0) (by rfl))) (blkOk_by (own := [("row", 4)]) (N := ["self", "c", "a", "column", "row", "b"]) (sc := defScope s_Reckoning_right) (by decide +kernel)) (fun _ _ _ _ _ => (pg_name (i := 4) sc_Reckoning_right.nd rfl (Or.inl rfl))) (fun _ _ _ _ _ => pts_nil) (fun _ _ _ _ _ => (pe_ix (OQ.ixT K) (pv 4) (pv 2) (fun _ _ => rfl)))))
 (pss_one (ps_ret (pe_meth (pv 0) T.cl_Reckoning T.m_Reckoning_joined (ok_Reckoning_joined T) (hr.mono (by decide)) T.b_Reckoning_joined .nil pass0 (pa_cons (pe_lc (own := [("b", 5)]) (g := (gName 5)) (tt := _) rfl sc_Reckoning_right.nd (pi_range1 (by rfl) T.n_range (pa_cons (pe_callB RD.c_len (by rfl) T.n_len (by decide +kernel) (pa_cons (pv 3) pa_nil)) pa_nil)) (blkOk_by (own := [("b", 5)]) (N := ["self", "c", "a", "column", "row", "b"]) (sc := defScope s_Reckoning_right) (by decide +kernel)) (fun _ _ _ _ _ => (pg_name (i := 5) sc_Reckoning_right.nd rfl (Or.inl rfl))) (fun _ _ _ _ _ => (pts_one (pt_cmpR op_eq (pe_ix (OQ.ixT K) (pe_ix (OQ.ixT K) (OQ.fldK K (pv 0)) (pe_ix (OQ.ixL K) (pv 3) (pv 5) (fun _ _ => rfl)) (fun _ _ => rfl)) (pv 1) (fun _ _ => rfl)) (pv 1) (nomark _)))) (fun _ _ _ _ _ => (pv 5))) pa_nil))))), ?_⟩
    walk_at "rd"
    refine d_iTup ?_
    walk_at "rd"
    refine rekP T re (fun pt tp => ?_)
    obtain ⟨rs, len, ep, rows⟩ := id tp
    refine ⟨pt, rfl, ⟨_, SqT.of ep⟩, ?_⟩
    intro D hD
    refine lc_tup (K := K) (a := pt) (xs := rs.map V.ref) (fun i H' => Same H H' ∧ H' D = some (.lst ((List.range i).map fun j => V.int (M j a : Nat)))) ⟨same_upd hD, upd_same⟩ ?_ ?_ ?_
    · rintro i H' _ ⟨s1, _⟩
      exact SqT.of (s1 _ _ ep)
    · rintro i y H' hi ⟨s1, eD⟩
      have il : i < n := by have := (List.getElem?_eq_some_iff.mp hi).1; rw [List.length_map, len] at this; exact this
      have il' : i < rs.length := by rw [len]; exact il
      rw [List.getElem?_map, List.getElem?_eq_getElem il'] at hi
      cases hi
      walk_at "rd"
      have hrow : RowT H' rs[i] n (M i) := s1 _ _ (rows i _ (List.getElem?_eq_getElem il'))
      refine iyR (m := a) hrow rfl ha ?_
      refine ⟨_, eD, by rw [List.length_map, List.length_range]; exact Nat.lt_of_lt_of_le il (Nat.le_trans n16 (by decide)), fun b u e => ?_, ?_⟩
      · rw [upd_ne (ne_of_none e hD)]; exact s1 _ _ e
      · rw [upd_same, List.range_succ, List.map_append]; rfl
    · rintro H1 ⟨s1, eD⟩
      rw [List.length_map, len] at eD
      have re1 := re.same s1
      have eDr : RowL H1 D n (fun j => (M j a : Nat)) := eD
      walk_at "rd"
      refine rekM re1 (.inl rfl) ?_
      walk_at "rd"
      refine ⟨n, by rw [List.length_map, List.length_range], by omega, by omega, ?_⟩
      intro D2 hD2
      refine lc_range (lo := 0) (n := n) (fun i H' => ∃ ws : List Nat, Same H1 H' ∧ H' D2 = some (.lst (ws.map fun j => V.int (j : Nat))) ∧ ws.length ≤ i ∧ ∀ j ∈ ws, j < n) ⟨[], same_upd hD2, upd_same, Nat.le_refl _, (fun _ m => nomatch m)⟩ ?_ ?_
      · rintro i H' hi ⟨ws, s2, eD2, lw, all⟩
        have re2 := re1.same s2
        walk_at "rd"
        refine rekJ T re2 (fun jt1 tt1 => ?_)
        walk_at "rd"
        refine ixR (m := i) (eDr.same s2) (by omega) hi ?_
        walk_at "rd"
        refine iyT (m := M i a) tt1 rfl (re.wp i a hi ha) (fun q hq => ?_)
        walk_at "rd"
        refine iyR (m := c) hq rfl hc ?_
        walk_at "rd"
        refine RD.iteD (fun _ => ?_) (fun _ => ?_)
        · walk_at "rd"
          exact lcPut hD2 s2 hi lw (by omega) eD2 all
        · exact ⟨ws, s2, eD2, by omega, all⟩
      · rintro H' ⟨ws, s2, eD2, lw, all⟩
        walk_at "rd"
        exact ⟨x, D2, n, J, M, z, ws, rfl, re1.same s2, eD2, all, fun r hr2 => k r _ (s1.trans s2) hr2⟩
end

/-! ### a reckoning made -/
/-- all but what stands at x stays -/
def Kx (x : Addr) (H H' : Hp) : Prop := ∀ b o, b ≠ x → H b = some o → H' b = some o
theorem Kx.trans {x : Addr} {H H1 H2 : Hp} (a : Kx x H H1) (b : Kx x H1 H2) : Kx x H H2 := fun c o n e => b c o n (a c o n e)
theorem Same.kx {x : Addr} {H H' : Hp} (s : Same H H') : Kx x H H' := fun b o _ e => s b o e
theorem kx_upd {x : Addr} {H : Hp} {o : HO} : Kx x H (upd H x o) := fun b u n e => by rw [upd_ne n]; exact e
theorem putF_none {f : Str} {v : V} : putF f v [] = [(f, v)] := rfl
theorem putF_ne {f g : Str} {u v : V} {r : List (Str × V)} (n : g ≠ f) : putF f v ((g, u) :: r) = (g, u) :: putF f v r := if_neg n
theorem lk_ne {f g : Str} {v : V} {r : List (Str × V)} (h : (f == g) = false) : List.lookup f ((g, v) :: r) = List.lookup f r := by simp [List.lookup, h]
theorem lk_eq {f : Str} {v : V} {r : List (Str × V)} : List.lookup f ((f, v) :: r) = some v := by simp [List.lookup]
theorem TabT.kx {H H' : Hp} {x a C dx : Addr} {fs : List (Str × V)} {n : Nat} {f : Nat → Nat → Nat} (h : TabT H a n f) (e : H x = some (.ins C dx fs)) (s : Kx x H H') : TabT H' a n f := by
  obtain ⟨rs, l, ea, q⟩ := h
  refine ⟨rs, l, s _ _ (fun z => ?_) ea, fun i r z => s _ _ (fun y => ?_) (q i r z)⟩
  · rw [z, e] at ea; cases ea
  · have w := q i r z
    unfold RowT at w
    rw [y, e] at w; cases w
theorem TabL.kx {H H' : Hp} {x a C dx : Addr} {fs : List (Str × V)} {n : Nat} {f : Nat → Nat → Int} (h : TabL H a n f) (e : H x = some (.ins C dx fs)) (s : Kx x H H') : TabL H' a n f := by
  obtain ⟨rs, l, ea, q⟩ := h
  refine ⟨rs, l, s _ _ (fun z => ?_) ea, fun i r z => s _ _ (fun y => ?_) (q i r z)⟩
  · rw [z, e] at ea; cases ea
  · have w := q i r z
    unfold RowL at w
    rw [y, e] at w; cases w
/-- a reckoning at x, whole -/
def RekF (C : Addr) (H : Hp) (x : Addr) (n : Nat) (J M : Nat → Nat → Nat) (z o : Nat) : Prop := ∃ (dx jt pt mt lt rt : Addr), H x = some (.ins C dx [("joins", .ref jt), ("products", .ref pt), ("none", .int z), ("one", .int o), ("_meets", .ref mt), ("_lefts", .ref lt), ("_rights", .ref rt)]) ∧ TabT H jt n J ∧ TabT H pt n M
def spReck (C : Addr) : Sp := fun vs H Q _ => ∃ (x dx a b : Addr) (n : Nat) (J M : Nat → Nat → Nat) (z o : Nat), vs = [.ref x, .ref a, .ref b, .int z, .int o] ∧ H x = some (.ins C dx []) ∧ TabN H a n J ∧ TabN H b n M ∧ Good n J M z o ∧ ∀ H', Kx x H H' → RekF C H' x n J M z o → Q .non H'
section
variable {P : Program} {w : World} {K : PySem.W.Frag} {mg : Str → Option Value} {base : Heap} {H : Hp} {R : V → Prop}
theorem ok_Reckoning__init (T : Top K mg) : FnOk P w K mg base CX0 12 T.f_Reckoning__init T.fd_Reckoning__init ["self", "joins", "products", "none", "one"] (spReck T.C_Reckoning) := by
  refine T.F_Reckoning__init.ok sc_Reckoning__init (fun vs H Q E h => ?_) (fun cdv A outer s H vs Q E hr h => ?_)
  · obtain ⟨x, dx, a, b, n, J, M, z, o, rfl, _⟩ := h; rfl
  · obtain ⟨x, dx, a, b, n, J, M, z, o, rfl, ex, tj, tp, G, k⟩ := h
    refine ⟨_, (C8.pss_cut (ps_set (i := 5) sc_Reckoning__init.nd rfl (Or.inl rfl) (pe_call (ok_first_fault T) (hr.mono (by decide)) (by rfl) T.g_first_fault T.F_first_fault.kp T.b_first_fault .nil pass0 (pa_cons (pv 1) (pa_cons (pv 2) (pa_cons (pv 3) (pa_cons (pv 4) pa_nil))))))
 (C8.pss_cut (ps_if (pt_cmpR RD.o_notN (pv 5) pe_non (nomark _))
 (pss_one ps_never)
 pss_nil)
 (C8.pss_cut (ps_fld (pv 0) (pe_callTy (OQ.tupK K) (by rfl) T.n_tuple (by decide +kernel) (pa_cons (pe_lc (own := [("row", 6)]) (g := (gName 6)) (tt := tYes) rfl sc_Reckoning__init.nd (pi_list (pv 1)) (blkOk_by (own := [("row", 6)]) (N := ["self", "joins", "products", "none", "one", "fault", "row", "worths", "a", "b", "c"]) (sc := defScope s_Reckoning__init) (by decide +kernel)) (fun _ _ _ _ _ => (pg_name (i := 6) sc_Reckoning__init.nd rfl (Or.inl rfl))) (fun _ _ _ _ _ => pts_nil) (fun _ _ _ _ _ => (pe_callTy (OQ.tupK K) (by rfl) T.n_tuple (by decide +kernel) (pa_cons (pv 6) pa_nil)))) pa_nil)) rfl)
 (C8.pss_cut (ps_fld (pv 0) (pe_callTy (OQ.tupK K) (by rfl) T.n_tuple (by decide +kernel) (pa_cons (pe_lc (own := [("row", 6)]) (g := (gName 6)) (tt := tYes) rfl sc_Reckoning__init.nd (pi_list (pv 2)) (blkOk_by (own := [("row", 6)]) (N := ["self", "joins", "products", "none", "one", "fault", "row", "worths", "a", "b", "c"]) (sc := defScope s_Reckoning__init) (by decide +kernel)) (fun _ _ _ _ _ => (pg_name (i := 6) sc_Reckoning__init.nd rfl (Or.inl rfl))) (fun _ _ _ _ _ => pts_nil) (fun _ _ _ _ _ => (pe_callTy (OQ.tupK K) (by rfl) T.n_tuple (by decide +kernel) (pa_cons (pv 6) pa_nil)))) pa_nil)) rfl)
 (C8.pss_cut (ps_fld (pv 0) (pv 3) rfl)
 (C8.pss_cut (ps_fld (pv 0) (pv 4) rfl)
 (C8.pss_cut (ps_set (i := 7) sc_Reckoning__init.nd rfl (Or.inr rfl) (pe_callTy OQ.cr_range1 (by rfl) T.n_range (by decide +kernel) (pa_cons (pe_callB RD.c_len (by rfl) T.n_len (by decide +kernel) (pa_cons (pv 1) pa_nil)) pa_nil)))
 (C8.pss_cut (ps_fld (pv 0) (pe_lc (own := [("a", 8)]) (g := (gName 8)) (tt := tYes) rfl sc_Reckoning__init.nd (OQ.pi_rngV (pv 7)) (blkOk_by (own := [("a", 8)]) (N := ["self", "joins", "products", "none", "one", "fault", "row", "worths", "a", "b", "c"]) (sc := defScope s_Reckoning__init) (by decide +kernel)) (fun _ _ _ _ _ => (pg_name (i := 8) sc_Reckoning__init.nd rfl (by first | exact Or.inl rfl | exact Or.inr rfl))) (fun _ _ _ _ _ => pts_nil) (fun _ _ _ _ _ => (pe_lc (own := [("b", 9)]) (g := (gName 9)) (tt := tYes) rfl sc_Reckoning__init.nd (OQ.pi_rngV (pv 7)) (blkOk_by (own := [("b", 9)]) (N := ["self", "joins", "products", "none", "one", "fault", "row", "worths", "a", "b", "c"]) (sc := _) (by kernel_rfl)) (fun _ _ _ _ _ => (pg_name (i := 9) sc_Reckoning__init.nd rfl (by first | exact Or.inl rfl | exact Or.inr rfl))) (fun _ _ _ _ _ => pts_nil) (fun _ _ _ _ _ => (pe_meth (pv 0) T.cl_Reckoning T.m_Reckoning_meet (ok_Reckoning_meet T) (hr.mono (by decide)) T.b_Reckoning_meet .nil pass0 (pa_cons (pv 8) (pa_cons (pv 9) pa_nil))))))) rfl)
 (C8.pss_cut (ps_fld (pv 0) (pe_lc (own := [("a", 8)]) (g := (gName 8)) (tt := tYes) rfl sc_Reckoning__init.nd (OQ.pi_rngV (pv 7)) (blkOk_by (own := [("a", 8)]) (N := ["self", "joins", "products", "none", "one", "fault", "row", "worths", "a", "b", "c"]) (sc := defScope s_Reckoning__init) (by decide +kernel)) (fun _ _ _ _ _ => (pg_name (i := 8) sc_Reckoning__init.nd rfl (by first | exact Or.inl rfl | exact Or.inr rfl))) (fun _ _ _ _ _ => pts_nil) (fun _ _ _ _ _ => (pe_lc (own := [("c", 10)]) (g := (gName 10)) (tt := tYes) rfl sc_Reckoning__init.nd (OQ.pi_rngV (pv 7)) (blkOk_by (own := [("c", 10)]) (N := ["self", "joins", "products", "none", "one", "fault", "row", "worths", "a", "b", "c"]) (sc := _) (by kernel_rfl)) (fun _ _ _ _ _ => (pg_name (i := 10) sc_Reckoning__init.nd rfl (by first | exact Or.inl rfl | exact Or.inr rfl))) (fun _ _ _ _ _ => pts_nil) (fun _ _ _ _ _ => (pe_meth (pv 0) T.cl_Reckoning T.m_Reckoning_left (ok_Reckoning_left T) (hr.mono (by decide)) T.b_Reckoning_left .nil pass0 (pa_cons (pv 8) (pa_cons (pv 10) pa_nil))))))) rfl)
 (pss_one (ps_fld (pv 0) (pe_lc (own := [("c", 10)]) (g := (gName 10)) (tt := tYes) rfl sc_Reckoning__init.nd (OQ.pi_rngV (pv 7)) (blkOk_by (own := [("c", 10)]) (N := ["self", "joins", "products", "none", "one", "fault", "row", "worths", "a", "b", "c"]) (sc := defScope s_Reckoning__init) (by decide +kernel)) (fun _ _ _ _ _ => (pg_name (i := 10) sc_Reckoning__init.nd rfl (by first | exact Or.inl rfl | exact Or.inr rfl))) (fun _ _ _ _ _ => pts_nil) (fun _ _ _ _ _ => (pe_lc (own := [("a", 8)]) (g := (gName 8)) (tt := tYes) rfl sc_Reckoning__init.nd (OQ.pi_rngV (pv 7)) (blkOk_by (own := [("a", 8)]) (N := ["self", "joins", "products", "none", "one", "fault", "row", "worths", "a", "b", "c"]) (sc := _) (by kernel_rfl)) (fun _ _ _ _ _ => (pg_name (i := 8) sc_Reckoning__init.nd rfl (by first | exact Or.inl rfl | exact Or.inr rfl))) (fun _ _ _ _ _ => pts_nil) (fun _ _ _ _ _ => (pe_meth (pv 0) T.cl_Reckoning T.m_Reckoning_right (ok_Reckoning_right T) (hr.mono (by decide)) T.b_Reckoning_right .nil pass0 (pa_cons (pv 10) (pa_cons (pv 8) pa_nil))))))) rfl))))))))))), ?_⟩
    refine RD.d_cut (fun σ' H' => σ' = [some (.ref x), some (.ref a), some (.ref b), some (.int z), some (.int o), some .non, none, none, none, none, none] ∧ Same H H') ?_ ?_
    · walk_at "rd"
      refine ⟨⟨a, b, n, J, M, z, o, rfl, tj, tp, G⟩, fun H1 s1 => ?_⟩
      walk_at "rd"
      exact ⟨rfl, s1⟩
    rintro σ' H1 ⟨rfl, s1⟩
    replace ex := s1 _ _ ex
    replace tj := TabL.same tj s1
    replace tp := TabL.same tp s1
    have kx1 : Kx x H H1 := Same.kx s1
    clear s1
    refine RD.d_cut (fun σ' H' => σ' = [some (.ref x), some (.ref a), some (.ref b), some (.int z), some (.int o), some .non, none, none, none, none, none] ∧ H' = H1) ?_ ?_
    · walk_at "rd"
      rw [decide_eq_true rfl]
      walk_at "rd"
      exact ⟨rfl, rfl⟩
    rintro σ' H2 ⟨rfl, rfl⟩
    obtain ⟨rs, len, ea, rows⟩ := id tj
    refine RD.d_cut (fun σ' H' => ∃ q, σ' = [some (.ref x), some (.ref a), some (.ref b), some (.int z), some (.int o), some .non, none, none, none, none, none] ∧ H' x = some (.ins T.C_Reckoning dx [("joins", .ref q)]) ∧ Kx x H2 H' ∧ TabT H' q n J) ?_ ?_
    · walk_at "rd"
      intro D hD
      refine lc_list (K := K) (a := a) (xs := rs.map V.ref) (fun i H' => ∃ us : List Addr, Same H2 H' ∧ us.length = i ∧ H' D = some (.lst (us.map V.ref)) ∧ ∀ (j : Nat) (u : Addr), us[j]? = some u → RowT H' u n (J j)) ⟨[], same_upd hD, rfl, upd_same, (fun j u e => nomatch e)⟩ ?_ ?_ ?_
      · rintro i H' _ ⟨us, s1, _⟩
        exact SqL.of (s1 _ _ ea)
      · rintro i y H' hi ⟨us, s1, lu, eD, all⟩
        have il : i < n := by have := (List.getElem?_eq_some_iff.mp hi).1; rw [List.length_map, len] at this; exact this
        have il' : i < rs.length := by rw [len]; exact il
        rw [List.getElem?_map, List.getElem?_eq_getElem il'] at hi
        cases hi
        walk_at "rd"
        refine ⟨_, _, rfl, .inl ⟨SqL.of (s1 _ _ (rows i _ (List.getElem?_eq_getElem il'))), fun l hl => ?_⟩⟩
        have nl : l ≠ D := fun zz => by rw [zz, eD] at hl; cases hl
        have hrow : RowT (upd H' l (.tup ((List.range n).map fun j => V.int ((J i j : Nat) : Int)))) l n (J i) := upd_same
        have s2 := same_upd (o := HO.tup ((List.range n).map fun j => V.int ((J i j : Nat) : Int))) hl
        refine ⟨_, s2 _ _ eD, by rw [List.length_map, lu]; exact Nat.lt_of_lt_of_le il (Nat.le_trans G.n16 (by decide)), us ++ [l], fun b' u e => ?_, by rw [List.length_append, lu]; rfl, by rw [upd_same, List.map_append]; rfl, fun j u e => ?_⟩
        · rw [upd_ne (ne_of_none e hD)]; exact s2 _ _ (s1 _ _ e)
        · have far : ∀ {v : Addr} {g : Nat → Nat} {G0 : Hp} {O : HO}, v ≠ D → RowT G0 v n g → RowT (upd G0 D O) v n g := fun nv hv => by unfold RowT; rw [upd_ne nv]; exact hv
          by_cases lj : j < us.length
          · rw [List.getElem?_append_left lj] at e
            have hu := all j u e
            refine far (fun zz => ?_) (s2 _ _ hu)
            unfold RowT at hu
            rw [zz, eD] at hu; cases hu
          · have q : j = i := by
              have := (List.getElem?_eq_some_iff.mp e).1
              rw [List.length_append, lu] at this
              simp at this
              omega
            subst q
            rw [List.getElem?_append_right (by omega), lu, Nat.sub_self] at e
            cases e
            exact far nl hrow
      · rintro H' ⟨us, s1, lu, eD, all⟩
        walk_at "rd"
        refine ⟨D, _, rfl, .inl ⟨SqL.of eD, fun q hq => ?_⟩⟩
        have s2 := same_upd (o := HO.tup (us.map V.ref)) hq
        have ex2 := s2 _ _ (s1 _ _ ex)
        have tq : TabT (upd H' q (.tup (us.map V.ref))) q n J := ⟨us, by rw [lu, List.length_map, len], upd_same, fun j u e => s2 _ _ (all j u e)⟩
        walk_at "rd"
        refine ⟨x, T.C_Reckoning, dx, _, rfl, ex2, T.cl_Reckoning, T.na_Reckoning_joins, by show 0 < 1000; decide, ?_⟩
        refine ⟨q, rfl, ?_, Kx.trans (Same.kx (Same.trans s1 s2)) kx_upd, tq.kx ex2 kx_upd⟩
        rw [upd_same]; rfl
    clear ea rows
    rintro σ' H3 ⟨jt, rfl, ex3, kx3, tjt⟩
    replace tj := TabL.kx tj ex kx3
    replace tp := TabL.kx tp ex kx3
    replace kx1 := kx1.trans kx3
    replace ex := ex3
    clear ex3 kx3
    obtain ⟨rs, len, ea, rows⟩ := id tp
    refine RD.d_cut (fun σ' H' => ∃ q, σ' = [some (.ref x), some (.ref a), some (.ref b), some (.int z), some (.int o), some .non, none, none, none, none, none] ∧ H' x = some (.ins T.C_Reckoning dx [("joins", .ref jt), ("products", .ref q)]) ∧ Kx x H3 H' ∧ TabT H' q n M) ?_ ?_
    · walk_at "rd"
      intro D hD
      refine lc_list (K := K) (a := b) (xs := rs.map V.ref) (fun i H' => ∃ us : List Addr, Same H3 H' ∧ us.length = i ∧ H' D = some (.lst (us.map V.ref)) ∧ ∀ (j : Nat) (u : Addr), us[j]? = some u → RowT H' u n (M j)) ⟨[], same_upd hD, rfl, upd_same, (fun j u e => nomatch e)⟩ ?_ ?_ ?_
      · rintro i H' _ ⟨us, s1, _⟩
        exact SqL.of (s1 _ _ ea)
      · rintro i y H' hi ⟨us, s1, lu, eD, all⟩
        have il : i < n := by have := (List.getElem?_eq_some_iff.mp hi).1; rw [List.length_map, len] at this; exact this
        have il' : i < rs.length := by rw [len]; exact il
        rw [List.getElem?_map, List.getElem?_eq_getElem il'] at hi
        cases hi
        walk_at "rd"
        refine ⟨_, _, rfl, .inl ⟨SqL.of (s1 _ _ (rows i _ (List.getElem?_eq_getElem il'))), fun l hl => ?_⟩⟩
        have nl : l ≠ D := fun zz => by rw [zz, eD] at hl; cases hl
        have hrow : RowT (upd H' l (.tup ((List.range n).map fun j => V.int ((M i j : Nat) : Int)))) l n (M i) := upd_same
        have s2 := same_upd (o := HO.tup ((List.range n).map fun j => V.int ((M i j : Nat) : Int))) hl
        refine ⟨_, s2 _ _ eD, by rw [List.length_map, lu]; exact Nat.lt_of_lt_of_le il (Nat.le_trans G.n16 (by decide)), us ++ [l], fun b' u e => ?_, by rw [List.length_append, lu]; rfl, by rw [upd_same, List.map_append]; rfl, fun j u e => ?_⟩
        · rw [upd_ne (ne_of_none e hD)]; exact s2 _ _ (s1 _ _ e)
        · have far : ∀ {v : Addr} {g : Nat → Nat} {G0 : Hp} {O : HO}, v ≠ D → RowT G0 v n g → RowT (upd G0 D O) v n g := fun nv hv => by unfold RowT; rw [upd_ne nv]; exact hv
          by_cases lj : j < us.length
          · rw [List.getElem?_append_left lj] at e
            have hu := all j u e
            refine far (fun zz => ?_) (s2 _ _ hu)
            unfold RowT at hu
            rw [zz, eD] at hu; cases hu
          · have q : j = i := by
              have := (List.getElem?_eq_some_iff.mp e).1
              rw [List.length_append, lu] at this
              simp at this
              omega
            subst q
            rw [List.getElem?_append_right (by omega), lu, Nat.sub_self] at e
            cases e
            exact far nl hrow
      · rintro H' ⟨us, s1, lu, eD, all⟩
        walk_at "rd"
        refine ⟨D, _, rfl, .inl ⟨SqL.of eD, fun q hq => ?_⟩⟩
        have s2 := same_upd (o := HO.tup (us.map V.ref)) hq
        have ex2 := s2 _ _ (s1 _ _ ex)
        have tq : TabT (upd H' q (.tup (us.map V.ref))) q n M := ⟨us, by rw [lu, List.length_map, len], upd_same, fun j u e => s2 _ _ (all j u e)⟩
        walk_at "rd"
        refine ⟨x, T.C_Reckoning, dx, _, rfl, ex2, T.cl_Reckoning, T.na_Reckoning_products, by show 1 < 1000; decide, ?_⟩
        refine ⟨q, rfl, ?_, Kx.trans (Same.kx (Same.trans s1 s2)) kx_upd, tq.kx ex2 kx_upd⟩
        rw [upd_same, putF_ne (by decide +kernel)]; rfl
    clear ea rows
    rintro σ' H4 ⟨pt, rfl, ex4, kx4, tpt⟩
    replace tjt := TabT.kx tjt ex kx4
    replace tj := TabL.kx tj ex kx4
    replace kx1 := kx1.trans kx4
    replace ex := ex4
    clear ex4 kx4 tp
    refine RD.d_cut (fun σ' H' => σ' = [some (.ref x), some (.ref a), some (.ref b), some (.int z), some (.int o), some .non, none, none, none, none, none] ∧ H' x = some (.ins T.C_Reckoning dx [("joins", .ref jt), ("products", .ref pt), ("none", .int z)]) ∧ Kx x H4 H') ?_ ?_
    · walk_at "rd"
      refine ⟨x, T.C_Reckoning, dx, _, rfl, ex, T.cl_Reckoning, T.na_Reckoning_none, by show 2 < 1000; decide, rfl, ?_, kx_upd⟩
      rw [upd_same, putF_ne (by decide +kernel), putF_ne (by decide +kernel)]; rfl
    rintro σ' H5 ⟨rfl, ex5, kx5⟩
    replace tjt := TabT.kx tjt ex kx5
    replace tpt := TabT.kx tpt ex kx5
    replace tj := TabL.kx tj ex kx5
    replace kx1 := kx1.trans kx5
    replace ex := ex5
    clear ex5 kx5
    refine RD.d_cut (fun σ' H' => σ' = [some (.ref x), some (.ref a), some (.ref b), some (.int z), some (.int o), some .non, none, none, none, none, none] ∧ H' x = some (.ins T.C_Reckoning dx [("joins", .ref jt), ("products", .ref pt), ("none", .int z), ("one", .int o)]) ∧ Kx x H5 H') ?_ ?_
    · walk_at "rd"
      refine ⟨x, T.C_Reckoning, dx, _, rfl, ex, T.cl_Reckoning, T.na_Reckoning_one, by show 3 < 1000; decide, rfl, ?_, kx_upd⟩
      rw [upd_same, putF_ne (by decide +kernel), putF_ne (by decide +kernel), putF_ne (by decide +kernel)]; rfl
    rintro σ' H6 ⟨rfl, ex6, kx6⟩
    replace tjt := TabT.kx tjt ex kx6
    replace tpt := TabT.kx tpt ex kx6
    replace tj := TabL.kx tj ex kx6
    replace kx1 := kx1.trans kx6
    replace ex := ex6
    clear ex6 kx6
    obtain ⟨rs, len, ea, rows⟩ := id tj
    have n16 := G.n16
    refine RD.d_cut (fun σ' H' => ∃ rg, σ' = [some (.ref x), some (.ref a), some (.ref b), some (.int z), some (.int o), some .non, none, some (.ref rg), none, none, none] ∧ Same H6 H' ∧ H' rg = some (.rng 0 n)) ?_ ?_
    · walk_at "rd"
      refine ⟨n, by rw [List.length_map, len], fun rg hg => ?_⟩
      walk_at "rd"
      exact ⟨rg, rfl, same_upd hg, upd_same⟩
    rintro σ' H7 ⟨rg, rfl, s7, eg⟩
    replace tjt := tjt.same s7
    replace tpt := tpt.same s7
    replace kx1 := kx1.trans (Same.kx s7)
    replace ex := s7 _ _ ex
    clear tj ea rows s7
    have re : Rek T.C_Reckoning H7 x n J M z := ⟨G.zn, G.n16, G.wj, G.wp, dx, jt, pt, _, ex, lk_eq, tjt, ((lk_ne (by decide +kernel)).trans lk_eq), tpt, ((lk_ne (by decide +kernel)).trans ((lk_ne (by decide +kernel)).trans lk_eq)), ((lk_ne (by decide +kernel)).trans ((lk_ne (by decide +kernel)).trans ((lk_ne (by decide +kernel)).trans ((lk_ne (by decide +kernel)).trans rfl)))), ((lk_ne (by decide +kernel)).trans ((lk_ne (by decide +kernel)).trans ((lk_ne (by decide +kernel)).trans ((lk_ne (by decide +kernel)).trans rfl)))), ((lk_ne (by decide +kernel)).trans ((lk_ne (by decide +kernel)).trans ((lk_ne (by decide +kernel)).trans ((lk_ne (by decide +kernel)).trans rfl)))), ((lk_ne (by decide +kernel)).trans ((lk_ne (by decide +kernel)).trans ((lk_ne (by decide +kernel)).trans ((lk_ne (by decide +kernel)).trans rfl))))⟩
    refine RD.d_cut (fun σ' H' => ∃ q v8 v9 v10, σ' = [some (.ref x), some (.ref a), some (.ref b), some (.int z), some (.int o), some .non, none, some (.ref rg), v8, v9, v10] ∧ H' x = some (.ins T.C_Reckoning dx [("joins", .ref jt), ("products", .ref pt), ("none", .int z), ("one", .int o), ("_meets", .ref q)]) ∧ Kx x H7 H') ?_ ?_
    · walk_at "rd"
      refine ⟨rg, 0, n, rfl, eg, by omega, ?_⟩
      intro D hD
      refine lc_range (lo := 0) (n := ((n : Int) - 0).toNat) (fun i H' => ∃ us : List V, Same H7 H' ∧ H' D = some (.lst us) ∧ us.length ≤ i) ⟨[], same_upd hD, upd_same, Nat.le_refl _⟩ ?_ ?_
      · rintro i H' hi' ⟨us, s1, eD, lu⟩
        have hi : i < n := by omega
        walk_at "rd"
        refine ⟨rg, 0, n, rfl, s1 _ _ eg, by omega, ?_⟩
        intro D2 hD2
        refine lc_range (lo := 0) (n := ((n : Int) - 0).toNat) (fun j H'' => ∃ us2 : List V, Same H' H'' ∧ H'' D2 = some (.lst us2) ∧ us2.length ≤ j) ⟨[], same_upd hD2, upd_same, Nat.le_refl _⟩ ?_ ?_
        · rintro j H'' hj' ⟨us2, s2, eD2, lu2⟩
          have hj : j < n := by omega
          have re2 := (re.same s1).same s2
          walk_at "rd"
          refine rekM re2 (.inr (.inl rfl)) ?_
          walk_at "rd"
          refine ⟨x, n, J, M, z, i, j, by rw [Int.zero_add, Int.zero_add]; rfl, re2, hi, hj, fun r H3 s3 hr3 => ?_⟩
          refine ⟨us2, s3 _ _ eD2, by exact Nat.lt_of_le_of_lt lu2 (Nat.lt_of_lt_of_le hj (Nat.le_trans G.n16 (by decide))), us2 ++ [.int r], fun b' u e => ?_, upd_same, by rw [List.length_append]; simpa using lu2⟩
          rw [upd_ne (ne_of_none e hD2)]; exact s3 _ _ (s2 _ _ e)
        · rintro H'' ⟨us2, s2, eD2, lu2⟩
          refine ⟨us, s2 _ _ eD, by exact Nat.lt_of_le_of_lt lu (Nat.lt_of_lt_of_le hi (Nat.le_trans G.n16 (by decide))), us ++ [.ref D2], fun b' u e => ?_, upd_same, by rw [List.length_append]; simpa using lu⟩
          rw [upd_ne (ne_of_none e hD)]; exact s2 _ _ (s1 _ _ e)
      · rintro H' ⟨us, s1, eD, lu⟩
        walk_at "rd"
        have ex1 := s1 _ _ ex
        refine ⟨x, T.C_Reckoning, dx, _, rfl, ex1, T.cl_Reckoning, T.na_Reckoning__meets, by show 4 < 1000; decide, ?_⟩
        refine ⟨D, _, _, _, rfl, ?_, Kx.trans (Same.kx s1) kx_upd⟩
        rw [upd_same, putF_ne (by decide +kernel), putF_ne (by decide +kernel), putF_ne (by decide +kernel), putF_ne (by decide +kernel)]; rfl
    rintro σ' H8 ⟨mt, v8, v9, v10, rfl, exn, kxn⟩
    clear re
    have egn : H8 rg = some (.rng 0 n) := kxn _ _ (fun zz => by rw [zz, ex] at eg; cases eg) eg
    replace tjt := tjt.kx ex kxn
    replace tpt := tpt.kx ex kxn
    replace kx1 := kx1.trans kxn
    replace ex := exn
    replace eg := egn
    clear exn kxn egn
    have re : Rek T.C_Reckoning H8 x n J M z := ⟨G.zn, G.n16, G.wj, G.wp, dx, jt, pt, _, ex, lk_eq, tjt, ((lk_ne (by decide +kernel)).trans lk_eq), tpt, ((lk_ne (by decide +kernel)).trans ((lk_ne (by decide +kernel)).trans lk_eq)), ((lk_ne (by decide +kernel)).trans ((lk_ne (by decide +kernel)).trans ((lk_ne (by decide +kernel)).trans ((lk_ne (by decide +kernel)).trans ((lk_ne (by decide +kernel)).trans rfl))))), ((lk_ne (by decide +kernel)).trans ((lk_ne (by decide +kernel)).trans ((lk_ne (by decide +kernel)).trans ((lk_ne (by decide +kernel)).trans ((lk_ne (by decide +kernel)).trans rfl))))), ((lk_ne (by decide +kernel)).trans ((lk_ne (by decide +kernel)).trans ((lk_ne (by decide +kernel)).trans ((lk_ne (by decide +kernel)).trans ((lk_ne (by decide +kernel)).trans rfl))))), ((lk_ne (by decide +kernel)).trans ((lk_ne (by decide +kernel)).trans ((lk_ne (by decide +kernel)).trans ((lk_ne (by decide +kernel)).trans ((lk_ne (by decide +kernel)).trans rfl)))))⟩
    refine RD.d_cut (fun σ' H' => ∃ q v8 v9 v10, σ' = [some (.ref x), some (.ref a), some (.ref b), some (.int z), some (.int o), some .non, none, some (.ref rg), v8, v9, v10] ∧ H' x = some (.ins T.C_Reckoning dx [("joins", .ref jt), ("products", .ref pt), ("none", .int z), ("one", .int o), ("_meets", .ref mt), ("_lefts", .ref q)]) ∧ Kx x H8 H') ?_ ?_
    · walk_at "rd"
      refine ⟨rg, 0, n, rfl, eg, by omega, ?_⟩
      intro D hD
      refine lc_range (lo := 0) (n := ((n : Int) - 0).toNat) (fun i H' => ∃ us : List V, Same H8 H' ∧ H' D = some (.lst us) ∧ us.length ≤ i) ⟨[], same_upd hD, upd_same, Nat.le_refl _⟩ ?_ ?_
      · rintro i H' hi' ⟨us, s1, eD, lu⟩
        have hi : i < n := by omega
        walk_at "rd"
        refine ⟨rg, 0, n, rfl, s1 _ _ eg, by omega, ?_⟩
        intro D2 hD2
        refine lc_range (lo := 0) (n := ((n : Int) - 0).toNat) (fun j H'' => ∃ us2 : List V, Same H' H'' ∧ H'' D2 = some (.lst us2) ∧ us2.length ≤ j) ⟨[], same_upd hD2, upd_same, Nat.le_refl _⟩ ?_ ?_
        · rintro j H'' hj' ⟨us2, s2, eD2, lu2⟩
          have hj : j < n := by omega
          have re2 := (re.same s1).same s2
          walk_at "rd"
          refine rekM re2 (.inr (.inr (.inl rfl))) ?_
          walk_at "rd"
          refine ⟨x, n, J, M, z, i, j, by rw [Int.zero_add, Int.zero_add]; rfl, re2, hi, hj, fun r H3 s3 hr3 => ?_⟩
          refine ⟨us2, s3 _ _ eD2, by exact Nat.lt_of_le_of_lt lu2 (Nat.lt_of_lt_of_le hj (Nat.le_trans G.n16 (by decide))), us2 ++ [.int r], fun b' u e => ?_, upd_same, by rw [List.length_append]; simpa using lu2⟩
          rw [upd_ne (ne_of_none e hD2)]; exact s3 _ _ (s2 _ _ e)
        · rintro H'' ⟨us2, s2, eD2, lu2⟩
          refine ⟨us, s2 _ _ eD, by exact Nat.lt_of_le_of_lt lu (Nat.lt_of_lt_of_le hi (Nat.le_trans G.n16 (by decide))), us ++ [.ref D2], fun b' u e => ?_, upd_same, by rw [List.length_append]; simpa using lu⟩
          rw [upd_ne (ne_of_none e hD)]; exact s2 _ _ (s1 _ _ e)
      · rintro H' ⟨us, s1, eD, lu⟩
        walk_at "rd"
        have ex1 := s1 _ _ ex
        refine ⟨x, T.C_Reckoning, dx, _, rfl, ex1, T.cl_Reckoning, T.na_Reckoning__lefts, by show 5 < 1000; decide, ?_⟩
        refine ⟨D, _, _, _, rfl, ?_, Kx.trans (Same.kx s1) kx_upd⟩
        rw [upd_same, putF_ne (by decide +kernel), putF_ne (by decide +kernel), putF_ne (by decide +kernel), putF_ne (by decide +kernel), putF_ne (by decide +kernel)]; rfl
    rintro σ' H9 ⟨lt, v8, v9, v10, rfl, exn, kxn⟩
    clear re
    have egn : H9 rg = some (.rng 0 n) := kxn _ _ (fun zz => by rw [zz, ex] at eg; cases eg) eg
    replace tjt := tjt.kx ex kxn
    replace tpt := tpt.kx ex kxn
    replace kx1 := kx1.trans kxn
    replace ex := exn
    replace eg := egn
    clear exn kxn egn
    have re : Rek T.C_Reckoning H9 x n J M z := ⟨G.zn, G.n16, G.wj, G.wp, dx, jt, pt, _, ex, lk_eq, tjt, ((lk_ne (by decide +kernel)).trans lk_eq), tpt, ((lk_ne (by decide +kernel)).trans ((lk_ne (by decide +kernel)).trans lk_eq)), ((lk_ne (by decide +kernel)).trans ((lk_ne (by decide +kernel)).trans ((lk_ne (by decide +kernel)).trans ((lk_ne (by decide +kernel)).trans ((lk_ne (by decide +kernel)).trans ((lk_ne (by decide +kernel)).trans rfl)))))), ((lk_ne (by decide +kernel)).trans ((lk_ne (by decide +kernel)).trans ((lk_ne (by decide +kernel)).trans ((lk_ne (by decide +kernel)).trans ((lk_ne (by decide +kernel)).trans ((lk_ne (by decide +kernel)).trans rfl)))))), ((lk_ne (by decide +kernel)).trans ((lk_ne (by decide +kernel)).trans ((lk_ne (by decide +kernel)).trans ((lk_ne (by decide +kernel)).trans ((lk_ne (by decide +kernel)).trans ((lk_ne (by decide +kernel)).trans rfl)))))), ((lk_ne (by decide +kernel)).trans ((lk_ne (by decide +kernel)).trans ((lk_ne (by decide +kernel)).trans ((lk_ne (by decide +kernel)).trans ((lk_ne (by decide +kernel)).trans ((lk_ne (by decide +kernel)).trans rfl))))))⟩
    walk_at "rd"
    refine ⟨rg, 0, n, rfl, eg, by omega, ?_⟩
    intro D hD
    refine lc_range (lo := 0) (n := ((n : Int) - 0).toNat) (fun i H' => ∃ us : List V, Same H9 H' ∧ H' D = some (.lst us) ∧ us.length ≤ i) ⟨[], same_upd hD, upd_same, Nat.le_refl _⟩ ?_ ?_
    · rintro i H' hi' ⟨us, s1, eD, lu⟩
      have hi : i < n := by omega
      walk_at "rd"
      refine ⟨rg, 0, n, rfl, s1 _ _ eg, by omega, ?_⟩
      intro D2 hD2
      refine lc_range (lo := 0) (n := ((n : Int) - 0).toNat) (fun j H'' => ∃ us2 : List V, Same H' H'' ∧ H'' D2 = some (.lst us2) ∧ us2.length ≤ j) ⟨[], same_upd hD2, upd_same, Nat.le_refl _⟩ ?_ ?_
      · rintro j H'' hj' ⟨us2, s2, eD2, lu2⟩
        have hj : j < n := by omega
        have re2 := (re.same s1).same s2
        walk_at "rd"
        refine rekM re2 (.inr (.inr (.inr rfl))) ?_
        walk_at "rd"
        refine ⟨x, n, J, M, z, i, j, by rw [Int.zero_add, Int.zero_add]; rfl, re2, hi, hj, fun r H3 s3 hr3 => ?_⟩
        refine ⟨us2, s3 _ _ eD2, by exact Nat.lt_of_le_of_lt lu2 (Nat.lt_of_lt_of_le hj (Nat.le_trans G.n16 (by decide))), us2 ++ [.int r], fun b' u e => ?_, upd_same, by rw [List.length_append]; simpa using lu2⟩
        rw [upd_ne (ne_of_none e hD2)]; exact s3 _ _ (s2 _ _ e)
      · rintro H'' ⟨us2, s2, eD2, lu2⟩
        refine ⟨us, s2 _ _ eD, by exact Nat.lt_of_le_of_lt lu (Nat.lt_of_lt_of_le hi (Nat.le_trans G.n16 (by decide))), us ++ [.ref D2], fun b' u e => ?_, upd_same, by rw [List.length_append]; simpa using lu⟩
        rw [upd_ne (ne_of_none e hD)]; exact s2 _ _ (s1 _ _ e)
    · rintro H' ⟨us, s1, eD, lu⟩
      walk_at "rd"
      have ex1 := s1 _ _ ex
      refine ⟨x, T.C_Reckoning, dx, _, rfl, ex1, T.cl_Reckoning, T.na_Reckoning__rights, by show 6 < 1000; decide, ?_⟩
      refine k _ ((kx1.trans (Same.kx s1)).trans kx_upd) ⟨dx, jt, pt, mt, lt, D, ?_, (tjt.same s1).kx ex1 kx_upd, (tpt.same s1).kx ex1 kx_upd⟩
      rw [upd_same, putF_ne (by decide +kernel), putF_ne (by decide +kernel), putF_ne (by decide +kernel), putF_ne (by decide +kernel), putF_ne (by decide +kernel), putF_ne (by decide +kernel)]; rfl
end

/-! ### widths, yes or no -/
theorem good_widths {m : Nat} (h1 : 1 ≤ m) (h2 : m ≤ 15) : Good (m + 1) max min 0 m where
  n2 := by omega
  n16 := by omega
  zn := by omega
  on := by omega
  wj := fun a b ha hb => by omega
  wp := fun a b ha hb => by omega
  none := fun a ha => by omega
  one := fun a ha => by omega
  idle := fun a ha => by omega
  swap := fun a b ha hb => by omega
  gj := fun a b c ha hb hc => by omega
  gp := fun a b c ha hb hc => by omega
  over := fun a b c ha hb hc => by omega
  same := by omega
/-- the first i rows of a table stand in the list at D -/
def RowsTo (H : Hp) (D : Addr) (n i : Nat) (f : Nat → Nat → Nat) : Prop := ∃ us : List Addr, us.length = i ∧ H D = some (.lst (us.map V.ref)) ∧ ∀ (j : Nat) (u : Addr), us[j]? = some u → u ≠ D ∧ RowL H u n (fun c => (f j c : Int))
theorem rowsTo_zero {H : Hp} {D : Addr} {n : Nat} {f : Nat → Nat → Nat} : RowsTo (upd H D (.lst [])) D n 0 f := ⟨[], rfl, upd_same, (fun _ _ e => nomatch e)⟩
theorem rowsTo_step {H H' H'' : Hp} {D D2 : Addr} {n i : Nat} {f : Nat → Nat → Nat} (hD : H D = none) (s1 : Same H H') (r : RowsTo H' D n i f) (hD2 : H' D2 = none) (s2 : Same H' H'') (hi : i < n) (n16 : n ≤ 16) (e2 : RowL H'' D2 n (fun c => (f i c : Int))) :
    ∃ acc, H'' D = some (.lst acc) ∧ acc.length < sizeLine ∧ Same H (upd H'' D (.lst (acc ++ [V.ref D2]))) ∧ RowsTo (upd H'' D (.lst (acc ++ [V.ref D2]))) D n (i + 1) f := by
  obtain ⟨us, lu, eD, all⟩ := r
  have nD : D2 ≠ D := fun z => by rw [z, eD] at hD2; cases hD2
  refine ⟨_, s2 _ _ eD, by rw [List.length_map, lu]; exact Nat.lt_of_lt_of_le hi (Nat.le_trans n16 (by decide)), fun b u e => ?_, us ++ [D2], by rw [List.length_append, lu]; rfl, by rw [upd_same, List.map_append]; rfl, fun j u e => ?_⟩
  · rw [upd_ne (ne_of_none e hD)]; exact s2 _ _ (s1 _ _ e)
  · by_cases lj : j < us.length
    · rw [List.getElem?_append_left lj] at e
      obtain ⟨n1, r1⟩ := all j u e
      exact ⟨n1, by unfold RowL; rw [upd_ne n1]; exact s2 _ _ r1⟩
    · have q : j = i := by
        have := (List.getElem?_eq_some_iff.mp e).1
        rw [List.length_append, lu] at this
        simp at this
        omega
      subst q
      rw [List.getElem?_append_right (by omega), lu, Nat.sub_self] at e
      cases e
      exact ⟨nD, by unfold RowL; rw [upd_ne nD]; exact e2⟩
theorem rowsTo_end {H : Hp} {D : Addr} {n : Nat} {f : Nat → Nat → Nat} (r : RowsTo H D n n f) : TabN H D n f := by
  obtain ⟨us, lu, eD, all⟩ := r
  exact ⟨us, lu, eD, fun j u e => (all j u e).2⟩
/-- one more item of a row of at most 16 -/
theorem rowPut {H H' : Hp} {D : Addr} {j : Nat} {g : Nat → Nat} {v : V} (hD : H D = none) (s : Same H H') (hj : j < 16) (eD : H' D = some (.lst ((List.range j).map fun c => V.int (g c : Nat)))) (ev : v = .int (g j : Nat)) :
    ∃ acc, H' D = some (.lst acc) ∧ acc.length < sizeLine ∧ Same H (upd H' D (.lst (acc ++ [v]))) ∧ upd H' D (.lst (acc ++ [v])) D = some (.lst ((List.range (j + 1)).map fun c => V.int (g c : Nat))) := by
  refine ⟨_, eD, by rw [List.length_map, List.length_range]; exact Nat.lt_of_lt_of_le hj (by decide), fun b u e => ?_, ?_⟩
  · rw [upd_ne (ne_of_none e hD)]; exact s _ _ e
  · rw [upd_same, List.range_succ, List.map_append, ev]; rfl
def spGreater : Sp := fun vs H Q _ => ∃ n : Nat, vs = [.int n] ∧ n ≤ 16 ∧ ∀ p H', Same H H' → TabN H' p n max → Q (.ref p) H'
def spWidths (C : Addr) : Sp := fun vs H Q _ => ∃ m : Nat, vs = [.int m] ∧ 1 ≤ m ∧ m ≤ 15 ∧ ∀ x H', Same H H' → RekF C H' x (m + 1) max min 0 m → Q (.ref x) H'
def spYesNo (C : Addr) : Sp := fun vs H Q _ => vs = [] ∧ ∀ x H', Same H H' → RekF C H' x 2 max min 0 1 → Q (.ref x) H'
section
variable {P : Program} {w : World} {K : PySem.W.Frag} {mg : Str → Option Value} {base : Heap} {H : Hp} {R : V → Prop}
theorem ok_greater_ones (T : Top K mg) : FnOk P w K mg base CX0 1 T.f_greater_ones T.fd_greater_ones ["size"] spGreater := by
  refine T.F_greater_ones.ok sc_greater_ones (fun vs H Q E h => ?_) (fun cdv A outer s H vs Q E hr h => ?_)
  · obtain ⟨n, rfl, _⟩ := h; rfl
  · obtain ⟨n, rfl, n16, k⟩ := h
    refine ⟨_, (pss_one (ps_ret (pe_lc (own := [("a", 1)]) (g := (gName 1)) (tt := tYes) rfl sc_greater_ones.nd (pi_range1 (by rfl) T.n_range (pa_cons (pv 0) pa_nil)) (blkOk_by (own := [("a", 1)]) (N := ["size", "a", "b"]) (sc := defScope s_greater_ones) (by decide +kernel)) (fun _ _ _ _ _ => (pg_name (i := 1) sc_greater_ones.nd rfl (by first | exact Or.inl rfl | exact Or.inr rfl))) (fun _ _ _ _ _ => pts_nil) (fun _ _ _ _ _ => (pe_lc (own := [("b", 2)]) (g := (gName 2)) (tt := tYes) rfl sc_greater_ones.nd (pi_range1 (by rfl) T.n_range (pa_cons (pv 0) pa_nil)) (blkOk_by (own := [("b", 2)]) (N := ["size", "a", "b"]) (sc := _) (by kernel_rfl)) (fun _ _ _ _ _ => (pg_name (i := 2) sc_greater_ones.nd rfl (by first | exact Or.inl rfl | exact Or.inr rfl))) (fun _ _ _ _ _ => pts_nil) (fun _ _ _ _ _ => (pe_callB (call_max2 rfl) (by rfl) T.n_max (by decide +kernel) (pa_cons (pv 1) (pa_cons (pv 2) pa_nil))))))))), ?_⟩
    walk_at "rd"
    refine ⟨n, rfl, by omega, by omega, ?_⟩
    intro D hD
    refine lc_range (lo := 0) (n := (n : Int).toNat) (fun i H' => Same H H' ∧ RowsTo H' D n i max) ⟨same_upd hD, rowsTo_zero⟩ ?_ ?_
    · rintro i H' hi' ⟨s1, r1⟩
      have hi : i < n := by omega
      walk_at "rd"
      refine ⟨n, rfl, by omega, by omega, ?_⟩
      intro D2 hD2
      refine lc_range (lo := 0) (n := (n : Int).toNat) (fun j H'' => Same H' H'' ∧ H'' D2 = some (.lst ((List.range j).map fun c => V.int ((max i c : Nat) : Int)))) ⟨same_upd hD2, upd_same⟩ ?_ ?_
      · rintro j H'' hj' ⟨s2, eD2⟩
        walk_at "rd"
        refine ⟨_, _, rfl, ?_⟩
        exact rowPut (g := fun c => max i c) hD2 s2 (by omega) eD2 (by congr 1; split <;> omega)
      · rintro H'' ⟨s2, eD2⟩
        rw [Int.toNat_natCast] at eD2
        exact rowsTo_step hD s1 r1 hD2 s2 hi n16 eD2
    · rintro H' ⟨s1, r1⟩
      rw [Int.toNat_natCast] at r1
      exact k D H' s1 (rowsTo_end r1)
theorem ok_widths (T : Top K mg) : FnOk P w K mg base CX0 14 T.f_widths T.fd_widths ["most"] (spWidths T.C_Reckoning) := by
  refine T.F_widths.ok sc_widths (fun vs H Q E h => ?_) (fun cdv A outer s H vs Q E hr h => ?_)
  · obtain ⟨m, rfl, _⟩ := h; rfl
  · obtain ⟨m, rfl, h1, h2, k⟩ := h
    refine ⟨_, (pss_cons (ps_if (PW.pt (pw_or (pt_not (pt_val (pe_call (ok_is_integer T) (hr.mono (by decide)) (by rfl) T.g_is_integer T.F_is_integer.kp T.b_is_integer .nil pass0 (pa_cons (pv 0) pa_nil)))) (pw_or1 (pt_not (pt_chain op_le op_le pe_int (pv 0) (pe_glob (v := V.int 15) (by rfl) T.g_MOST_WIDTH ⟨_, rfl⟩))))))
 (pss_one ps_never)
 pss_nil)
 (pss_cons (ps_set (i := 1) sc_widths.nd rfl (Or.inr rfl) (pe_callTy OQ.cr_range1 (by rfl) T.n_range (by decide +kernel) (pa_cons (pe_op op_add (pv 0) pe_int) pa_nil)))
 (pss_one (ps_ret (pe_make T.M_Reckoning (ok_Reckoning__init T) (hr.mono (by decide)) (by rfl) T.g_Reckoning T.b_Reckoning__init .nil pass0 (pa_cons (pe_call (ok_greater_ones T) (hr.mono (by decide)) (by rfl) T.g_greater_ones T.F_greater_ones.kp T.b_greater_ones .nil pass0 (pa_cons (pe_op op_add (pv 0) pe_int) pa_nil)) (pa_cons (pe_lc (own := [("a", 2)]) (g := (gName 2)) (tt := tYes) rfl sc_widths.nd (OQ.pi_rngV (pv 1)) (blkOk_by (own := [("a", 2)]) (N := ["most", "worths", "a", "b"]) (sc := defScope s_widths) (by decide +kernel)) (fun _ _ _ _ _ => (pg_name (i := 2) sc_widths.nd rfl (by first | exact Or.inl rfl | exact Or.inr rfl))) (fun _ _ _ _ _ => pts_nil) (fun _ _ _ _ _ => (pe_lc (own := [("b", 3)]) (g := (gName 3)) (tt := tYes) rfl sc_widths.nd (OQ.pi_rngV (pv 1)) (blkOk_by (own := [("b", 3)]) (N := ["most", "worths", "a", "b"]) (sc := _) (by kernel_rfl)) (fun _ _ _ _ _ => (pg_name (i := 3) sc_widths.nd rfl (by first | exact Or.inl rfl | exact Or.inr rfl))) (fun _ _ _ _ _ => pts_nil) (fun _ _ _ _ _ => (pe_callB (call_min2 rfl) (by rfl) T.n_min (by decide +kernel) (pa_cons (pv 2) (pa_cons (pv 3) pa_nil))))))) (pa_cons pe_int (pa_cons (pv 0) pa_nil))))))))), ?_⟩
    walk_at "rd"
    refine ⟨.int m, true, rfl, isI_int m, ?_⟩
    walk_at "rd"
    refine RD.d_chain ?_
    walk_at "rd"
    rw [decide_eq_true (by omega : (1 : Int) ≤ m)]
    walk_at "rd"
    rw [decide_eq_true (by omega : (m : Int) ≤ 15)]
    walk_at "rd"
    refine ⟨_, rfl, fun rg hg => ?_⟩
    have sg := same_upd (o := HO.rng 0 ((m : Int) + 1)) hg
    have eg : upd H rg (.rng 0 ((m : Int) + 1)) rg = some (.rng 0 ((m : Int) + 1)) := upd_same
    generalize upd H rg (.rng 0 ((m : Int) + 1)) = H0 at *
    walk_at "rd"
    refine ⟨m + 1, rfl, by omega, fun p1 H1 s1 t1 => ?_⟩
    replace eg := s1 _ _ eg
    walk_at "rd"
    refine ⟨rg, 0, (m : Int) + 1, rfl, eg, by omega, ?_⟩
    intro D hD
    refine lc_range (lo := 0) (n := ((m : Int) + 1 - 0).toNat) (fun i H' => Same H1 H' ∧ RowsTo H' D (m + 1) i min) ⟨same_upd hD, rowsTo_zero⟩ ?_ ?_
    · rintro i H' hi' ⟨s2, r2⟩
      have hi : i < m + 1 := by omega
      walk_at "rd"
      refine ⟨rg, 0, (m : Int) + 1, rfl, s2 _ _ eg, by omega, ?_⟩
      intro D2 hD2
      refine lc_range (lo := 0) (n := ((m : Int) + 1 - 0).toNat) (fun j H'' => Same H' H'' ∧ H'' D2 = some (.lst ((List.range j).map fun c => V.int ((min i c : Nat) : Int)))) ⟨same_upd hD2, upd_same⟩ ?_ ?_
      · rintro j H'' hj' ⟨s3, eD2⟩
        walk_at "rd"
        refine ⟨_, _, rfl, ?_⟩
        exact rowPut (g := fun c => min i c) hD2 s3 (by omega) eD2 (by congr 1; split <;> omega)
      · rintro H'' ⟨s3, eD2⟩
        rw [show ((m : Int) + 1 - 0).toNat = m + 1 by omega] at eD2
        exact rowsTo_step hD s2 r2 hD2 s3 hi (by omega) eD2
    · rintro H' ⟨s2, r2⟩
      rw [show ((m : Int) + 1 - 0).toNat = m + 1 by omega] at r2
      have t2 := rowsTo_end r2
      have t1' := TabL.same t1 s2
      walk_at "rd"
      intro x dx nx ndx ne
      have s3 := same_made (C := T.C_Reckoning) nx ndx ne
      refine ⟨x, dx, p1, D, m + 1, max, min, 0, m, rfl, upd_same, TabL.same t1' s3, TabL.same t2 s3, good_widths h1 h2, fun H4 kx f => ⟨rfl, ?_⟩⟩
      refine k x H4 (fun b u e => ?_) f
      have e2 := s2 _ _ (s1 _ _ (sg _ _ e))
      exact kx _ _ (ne_of_none e2 nx) (s3 _ _ e2)
theorem ok_yes_no (T : Top K mg) : FnOk P w K mg base CX0 16 T.f_yes_no T.fd_yes_no [] (spYesNo T.C_Reckoning) := by
  refine T.F_yes_no.ok sc_yes_no (fun vs H Q E h => ?_) (fun cdv A outer s H vs Q E hr h => ?_)
  · rw [h.1]; rfl
  · obtain ⟨rfl, k⟩ := h
    refine ⟨_, (pss_one (ps_ret (pe_call (ok_widths T) (hr.mono (by decide)) (by rfl) T.g_widths T.F_widths.kp T.b_widths .nil pass0 (pa_cons pe_int pa_nil)))), ?_⟩
    walk_at "rd"
    exact ⟨1, rfl, by decide, by decide, k⟩
end

theorem rat_one (i : Int) : Rat.divInt i 1 = (i : Rat) := by
  have := Rat.num_divInt_den (i : Rat)
  rw [Rat.num_intCast, Rat.den_intCast] at this
  exact this

/-! ### the operators of Ratios -/
/-- a Ratio, or an integer -/
def Num (C : Addr) (H : Hp) (v : V) (q : Rat) : Prop := (∃ a, v = .ref a ∧ RatAt C H a q) ∨ ∃ i : Int, v = .int i ∧ q = (i : Rat)
theorem Num.same {C : Addr} {H H' : Hp} {v : V} {q : Rat} (n : Num C H v q) (s : Same H H') : Num C H' v q := n.imp (fun ⟨a, e, h⟩ => ⟨a, e, h.same s⟩) id
/-- both parts below 2 ^ n -/
def Bd (n : Nat) (q : Rat) : Prop := q.num.natAbs < 2 ^ n ∧ q.den < 2 ^ n
theorem Bd.mono {m n : Nat} {q : Rat} (b : Bd m q) (h : m ≤ n) : Bd n q := ⟨Nat.lt_of_lt_of_le b.1 (Nat.pow_le_pow_right (by decide) h), Nat.lt_of_lt_of_le b.2 (Nat.pow_le_pow_right (by decide) h)⟩
theorem den_pos (q : Rat) : (0 : Int) < (q.den : Int) := by have := q.den_nz; omega
theorem log_of {j : Int} {n : Nat} (h : j.natAbs < 2 ^ n) (hn : n ≤ 8000) : j.natAbs.log2 < 9000 := by
  by_cases z : j.natAbs = 0
  · rw [z]; decide +kernel
  · exact Nat.lt_of_lt_of_le ((Nat.log2_lt z).mpr (Nat.lt_of_lt_of_le h (Nat.pow_le_pow_right (by decide) (by omega : n ≤ 9000)))) (Nat.le_refl _)
theorem den_bd {q : Rat} {n : Nat} (b : Bd n q) : ((q.den : Int)).natAbs < 2 ^ n := by rw [Int.natAbs_natCast]; exact b.2
theorem rat_add (p q : Rat) : Rat.divInt (p.num * q.den + q.num * p.den) (p.den * q.den) = p + q := by
  conv => rhs; rw [← Rat.num_divInt_den p, ← Rat.num_divInt_den q]
  rw [Rat.divInt_add_divInt _ _ (by have := p.den_nz; omega) (by have := q.den_nz; omega)]
theorem rat_mul (p q : Rat) : Rat.divInt (p.num * q.num) (p.den * q.den) = p * q := by
  conv => rhs; rw [← Rat.num_divInt_den p, ← Rat.num_divInt_den q]
  rw [Rat.divInt_mul_divInt]
theorem rat_neg (p : Rat) : Rat.divInt (-p.num) p.den = -p := by
  conv => rhs; rw [← Rat.num_divInt_den p]
  rw [Rat.neg_divInt]
theorem spare {p q : Rat} : (p.den : Int) * (q.den : Int) ≠ 0 := by
  have h1 := den_pos p
  have h2 := den_pos q
  exact Int.mul_ne_zero (by omega) (by omega)
def spNum1 (C : Addr) : Sp := fun vs H Q _ => ∃ (v : V) (q : Rat), vs = [v] ∧ Num C H v q ∧ Q (.bl true) H
/-- what is no number -/
def NoNum (K : PySem.W.Frag) (C : Addr) (H : Hp) (y : V) : Prop := ∃ t, TyX K H y t ∧ PySem.W.kitOne K t (.ref C) = some false ∧ IsI K H y false
theorem NoNum.same {K : PySem.W.Frag} {C : Addr} {H H' : Hp} {y : V} (n : NoNum K C H y) (s : Same H H') : NoNum K C H' y := by
  obtain ⟨t, ty, e, i⟩ := n
  exact ⟨t, tyX_same ty s, e, i.same s⟩
def spAs (K : PySem.W.Frag) (C BN : Addr) : Sp := fun vs H Q E => ∃ v : V, vs = [v] ∧
  ((∃ q, Num C H v q ∧ ∀ a H', Same H H' → RatAt C H' a q → Q (.ref a) H') ∨ (NoNum K C H v ∧ ∀ d H', Same H H' → H d = none → H' d = some (ErrD v) → E (.ref BN) (some d) H'))
def spTwo (C : Addr) (g : Rat → Rat → Rat) : Sp := fun vs H Q _ => ∃ (a b : Addr) (p q : Rat), vs = [.ref a, .ref b] ∧ RatAt C H a p ∧ RatAt C H b q ∧ Bd 2000 p ∧ Bd 2000 q ∧ ∀ c H', Same H H' → RatAt C H' c (g p q) → Q (.ref c) H'
def spNeg (C : Addr) : Sp := fun vs H Q _ => ∃ (a : Addr) (p : Rat), vs = [.ref a] ∧ RatAt C H a p ∧ Bd 8000 p ∧ ∀ c H', Same H H' → RatAt C H' c (-p) → Q (.ref c) H'
def spOp (C : Addr) (g : Rat → Rat → Rat) : Sp := fun vs H Q _ => ∃ (a : Addr) (y : V) (p q : Rat), vs = [.ref a, y] ∧ RatAt C H a p ∧ Num C H y q ∧ Bd 2000 p ∧ Bd 2000 q ∧ ∀ c H', Same H H' → RatAt C H' c (g p q) → Q (.ref c) H'
section
variable {P : Program} {w : World} {K : PySem.W.Frag} {mg : Str → Option Value} {base : Heap} {H : Hp} {Q : VK} {E : XK}
theorem mk_rat (T : Top K mg) {i j : Int} {R : Addr → Hp → Prop} (nz : j ≠ 0) (hl : j.natAbs.log2 < 9000) (k : ∀ x H', Same H H' → H x = none → RatAt T.C_Ratio H' x (Rat.divInt i j) → R x H') :
    ∀ x dx, H x = none → H dx = none → dx ≠ x → spRat K T.C_Ratio T.C_BN (.ref x :: ([V.int i, V.int j] ++ [])) (upd (upd H dx (.own x)) x (.ins T.C_Ratio dx [])) (fun v H2 => v = .non ∧ R x H2) E := by
  intro x dx nx ndx ne
  refine ⟨x, dx, .int i, .int j, rfl, upd_same, .inr (.inr ⟨i, j, rfl, rfl, nz, hl, rfl, ?_⟩)⟩
  refine k x _ (fun b o e => ?_) nx ⟨dx, upd_same⟩
  rw [upd_ne (ne_of_none e nx), upd_ne (ne_of_none e nx), upd_ne (ne_of_none e ndx)]; exact e
theorem num_of (T : Top K mg) {v : V} {q : Rat} (n : Num T.C_Ratio H v q) : ∃ t b, TyX K H v t ∧ PySem.W.kitOne K t (.ref T.C_Ratio) = some b ∧ (b = false → ∃ i : Int, v = .int i ∧ q = (i : Rat)) ∧ (b = true → ∃ a, v = .ref a ∧ RatAt T.C_Ratio H a q) := by
  rcases n with ⟨a, rfl, h⟩ | ⟨i, rfl, e⟩
  · exact ⟨_, true, tyR T h, T.kRR, (fun z => Bool.noConfusion z), fun _ => ⟨a, rfl, h⟩⟩
  · exact ⟨_, false, .base (.int i), (T.kT "int" (by simp)).1, (fun _ => ⟨i, rfl, e⟩), fun z => Bool.noConfusion z⟩
theorem ok_is_number (T : Top K mg) : FnOk P w K mg base CX0 2 T.f_is_number T.fd_is_number ["thing"] (spNum1 T.C_Ratio) := by
  refine T.F_is_number.ok sc_is_number (fun vs H Q E h => ?_) (fun cdv A outer s H vs Q E hr h => ?_)
  · obtain ⟨v, q, rfl, _⟩ := h; rfl
  · obtain ⟨v, q, rfl, n, k⟩ := h
    obtain ⟨t, b, ty, e, hi, _⟩ := num_of T n
    refine ⟨_, (pss_one (ps_ret (pe_or (pe_callB call_isi (by rfl) T.n_isinstance (by decide +kernel) (pa_cons (pv 0) (pa_cons (pe_glob (v := V.ref T.C_Ratio) (by rfl) T.g_Ratio rfl) pa_nil))) (pe_one (pe_call (ok_is_integer T) (hr.mono (by decide)) (by rfl) T.g_is_integer T.F_is_integer.kp T.b_is_integer .nil pass0 (pa_cons (pv 0) pa_nil)))))), ?_⟩
    walk_at "rd"
    refine RD.d_isi (.own _) ty e ?_
    walk_at "rd"
    cases b with
    | true => walk_at "rd"; exact k
    | false =>
      obtain ⟨i, rfl, _⟩ := hi rfl
      walk_at "rd"
      exact ⟨.int i, true, rfl, isI_int i, k⟩
theorem ok_as_ratio (T : Top K mg) : FnOk P w K mg base (L2.CX P w) 5 T.f_as_ratio T.fd_as_ratio ["thing"] (spAs K T.C_Ratio T.C_BN) := by
  refine T.F_as_ratio.okX sc_as_ratio (fun vs H Q E h => ?_) (fun cdv A outer s H vs Q E hr h => ?_)
  · obtain ⟨v, rfl, _⟩ := h; rfl
  · obtain ⟨v, rfl, h⟩ := h
    obtain ⟨ds1, hv_Ratio__init, hb_Ratio__init⟩ := T.b1_Ratio__init
    refine ⟨_, (pss_one (ps_ret (pe_ifExp (pt_val (pe_callB call_isi (by rfl) T.n_isinstance (by decide +kernel) (pa_cons (pv 0) (pa_cons (pe_glob (v := V.ref T.C_Ratio) (by rfl) T.g_Ratio rfl) pa_nil)))) (pv 0) (pe_make T.M_Ratio (ok_Ratio__init T) (hr.mono (by decide)) (by rfl) T.g_Ratio hb_Ratio__init hv_Ratio__init (passes_call (takes_of rfl rfl rfl rfl) (fun _ _ _ _ h => h)) (pa_cons (pv 0) pa_nil))))), ?_⟩
    walk_at "rd"
    rcases h with ⟨q, n, k⟩ | ⟨⟨t, ty, e, ni⟩, k⟩
    · obtain ⟨t, b, ty, e, hi, hr'⟩ := num_of T n
      refine RD.d_isi (.own _) ty e ?_
      walk_at "rd"
      cases b with
      | true =>
        obtain ⟨a, rfl, h⟩ := hr' rfl
        walk_at "rd"
        exact k a _ (Same.refl _) h
      | false =>
        obtain ⟨i, rfl, rfl⟩ := hi rfl
        walk_at "rd"
        refine mk_rat T (i := i) (j := 1) (by decide) (by decide +kernel) (fun x H6 s6 nx hx => ?_)
        exact k x _ s6 (by rw [rat_one] at hx; exact hx)
    · refine RD.d_isi (.own _) ty e ?_
      walk_at "rd"
      intro x dx nx ndx ne
      refine ⟨x, dx, v, .int 1, rfl, upd_same, .inl ⟨ni.same (same_made nx ndx ne), fun d hd => ?_⟩⟩
      have s1 := (same_made (C := T.C_Ratio) nx ndx ne)
      exact k d _ (s1.trans (same_upd hd)) (s1.free hd) upd_same
end

theorem wm {i j : Int} {m n : Nat} (h1 : i.natAbs < 2 ^ m) (h2 : j.natAbs < 2 ^ n) (h0 : 0 < m) (h3 : 0 < n) (h : m + n ≤ 1000000) : CMulW i j := wide_mul h1 h2 h0 h3 h
section
variable {P : Program} {w : World} {K : PySem.W.Frag} {mg : Str → Option Value} {base : Heap}
theorem ok_sum_of (T : Top K mg) : FnOk P w K mg base CX0 5 T.f_sum_of T.fd_sum_of ["one", "other"] (spTwo T.C_Ratio (· + ·)) := by
  refine T.F_sum_of.ok sc_sum_of (fun vs H Q E h => ?_) (fun cdv A outer s H vs Q E hr h => ?_)
  · obtain ⟨a, b, p, q, rfl, _⟩ := h; rfl
  · obtain ⟨a, b, p, q, rfl, ha, hb, bp, bq, k⟩ := h
    refine ⟨_, (pss_one (ps_ret (pe_make T.M_Ratio (ok_Ratio__init T) (hr.mono (by decide)) (by rfl) T.g_Ratio T.b_Ratio__init .nil OQ.passN (pa_cons (pe_op op_add (pe_op op_mulW (pe_fld (pv 0) (by rfl)) (pe_fld (pv 1) (by rfl))) (pe_op op_mulW (pe_fld (pv 1) (by rfl)) (pe_fld (pv 0) (by rfl)))) (pa_cons (pe_op op_mulW (pe_fld (pv 0) (by rfl)) (pe_fld (pv 1) (by rfl))) pa_nil))))), ?_⟩
    walk_at "rd"
    refine ratTop T ha ?_
    walk_at "rd"
    refine ratBottom T hb ?_
    walk_at "rd"
    refine RD.d_rI (wm bp.1 (den_bd bq) (by decide) (by decide) (by decide)) ?_
    walk_at "rd"
    refine ratTop T hb ?_
    walk_at "rd"
    refine ratBottom T ha ?_
    walk_at "rd"
    refine RD.d_rI (wm bq.1 (den_bd bp) (by decide) (by decide) (by decide)) ?_
    walk_at "rd"
    refine ratBottom T ha ?_
    walk_at "rd"
    refine ratBottom T hb ?_
    walk_at "rd"
    refine RD.d_rI (wm (den_bd bp) (den_bd bq) (by decide) (by decide) (by decide)) ?_
    walk_at "rd"
    refine mk_rat T spare (log_of (wide_lt (den_bd bp) (den_bd bq)) (by decide)) (fun x H6 s6 nx hx => ?_)
    rw [rat_add] at hx
    exact k x _ s6 hx
theorem ok_product_of (T : Top K mg) : FnOk P w K mg base CX0 5 T.f_product_of T.fd_product_of ["one", "other"] (spTwo T.C_Ratio (· * ·)) := by
  refine T.F_product_of.ok sc_product_of (fun vs H Q E h => ?_) (fun cdv A outer s H vs Q E hr h => ?_)
  · obtain ⟨a, b, p, q, rfl, _⟩ := h; rfl
  · obtain ⟨a, b, p, q, rfl, ha, hb, bp, bq, k⟩ := h
    refine ⟨_, (pss_one (ps_ret (pe_make T.M_Ratio (ok_Ratio__init T) (hr.mono (by decide)) (by rfl) T.g_Ratio T.b_Ratio__init .nil OQ.passN (pa_cons (pe_op op_mulW (pe_fld (pv 0) (by rfl)) (pe_fld (pv 1) (by rfl))) (pa_cons (pe_op op_mulW (pe_fld (pv 0) (by rfl)) (pe_fld (pv 1) (by rfl))) pa_nil))))), ?_⟩
    walk_at "rd"
    refine ratTop T ha ?_
    walk_at "rd"
    refine ratTop T hb ?_
    walk_at "rd"
    refine RD.d_rI (wm bp.1 bq.1 (by decide) (by decide) (by decide)) ?_
    walk_at "rd"
    refine ratBottom T ha ?_
    walk_at "rd"
    refine ratBottom T hb ?_
    walk_at "rd"
    refine RD.d_rI (wm (den_bd bp) (den_bd bq) (by decide) (by decide) (by decide)) ?_
    walk_at "rd"
    refine mk_rat T spare (log_of (wide_lt (den_bd bp) (den_bd bq)) (by decide)) (fun x H6 s6 nx hx => ?_)
    rw [rat_mul] at hx
    exact k x _ s6 hx
theorem ok_Ratio__add (T : Top K mg) : FnOk P w K mg base CX0 7 T.f_Ratio__add T.fd_Ratio__add ["self", "other"] (spOp T.C_Ratio (fun p q => p + q)) := by
  refine T.F_Ratio__add.ok sc_Ratio__add (fun vs H Q E h => ?_) (fun cdv A outer s H vs Q E hr h => ?_)
  · obtain ⟨a, y, p, q, rfl, _⟩ := h; rfl
  · obtain ⟨a, y, p, q, rfl, ha, n, bp, bq, k⟩ := h
    refine ⟨_, (pss_cons (ps_if (pt_not (pt_val (pe_call (ok_is_number T) (hr.mono (by decide)) (by rfl) T.g_is_number T.F_is_number.kp T.b_is_number .nil pass0 (pa_cons (pv 1) pa_nil))))
 (pss_one ps_never)
 pss_nil)
 (pss_one (ps_ret (pe_call (ok_sum_of T) (hr.mono (by decide)) (by rfl) T.g_sum_of T.F_sum_of.kp T.b_sum_of .nil pass0 (pa_cons (pv 0) (pa_cons (pe_call (ok_as_ratio T) (hr.mono (by decide)) (by rfl) T.g_as_ratio T.F_as_ratio.kp T.b_as_ratio .nil OQ.passN (pa_cons (pv 1) pa_nil)) pa_nil)))))), ?_⟩
    walk_at "rd"
    refine ⟨y, q, rfl, n, ?_⟩
    walk_at "rd"
    refine ⟨y, rfl, .inl ⟨q, n, fun b H6 s6 hb => ?_⟩⟩
    walk_at "rd"
    refine ⟨a, b, p, q, rfl, ha.same s6, hb, bp, bq, fun z H8 s8 hz => ?_⟩
    walk_at "rd"
    exact k z _ (s6.trans s8) hz
theorem ok_Ratio__mul (T : Top K mg) : FnOk P w K mg base CX0 7 T.f_Ratio__mul T.fd_Ratio__mul ["self", "other"] (spOp T.C_Ratio (fun p q => p * q)) := by
  refine T.F_Ratio__mul.ok sc_Ratio__mul (fun vs H Q E h => ?_) (fun cdv A outer s H vs Q E hr h => ?_)
  · obtain ⟨a, y, p, q, rfl, _⟩ := h; rfl
  · obtain ⟨a, y, p, q, rfl, ha, n, bp, bq, k⟩ := h
    refine ⟨_, (pss_cons (ps_if (pt_not (pt_val (pe_call (ok_is_number T) (hr.mono (by decide)) (by rfl) T.g_is_number T.F_is_number.kp T.b_is_number .nil pass0 (pa_cons (pv 1) pa_nil))))
 (pss_one ps_never)
 pss_nil)
 (pss_one (ps_ret (pe_call (ok_product_of T) (hr.mono (by decide)) (by rfl) T.g_product_of T.F_product_of.kp T.b_product_of .nil pass0 (pa_cons (pv 0) (pa_cons (pe_call (ok_as_ratio T) (hr.mono (by decide)) (by rfl) T.g_as_ratio T.F_as_ratio.kp T.b_as_ratio .nil OQ.passN (pa_cons (pv 1) pa_nil)) pa_nil)))))), ?_⟩
    walk_at "rd"
    refine ⟨y, q, rfl, n, ?_⟩
    walk_at "rd"
    refine ⟨y, rfl, .inl ⟨q, n, fun b H6 s6 hb => ?_⟩⟩
    walk_at "rd"
    refine ⟨a, b, p, q, rfl, ha.same s6, hb, bp, bq, fun z H8 s8 hz => ?_⟩
    walk_at "rd"
    exact k z _ (s6.trans s8) hz
end

/-! ### Numbers, Lengths, a reckoning's == -/
/-- another rule of is_number: of anything -/
def spIsNum (K : PySem.W.Frag) (C : Addr) : Sp := fun vs H Q _ => ∃ (v : V) (b : Bool), vs = [v] ∧ ((b = true ∧ ∃ q, Num C H v q) ∨ (b = false ∧ NoNum K C H v)) ∧ Q (.bl b) H
/-- Numbers() at x -/
def NumsAt (C CR : Addr) (H : Hp) (x : Addr) : Prop := ∃ dx a b, H x = some (.ins C dx [("none", .ref a), ("one", .ref b)]) ∧ RatAt CR H a 0 ∧ RatAt CR H b 1
theorem NumsAt.same {C CR : Addr} {H H' : Hp} {x : Addr} (h : NumsAt C CR H x) (s : Same H H') : NumsAt C CR H' x := by
  obtain ⟨dx, a, b, e, r1, r2⟩ := h
  exact ⟨dx, a, b, s _ _ e, r1.same s, r2.same s⟩
def spNumsI (C CR : Addr) : Sp := fun vs H Q _ => ∃ (x dx : Addr), vs = [.ref x] ∧ H x = some (.ins C dx []) ∧ ∀ H', Kx x H H' → NumsAt C CR H' x → Q .non H'
def spIsOf (K : PySem.W.Frag) (C : Addr) : Sp := fun vs H Q _ => ∃ (s x : V) (t : Value) (b : Bool), vs = [s, x] ∧ TyX K H x t ∧ PySem.W.kitOne K t (.ref C) = some b ∧ Q (.bl b) H
def spIsW (K : PySem.W.Frag) (C : Addr) : Sp := fun vs H Q _ => ∃ (s v : V) (b : Bool), vs = [s, v] ∧ ((b = true ∧ ∃ q, Num C H v q) ∨ (b = false ∧ NoNum K C H v)) ∧ Q (.bl b) H
def LenAt (C : Addr) (H : Hp) (x : Addr) : Prop := ∃ dx, H x = some (.ins C dx [("none", .non), ("one", .int 0)])
def spLenI (C : Addr) : Sp := fun vs H Q _ => ∃ (x dx : Addr), vs = [.ref x] ∧ H x = some (.ins C dx []) ∧ ∀ H', Kx x H H' → LenAt C H' x → Q .non H'
section
variable {P : Program} {w : World} {K : PySem.W.Frag} {mg : Str → Option Value} {base : Heap}
theorem ok_is_number2 (T : Top K mg) : FnOk P w K mg base CX0 2 T.f_is_number T.fd_is_number ["thing"] (spIsNum K T.C_Ratio) := by
  refine T.F_is_number.ok sc_is_number (fun vs H Q E h => ?_) (fun cdv A outer s H vs Q E hr h => ?_)
  · obtain ⟨v, b, rfl, _⟩ := h; rfl
  · obtain ⟨v, b, rfl, n, k⟩ := h
    refine ⟨_, (pss_one (ps_ret (pe_or (pe_callB call_isi (by rfl) T.n_isinstance (by decide +kernel) (pa_cons (pv 0) (pa_cons (pe_glob (v := V.ref T.C_Ratio) (by rfl) T.g_Ratio rfl) pa_nil))) (pe_one (pe_call (ok_is_integer T) (hr.mono (by decide)) (by rfl) T.g_is_integer T.F_is_integer.kp T.b_is_integer .nil pass0 (pa_cons (pv 0) pa_nil)))))), ?_⟩
    walk_at "rd"
    rcases n with ⟨rfl, q, n⟩ | ⟨rfl, t, ty, e, ni⟩
    · obtain ⟨t, c, ty, e, hi, _⟩ := num_of T n
      refine RD.d_isi (.own _) ty e ?_
      walk_at "rd"
      cases c with
      | true => walk_at "rd"; exact k
      | false =>
        obtain ⟨i, rfl, _⟩ := hi rfl
        walk_at "rd"
        exact ⟨.int i, true, rfl, isI_int i, k⟩
    · refine RD.d_isi (.own _) ty e ?_
      walk_at "rd"
      exact ⟨v, false, rfl, ni, k⟩
theorem ok_Numbers__eq (T : Top K mg) : FnOk P w K mg base CX0 2 T.f_Numbers__eq T.fd_Numbers__eq ["self", "other"] (spIsOf K T.C_Numbers) := by
  refine T.F_Numbers__eq.ok sc_Numbers__eq (fun vs H Q E h => ?_) (fun cdv A outer s H vs Q E hr h => ?_)
  · obtain ⟨z, x, t, b, rfl, _⟩ := h; rfl
  · obtain ⟨z, x, t, b, rfl, ty, e, k⟩ := h
    refine ⟨_, (pss_one (ps_ret (pe_callB call_isi (by rfl) T.n_isinstance (by decide +kernel) (pa_cons (pv 1) (pa_cons (pe_glob (v := V.ref T.C_Numbers) (by rfl) T.g_Numbers rfl) pa_nil))))), ?_⟩
    walk_at "rd"
    exact RD.d_isi (.own _) ty e k
theorem ok_Lengths__eq (T : Top K mg) : FnOk P w K mg base CX0 2 T.f_Lengths__eq T.fd_Lengths__eq ["self", "other"] (spIsOf K T.C_Lengths) := by
  refine T.F_Lengths__eq.ok sc_Lengths__eq (fun vs H Q E h => ?_) (fun cdv A outer s H vs Q E hr h => ?_)
  · obtain ⟨z, x, t, b, rfl, _⟩ := h; rfl
  · obtain ⟨z, x, t, b, rfl, ty, e, k⟩ := h
    refine ⟨_, (pss_one (ps_ret (pe_callB call_isi (by rfl) T.n_isinstance (by decide +kernel) (pa_cons (pv 1) (pa_cons (pe_glob (v := V.ref T.C_Lengths) (by rfl) T.g_Lengths rfl) pa_nil))))), ?_⟩
    walk_at "rd"
    exact RD.d_isi (.own _) ty e k
theorem ok_Numbers_is_worth (T : Top K mg) : FnOk P w K mg base CX0 4 T.f_Numbers_is_worth T.fd_Numbers_is_worth ["self", "thing"] (spIsW K T.C_Ratio) := by
  refine T.F_Numbers_is_worth.ok sc_Numbers_is_worth (fun vs H Q E h => ?_) (fun cdv A outer s H vs Q E hr h => ?_)
  · obtain ⟨z, v, b, rfl, _⟩ := h; rfl
  · obtain ⟨z, v, b, rfl, n, k⟩ := h
    refine ⟨_, (pss_one (ps_ret (pe_call (ok_is_number2 T) (hr.mono (by decide)) (by rfl) T.g_is_number T.F_is_number.kp T.b_is_number .nil pass0 (pa_cons (pv 1) pa_nil)))), ?_⟩
    walk_at "rd"
    exact ⟨v, b, rfl, n, k⟩
theorem ok_Lengths__init (T : Top K mg) : FnOk P w K mg base CX0 2 T.f_Lengths__init T.fd_Lengths__init ["self"] (spLenI T.C_Lengths) := by
  refine T.F_Lengths__init.ok sc_Lengths__init (fun vs H Q E h => ?_) (fun cdv A outer s H vs Q E hr h => ?_)
  · obtain ⟨x, dx, rfl, _⟩ := h; rfl
  · obtain ⟨x, dx, rfl, ex, k⟩ := h
    refine ⟨_, (pss_cons (ps_fld (pv 0) pe_non rfl)
 (pss_one (ps_fld (pv 0) pe_int rfl))), ?_⟩
    walk_at "rd"
    refine ⟨x, T.C_Lengths, dx, _, rfl, ex, T.cl_Lengths, T.na_Lengths_none, by show 0 < 1000; decide, ?_⟩
    walk_at "rd"
    refine ⟨x, T.C_Lengths, dx, _, rfl, upd_same, T.cl_Lengths, T.na_Lengths_one, by show 1 < 1000; decide, ?_⟩
    rw [upd_upd]
    refine k _ kx_upd ⟨dx, ?_⟩
    rw [upd_same, putF_none, putF_ne (by decide +kernel), putF_none]
theorem ok_Numbers__init (T : Top K mg) : FnOk P w K mg base CX0 6 T.f_Numbers__init T.fd_Numbers__init ["self"] (spNumsI T.C_Numbers T.C_Ratio) := by
  refine T.F_Numbers__init.ok sc_Numbers__init (fun vs H Q E h => ?_) (fun cdv A outer s H vs Q E hr h => ?_)
  · obtain ⟨x, dx, rfl, _⟩ := h; rfl
  · obtain ⟨x, dx, rfl, ex, k⟩ := h
    obtain ⟨ds1, hv_Ratio__init, hb_Ratio__init⟩ := T.b1_Ratio__init
    refine ⟨_, (pss_cons (ps_fld (pv 0) (pe_make T.M_Ratio (ok_Ratio__init T) (hr.mono (by decide)) (by rfl) T.g_Ratio hb_Ratio__init hv_Ratio__init OQ.passN (pa_cons pe_int pa_nil)) rfl)
 (pss_one (ps_fld (pv 0) (pe_make T.M_Ratio (ok_Ratio__init T) (hr.mono (by decide)) (by rfl) T.g_Ratio hb_Ratio__init hv_Ratio__init OQ.passN (pa_cons pe_int pa_nil)) rfl))), ?_⟩
    walk_at "rd"
    refine mk_rat T (i := 0) (j := 1) (by decide) (by decide +kernel) (fun a H1 s1 na ha => ?_)
    have nx : x ≠ a := ne_of_none ex na
    replace ex := s1 _ _ ex
    walk_at "rd"
    refine ⟨x, T.C_Numbers, dx, _, rfl, ex, T.cl_Numbers, T.na_Numbers_none, by show 0 < 1000; decide, ?_⟩
    rw [putF_none]
    have ha2 : RatAt T.C_Ratio (upd H1 x (.ins T.C_Numbers dx [("none", .ref a)])) a 0 := by
      obtain ⟨d, e⟩ := ha
      rw [rat_one] at e
      exact ⟨d, by rw [upd_ne (Ne.symm nx)]; exact e⟩
    have k1 : Kx x H (upd H1 x (.ins T.C_Numbers dx [("none", .ref a)])) := Kx.trans (Same.kx s1) kx_upd
    have ex2 : upd H1 x (.ins T.C_Numbers dx [("none", .ref a)]) x = some (.ins T.C_Numbers dx [("none", .ref a)]) := upd_same
    generalize upd H1 x (.ins T.C_Numbers dx [("none", .ref a)]) = H2 at *
    walk_at "rd"
    refine mk_rat T (i := 1) (j := 1) (by decide) (by decide +kernel) (fun b H3 s3 nb hb => ?_)
    have nx2 : x ≠ b := ne_of_none ex2 nb
    replace ex2 := s3 _ _ ex2
    replace ha2 := ha2.same s3
    walk_at "rd"
    refine ⟨x, T.C_Numbers, dx, _, rfl, ex2, T.cl_Numbers, T.na_Numbers_one, by show 1 < 1000; decide, ?_⟩
    refine k _ ((k1.trans (Same.kx s3)).trans kx_upd) ⟨dx, a, b, ?_, ?_, ?_⟩
    · rw [upd_same, putF_ne (by decide +kernel), putF_none]
    · obtain ⟨d, e⟩ := ha2
      exact ⟨d, by rw [upd_ne (Ne.symm nx)]; exact e⟩
    · obtain ⟨d, e⟩ := hb
      rw [rat_one] at e
      exact ⟨d, by rw [upd_ne (Ne.symm nx2)]; exact e⟩
end
section
variable {P : Program} {w : World} {K : PySem.W.Frag} {mg : Str → Option Value} {base : Heap}
/-- what is refused, of two -/
def spCheck (K : PySem.W.Frag) (C CR BW : Addr) : Sp := fun vs H Q E => ∃ (s : Addr) (a b : V), vs = [.ref s, a, b] ∧ (∃ dx fs, H s = some (.ins C dx fs) ∧ fs.lookup ("is_worth" : Str) = none) ∧
  ((∃ p q, Num CR H a p ∧ Num CR H b q ∧ ∀ H', Same H H' → Q .non H') ∨ (NoNum K CR H a ∧ ∀ d H', Same H H' → H d = none → H' d = some (ErrD a) → E (.ref BW) (some d) H') ∨
   (∃ p, Num CR H a p ∧ NoNum K CR H b ∧ ∀ d H', Same H H' → H d = none → H' d = some (ErrD b) → E (.ref BW) (some d) H'))
theorem ok_check_worths (T : Top K mg) : FnOk P w K mg base (L2.CX P w) 6 T.f_check_worths T.fd_check_worths ["reckoning", "first", "second"] (spCheck K T.C_Numbers T.C_Ratio T.C_BW) := by
  refine T.F_check_worths.okX sc_check_worths (fun vs H Q E h => ?_) (fun cdv A outer s H vs Q E hr h => ?_)
  · obtain ⟨z, a, b, rfl, _⟩ := h; rfl
  · obtain ⟨z, a, b, rfl, ⟨dx, fs, ez, lz⟩, h⟩ := h
    refine ⟨_, (pss_one (ps_for (passes_of rfl) rfl (pi_tup (pe_tup (pa_cons (pv 1) (pa_cons (pv 2) pa_nil)))) (pg_name (i := 3) sc_check_worths.nd rfl (Or.inl rfl))
 (pss_one (ps_if (pt_not (pt_val (pe_meth (pv 0) T.cl_Numbers T.m_Numbers_is_worth (ok_Numbers_is_worth T) (hr.mono (by decide)) T.b_Numbers_is_worth .nil pass0 (pa_cons (pv 3) pa_nil))))
 (pss_one (ps_raise rfl (takes_of rfl rfl rfl rfl) (pmk_oex T.oex_BadWorth T.i_BadWorth T.tI (ok_WayError__init T) (hr.mono (by decide)) T.b_WayError__init .nil pass0 (by rfl) T.g_BadWorth (pa_cons (pv 3) pa_nil))))
 pss_nil)))), ?_⟩
    walk_at "rd"
    refine d_iTup ?_
    walk_at "rd"
    refine ⟨by show 2 ≤ sizeLine; decide, fun tp htp => ?_⟩
    have s1 := same_upd (o := HO.tup [a, b]) htp
    have et : upd H tp (.tup [a, b]) tp = some (.tup [a, b]) := upd_same
    have ez1 := s1 _ _ ez
    refine ⟨tp, rfl, ⟨_, SqT.of et⟩, ?_⟩
    generalize upd H tp (.tup [a, b]) = H1 at *
    obtain ⟨tag, h⟩ : ∃ tag : Nat, (tag = 2 ∧ ∃ p q, Num T.C_Ratio H a p ∧ Num T.C_Ratio H b q ∧ ∀ H', Same H H' → Q .non H') ∨ (tag = 0 ∧ NoNum K T.C_Ratio H a ∧ ∀ d H', Same H H' → H d = none → H' d = some (ErrD a) → E (.ref T.C_BW) (some d) H') ∨
        (tag = 1 ∧ ∃ p, Num T.C_Ratio H a p ∧ NoNum K T.C_Ratio H b ∧ ∀ d H', Same H H' → H d = none → H' d = some (ErrD b) → E (.ref T.C_BW) (some d) H') :=
      h.elim (fun h => ⟨2, .inl ⟨rfl, h⟩⟩) fun h => h.elim (fun h => ⟨0, .inr (.inl ⟨rfl, h⟩)⟩) fun h => ⟨1, .inr (.inr ⟨rfl, h⟩)⟩
    refine RD.f_tup (K := K) (a := tp) (xs := [a, b]) (fun i σ' H' => H' = H1 ∧ (∃ v, σ' = [some (.ref z), some a, some b, v]) ∧ i ≤ tag) ⟨rfl, ⟨none, rfl⟩, Nat.zero_le _⟩ ?_ ?_ ?_
    · rintro i σ' H' _ ⟨rfl, _⟩
      exact SqT.of et
    · rintro i x σ' H' hi ⟨rfl, ⟨v, rfl⟩, h1⟩
      have il : i < 2 := (List.getElem?_eq_some_iff.mp hi).1
      have raise : ∀ {y : V}, NoNum K T.C_Ratio H y → (∀ d H', Same H H' → H d = none → H' d = some (ErrD y) → E (.ref T.C_BW) (some d) H') → [y].length ≤ 1000 ∧ ∀ c, H' c = none → spWE K (.ref c :: ([y] ++ [])) (upd H' c (exo c T.C_BW none))
          (fun u H2 => u = .non ∧ ∃ (d : Addr) (fs : List (Str × V)), H2 c = some (exo c T.C_BW (some d)) ∧ H2 d = some (exd d fs) ∧ H' d = none ∧ E (.ref T.C_BW) (some d) (upd (del H2 c) d (.xd fs))) (fun _ _ _ => False) := fun _ k =>
        d_mkO (R := E) T.oex_BadWorth T.v_BadWorth fun d hd => k d _ (s1.trans (same_upd hd)) (s1.free hd) upd_same
      rcases i with _ | i
      · cases hi
        walk_at "rd"
        refine ⟨z, dx, fs, rfl, ez1, lz, ?_⟩
        walk_at "rd"
        rcases h with ⟨et2, p, q, na, nb, k⟩ | ⟨et2, no, k⟩ | ⟨et2, p, na, no, k⟩
        · refine ⟨_, a, true, rfl, .inl ⟨rfl, p, na.same s1⟩, ?_⟩
          walk_at "rd"
          exact ⟨rfl, ⟨_, rfl⟩, by omega⟩
        · refine ⟨_, a, false, rfl, .inr ⟨rfl, no.same s1⟩, ?_⟩
          walk_at "rd"
          exact raise no k
        · refine ⟨_, a, true, rfl, .inl ⟨rfl, p, na.same s1⟩, ?_⟩
          walk_at "rd"
          exact ⟨rfl, ⟨_, rfl⟩, by omega⟩
      · have i0 : i = 0 := by omega
        subst i0
        cases hi
        walk_at "rd"
        refine ⟨z, dx, fs, rfl, ez1, lz, ?_⟩
        walk_at "rd"
        rcases h with ⟨et2, p, q, na, nb, k⟩ | ⟨et2, no, k⟩ | ⟨et2, p, na, no, k⟩
        · refine ⟨_, b, true, rfl, .inl ⟨rfl, q, nb.same s1⟩, ?_⟩
          walk_at "rd"
          exact ⟨rfl, ⟨_, rfl⟩, by omega⟩
        · exact absurd h1 (by omega)
        · refine ⟨_, b, false, rfl, .inr ⟨rfl, no.same s1⟩, ?_⟩
          walk_at "rd"
          exact raise no k
    · rintro σ' H' ⟨rfl, ⟨v, rfl⟩, h1⟩
      have h1' : 2 ≤ tag := h1
      rcases h with ⟨et2, p, q, na, nb, k⟩ | ⟨et2, no, k⟩ | ⟨et2, p, na, no, k⟩
      · exact k _ s1
      · exact absurd h1' (by omega)
      · exact absurd h1' (by omega)
/-- join, times -/
def spNumOp (K : PySem.W.Frag) (C CR BW : Addr) (g : Rat → Rat → Rat) : Sp := fun vs H Q E => ∃ (s : Addr) (a b : V), vs = [.ref s, a, b] ∧ NumsAt C CR H s ∧
  ((∃ p q, Num CR H a p ∧ Num CR H b q ∧ Bd 2000 p ∧ Bd 2000 q ∧ ∀ c H', Same H H' → RatAt CR H' c (g p q) → Q (.ref c) H') ∨ (NoNum K CR H a ∧ ∀ d H', Same H H' → H d = none → H' d = some (ErrD a) → E (.ref BW) (some d) H') ∨
   (∃ p, Num CR H a p ∧ NoNum K CR H b ∧ ∀ d H', Same H H' → H d = none → H' d = some (ErrD b) → E (.ref BW) (some d) H'))
theorem own_op {C : Addr} {g : Rat → Rat → Rat} {E : XK} {H : Hp} {Q : VK} {a b : Addr} {p q : Rat} (ha : RatAt C H a p) (hb : RatAt C H b q) (bp : Bd 2000 p) (bq : Bd 2000 q) (k : ∀ z H', Same H H' → RatAt C H' z (g p q) → Q (.ref z) H') :
    OQ.rOwnB C (spOp C g) E (.ref a) (.ref b) H Q := by
  obtain ⟨dx, ea⟩ := id ha
  obtain ⟨dy, eb⟩ := id hb
  exact ⟨a, dx, _, rfl, ea, .inl ⟨b, dy, _, rfl, eb⟩, a, .ref b, p, q, rfl, ha, .inl ⟨b, rfl, hb⟩, bp, bq, k⟩
theorem ok_Numbers_join (T : Top K mg) : FnOk P w K mg base (L2.CX P w) 9 T.f_Numbers_join T.fd_Numbers_join ["self", "a", "b"] (spNumOp K T.C_Numbers T.C_Ratio T.C_BW (fun p q => p + q)) := by
  refine T.F_Numbers_join.okX sc_Numbers_join (fun vs H Q E h => ?_) (fun cdv A outer s H vs Q E hr h => ?_)
  · obtain ⟨z, a, b, rfl, _⟩ := h; rfl
  · obtain ⟨z, a, b, rfl, hz, h⟩ := h
    obtain ⟨dz, ra, rb, ez, _⟩ := id hz
    refine ⟨_, (pss_cons (ps_expr (pe_call (ok_check_worths T) (hr.mono (by decide)) (by rfl) T.g_check_worths T.F_check_worths.kp T.b_check_worths .nil (passes_call (takes_of rfl rfl rfl rfl) (fun _ _ _ _ h => h)) (pa_cons (pv 0) (pa_cons (pv 1) (pa_cons (pv 2) pa_nil)))))
 (pss_one (ps_ret (pe_op (OQ.op_ownB (ok_Ratio__add T) (hr.mono (by decide)) T.sfR (T.at_add) T.m_Ratio__add.fn T.at_radd T.ia_add T.ib_add T.subIR T.b_Ratio__add pass0) (pe_call (ok_as_ratio T) (hr.mono (by decide)) (by rfl) T.g_as_ratio T.F_as_ratio.kp T.b_as_ratio .nil (passes_call (takes_of rfl rfl rfl rfl) (fun _ _ _ _ h => h)) (pa_cons (pv 1) pa_nil)) (pe_call (ok_as_ratio T) (hr.mono (by decide)) (by rfl) T.g_as_ratio T.F_as_ratio.kp T.b_as_ratio .nil (passes_call (takes_of rfl rfl rfl rfl) (fun _ _ _ _ h => h)) (pa_cons (pv 2) pa_nil)))))), ?_⟩
    walk_at "rd"
    refine ⟨z, a, b, rfl, ⟨dz, _, ez, (lk_ne (by decide +kernel)).trans (lk_ne (by decide +kernel))⟩, ?_⟩
    rcases h with ⟨p, q, na, nb, bp, bq, k⟩ | ⟨no, k⟩ | ⟨p, na, no, k⟩
    · refine .inl ⟨p, q, na, nb, fun H1 s1 => ?_⟩
      walk_at "rd"
      refine ⟨a, rfl, .inl ⟨p, na.same s1, fun x H2 s2 hx => ?_⟩⟩
      walk_at "rd"
      refine ⟨b, rfl, .inl ⟨q, (nb.same s1).same s2, fun y H3 s3 hy => ?_⟩⟩
      walk_at "rd"
      exact own_op (hx.same s3) hy bp bq fun c H4 s4 hc => k c H4 (((s1.trans s2).trans s3).trans s4) hc
    · exact .inr (.inl ⟨no, k⟩)
    · exact .inr (.inr ⟨p, na, no, k⟩)
theorem ok_Numbers_times (T : Top K mg) : FnOk P w K mg base (L2.CX P w) 9 T.f_Numbers_times T.fd_Numbers_times ["self", "a", "b"] (spNumOp K T.C_Numbers T.C_Ratio T.C_BW (fun p q => p * q)) := by
  refine T.F_Numbers_times.okX sc_Numbers_times (fun vs H Q E h => ?_) (fun cdv A outer s H vs Q E hr h => ?_)
  · obtain ⟨z, a, b, rfl, _⟩ := h; rfl
  · obtain ⟨z, a, b, rfl, hz, h⟩ := h
    obtain ⟨dz, ra, rb, ez, _⟩ := id hz
    refine ⟨_, (pss_cons (ps_expr (pe_call (ok_check_worths T) (hr.mono (by decide)) (by rfl) T.g_check_worths T.F_check_worths.kp T.b_check_worths .nil (passes_call (takes_of rfl rfl rfl rfl) (fun _ _ _ _ h => h)) (pa_cons (pv 0) (pa_cons (pv 1) (pa_cons (pv 2) pa_nil)))))
 (pss_one (ps_ret (pe_op (OQ.op_ownB (ok_Ratio__mul T) (hr.mono (by decide)) T.sfR (T.at_mul) T.m_Ratio__mul.fn T.at_rmul T.ia_mul T.ib_mul T.subIR T.b_Ratio__mul pass0) (pe_call (ok_as_ratio T) (hr.mono (by decide)) (by rfl) T.g_as_ratio T.F_as_ratio.kp T.b_as_ratio .nil (passes_call (takes_of rfl rfl rfl rfl) (fun _ _ _ _ h => h)) (pa_cons (pv 1) pa_nil)) (pe_call (ok_as_ratio T) (hr.mono (by decide)) (by rfl) T.g_as_ratio T.F_as_ratio.kp T.b_as_ratio .nil (passes_call (takes_of rfl rfl rfl rfl) (fun _ _ _ _ h => h)) (pa_cons (pv 2) pa_nil)))))), ?_⟩
    walk_at "rd"
    refine ⟨z, a, b, rfl, ⟨dz, _, ez, (lk_ne (by decide +kernel)).trans (lk_ne (by decide +kernel))⟩, ?_⟩
    rcases h with ⟨p, q, na, nb, bp, bq, k⟩ | ⟨no, k⟩ | ⟨p, na, no, k⟩
    · refine .inl ⟨p, q, na, nb, fun H1 s1 => ?_⟩
      walk_at "rd"
      refine ⟨a, rfl, .inl ⟨p, na.same s1, fun x H2 s2 hx => ?_⟩⟩
      walk_at "rd"
      refine ⟨b, rfl, .inl ⟨q, (nb.same s1).same s2, fun y H3 s3 hy => ?_⟩⟩
      walk_at "rd"
      exact own_op (hx.same s3) hy bp bq fun c H4 s4 hc => k c H4 (((s1.trans s2).trans s3).trans s4) hc
    · exact .inr (.inl ⟨no, k⟩)
    · exact .inr (.inr ⟨p, na, no, k⟩)
end

section
variable {P : Program} {w : World} {K : PySem.W.Frag} {mg : Str → Option Value} {base : Heap}
theorem ok_law_draw (T : Top K mg) : FnOk P w K mg base CX0 1 T.f_law_draw T.fd_law_draw ["hand", "many"] spDraw := by
  refine T.F_law_draw.ok sc_law_draw (fun vs H Q E h => ?_) (fun cdv A outer s H vs Q E hr h => ?_)
  · obtain ⟨h, c, many, rfl, _⟩ := h; rfl
  · obtain ⟨h, c, many, rfl, ⟨cs, p, q, m, n, e1, e2, ne, hp⟩, m0, ml, k⟩ := h
    refine ⟨_, (C8.pss_cut (ps_if (PW.pt (pw_and (pt_cmpR op_eq (pe_ix ix_list (pv 0) pe_int (fun _ _ => rfl)) pe_int (nomark _)) (pw_and1 (pt_cmpR op_lt (pe_ix ix_list (pv 0) pe_int (fun _ _ => rfl)) (pe_callB RD.c_len (by rfl) T.n_len (by decide +kernel) (pa_cons (pe_ix ix_list (pv 0) pe_int (fun _ _ => rfl)) pa_nil)) (nomark _)))))
 (pss_cons (ps_set (i := 2) sc_law_draw.nd rfl (Or.inl rfl) (pe_ix ix_list (pe_ix ix_list (pv 0) pe_int (fun _ _ => rfl)) (pe_ix ix_list (pv 0) pe_int (fun _ _ => rfl)) (fun _ _ => rfl)))
 (pss_cons (ps_asg (pe_op op_add (pe_ix ix_list (pv 0) pe_int (fun _ _ => rfl)) pe_int) (pg_sub (pv 0) pe_int set_list))
 (pss_cons (ps_asg (pe_op op_mod (pe_callTy RD.c_int (by rfl) T.n_int (by decide +kernel) (pa_cons (pe_op op_add (pe_op op_add (pe_op op_mul (pe_ix ix_list (pv 0) pe_int (fun _ _ => rfl)) pe_int) (pv 2)) pe_int) pa_nil)) pe_int) (pg_sub (pv 0) pe_int set_list))
 (pss_one (ps_if (pt_cmpR op_ge (pv 2) (pe_op op_pow pe_int pe_int) (nomark _))
 (pss_one (ps_asg (pv 2) (pg_sub (pv 0) pe_int set_list)))
 pss_nil)))))
 pss_nil)
 (pss_cons (ps_if (pt_cmpR op_gt (pe_ix ix_list (pv 0) pe_int (fun _ _ => rfl)) pe_int (nomark _))
 (pss_cons (ps_set (i := 3) sc_law_draw.nd rfl (Or.inl rfl) (pe_op op_mod (pe_callTy RD.c_int (by rfl) T.n_int (by decide +kernel) (pa_cons (pe_ix ix_list (pv 0) pe_int (fun _ _ => rfl)) pa_nil)) (pv 1)))
 (pss_cons (ps_asg (pe_op op_fdivW (pe_ix ix_list (pv 0) pe_int (fun _ _ => rfl)) (pv 1)) (pg_sub (pv 0) pe_int set_list))
 (pss_one (ps_ret (pv 3)))))
 pss_nil)
 (pss_cons (ps_asg (pe_op op_add (pe_ix ix_list (pv 0) pe_int (fun _ _ => rfl)) pe_int) (pg_sub (pv 0) pe_int set_list))
 (pss_cons (ps_set (i := 4) sc_law_draw.nd rfl (Or.inl rfl) (pe_op op_mod (pe_callTy RD.c_int (by rfl) T.n_int (by decide +kernel) (pa_cons (pe_op op_mul (pe_callTy RD.c_int (by rfl) T.n_int (by decide +kernel) (pa_cons (pe_op op_add (pe_ix ix_list (pv 0) pe_int (fun _ _ => rfl)) (pe_op op_mul pe_int (pe_ix ix_list (pv 0) pe_int (fun _ _ => rfl)))) pa_nil)) pe_int) pa_nil)) pe_int))
 (pss_cons (ps_set (i := 4) sc_law_draw.nd rfl (Or.inl rfl) (pe_op op_mod (pe_callTy RD.c_int (by rfl) T.n_int (by decide +kernel) (pa_cons (pe_op op_mul (pv 4) (pe_op op_add (pe_op op_fdivW (pv 4) pe_int) pe_int)) pa_nil)) pe_int))
 (pss_cons (ps_set (i := 4) sc_law_draw.nd rfl (Or.inl rfl) (pe_op op_mod (pe_callTy RD.c_int (by rfl) T.n_int (by decide +kernel) (pa_cons (pe_op op_mul (pv 4) (pe_op op_add (pe_op op_fdivW (pv 4) pe_int) pe_int)) pa_nil)) pe_int))
 (pss_one (ps_ret (pe_op op_mod (pe_callTy RD.c_int (by rfl) T.n_int (by decide +kernel) (pa_cons (pe_op op_fdivW (pv 4) pe_int) pa_nil)) (pv 1)))))))))), ?_⟩
    unfold handV at e1
    refine RD.d_cut (fun σ' H' => ∃ x p' q' m', σ' = [some (.ref h), some (.int many), x, none, none] ∧ H' = upd H h (.lst [.ref c, .int p', .int q', .int m', .int n]) ∧ 0 ≤ p') ?_ ?_
    · walk_at "rd"
      refine RD.iteD (fun c1 => ?_) (fun c1 => ?_)
      · walk_at "rd"
        refine RD.iteD (fun c2 => ?_) (fun c2 => ?_)
        · have hl : p.toNat < cs.length := by rw [List.length_map] at c2; omega
          have hg : (cs.map V.int)[p.toNat]? = some (V.int cs[p.toNat]) := by simp [hl]
          have ha : atI (cs.map V.int) p = some (V.int cs[p.toNat]) := by
            have z := atI_nat hg
            rwa [Int.toNat_of_nonneg hp] at z
          walk_at "rd"
          refine RD.d_ixL (SqL.of e2) ha ?_
          walk_at "rd"
          refine RD.iteD (fun c3 => ?_) (fun c3 => ?_)
          · walk_at "rd"
            exact ⟨_, p + 1, cs[p.toNat], (m * 69621 + cs[p.toNat] + 11) % 2147483629, rfl, (by rw [upd_upd, upd_upd]; rfl), by omega⟩
          · walk_at "rd"
            exact ⟨_, p + 1, q, (m * 69621 + cs[p.toNat] + 11) % 2147483629, rfl, (by rw [upd_upd]; rfl), by omega⟩
        · walk_at "rd"
          exact ⟨none, p, q, m, rfl, (upd_id e1).symm, hp⟩
      · walk_at "rd"
        exact ⟨none, p, q, m, rfl, (upd_id e1).symm, hp⟩
    · rintro σ' H' ⟨x, p', q', m', rfl, rfl, hp'⟩
      have fin : ∀ q2 n2 : Int, HandAt (upd H h (.lst [.ref c, .int p', .int q2, .int m', .int n2])) h c ∧ But h H (upd H h (.lst [.ref c, .int p', .int q2, .int m', .int n2])) := fun q2 n2 =>
        ⟨⟨cs, p', q2, m', n2, upd_same, (by rw [upd_ne ne]; exact e2), ne, hp'⟩, fun b hb => upd_ne hb⟩
      walk_at "rd"
      refine RD.iteD (fun c1 => ?_) (fun c1 => ?_)
      · walk_at "rd"
        rw [upd_upd]
        exact k _ _ (Int.emod_nonneg _ (by omega)) (Int.emod_lt_of_pos _ m0) (fin _ _).1 (fin _ _).2
      · walk_at "rd"
        rw [upd_upd]
        exact k _ _ (Int.emod_nonneg _ (by omega)) (Int.emod_lt_of_pos _ m0) (fin _ _).1 (fin _ _).2
end
section
variable {P : Program} {w : World} {K : PySem.W.Frag} {mg : Str → Option Value} {base : Heap}
theorem ok_law_hand (T : Top K mg) : FnOk P w K mg base CX0 1 T.f_law_hand T.fd_law_hand ["script"] (spHand K) := by
  refine T.F_law_hand.ok sc_law_hand (fun vs H Q E h => ?_) (fun cdv A outer s H vs Q E hr h => ?_)
  · obtain ⟨a, ns, rfl, _⟩ := h; rfl
  · obtain ⟨a, ns, rfl, hS, hl, k⟩ := h
    refine ⟨_, (pss_cons (ps_setLc (i := 1) (own := [("cell", 2)]) (g := (gName 2)) (tt := tYes) rfl sc_law_hand.nd rfl rfl (sw_true rfl rfl rfl (by decide +kernel)) (pi_list (pe_slice sl_list (pv 0) po_none (po_some pe_int))) (blkOk_by (own := [("cell", 2)]) (N := ["script", "cells", "cell"]) (sc := defScope s_law_hand) (by decide +kernel)) (fun _ _ _ _ _ => (pg_name (i := 2) sc_law_hand.nd rfl (Or.inl rfl))) (fun _ _ _ _ _ => pts_nil) (fun _ _ _ _ _ => (pe_callB RD.c_abs (by rfl) T.n_abs (by decide +kernel) (pa_cons (pe_callTy RD.c_int (by rfl) T.n_int (by decide +kernel) (pa_cons (pv 2) pa_nil)) pa_nil))))
 (pss_one (ps_ret (pe_lst (pa_cons (pv 1) (pa_cons pe_int (pa_cons pe_int (pa_cons (pe_op op_add pe_int (pe_callB RD.c_len (by rfl) T.n_len (by decide +kernel) (pa_cons (pv 1) pa_nil))) (pa_cons pe_int pa_nil))))))))), ?_⟩
    walk_at "rd"
    refine ⟨a, ns.map V.int, rfl, hS, fun p hp => ?_⟩
    walk_at "rd"
    intro D hD
    have nD : D ≠ p := ne_of_free hD
    have hz : ∀ v ∈ cutV (ns.map V.int) none (some 63), ∃ z : Int, v = V.int z := fun v hv => by
      have q := List.mem_of_mem_take hv
      have q2 := List.mem_of_mem_drop q
      obtain ⟨z, _, rfl⟩ := List.mem_map.mp q2
      exact ⟨z, rfl⟩
    have hlen : (cutV (ns.map V.int) none (some 63)).length ≤ 63 := Nat.le_trans (cutV_length _ _ _) (by rw [List.length_map]; exact hl)
    refine lc_list (K := K) (a := p) (xs := cutV (ns.map V.int) none (some 63)) (fun i H' => Same H H' ∧ H D = none ∧ H' p = some (.lst (cutV (ns.map V.int) none (some 63))) ∧ ∃ cs : List Int, H' D = some (.lst (cs.map V.int)) ∧ cs.length ≤ i) ?_ ?_ ?_ ?_
    · refine ⟨fun b o e => ?_, (upd_none hD).2, by rw [upd_ne nD.symm, upd_same], [], upd_same, Nat.le_refl _⟩
      rw [upd_ne (ne_of_none e (upd_none hD).2), upd_ne (ne_of_none e hp)]; exact e
    · exact fun i H' _ q => SqL.of q.2.2.1
    · rintro i x H' hi ⟨s0, d0, hp', cs, hc, hcl⟩
      obtain ⟨z, rfl⟩ := hz x (List.mem_of_getElem? hi)
      have hi' : i < 63 := Nat.lt_of_lt_of_le (List.getElem?_eq_some_iff.mp hi).1 hlen
      walk_at "rd"
      refine ⟨_, hc, Nat.lt_of_le_of_lt (by rw [List.length_map]; exact hcl) (Nat.lt_of_lt_of_le hi' (by decide)), fun b o e => ?_, d0, by rw [upd_ne nD.symm]; exact hp', cs ++ [_], by rw [upd_same, List.map_append]; rfl, by simp; omega⟩
      rw [upd_ne (ne_of_none e d0)]; exact s0 b o e
    · rintro H' ⟨s0, d0, hp', cs, hc, hcl⟩
      walk_at "rd"
      refine ⟨by show 5 ≤ sizeLine; decide, fun h hh => ?_⟩
      refine k h D _ ⟨cs, 0, 0, _, 0, upd_same, by rw [upd_ne (ne_of_none hc hh)]; exact hc, ne_of_none hc hh, Int.le_refl _⟩ (fun b o e => ?_) (s0.free hh)
      rw [upd_ne (ne_of_none (s0 b o e) hh)]; exact s0 b o e
end

def Kp (h : Addr) (H H' : Hp) : Prop := ∀ b o, b ≠ h → H b = some o → H' b = some o
theorem Kp.rfl' {h : Addr} {H : Hp} : Kp h H H := fun _ _ _ e => e
theorem Kp.trans {h : Addr} {H H1 H2 : Hp} (a : Kp h H H1) (b : Kp h H1 H2) : Kp h H H2 := fun c o n e => b c o n (a c o n e)
theorem But.kp {h : Addr} {H H' : Hp} (b : But h H H') : Kp h H H' := fun c o n e => by rw [b c n]; exact e
theorem kp_upd {h p : Addr} {H : Hp} {o : HO} (hp : H p = none) : Kp h H (upd H p o) := fun b u _ e => by rw [upd_ne (ne_of_none e hp)]; exact e

/-! ### drawn numbers, handed in; what is asked of a Ratio -/
theorem But.trans {h : Addr} {H H1 H2 : Hp} (a : But h H H1) (b : But h H1 H2) : But h H H2 := fun c n => (b c n).trans (a c n)
theorem bt_none {h p : Addr} {H H' : Hp} (b : But h H H') (n : H' p = none) (e : ∃ o, H' h = some o) : H p = none := by
  have : p ≠ h := fun z => by obtain ⟨o, e⟩ := e; rw [z, e] at n; cases n
  rw [← b p this]; exact n
section
variable {P : Program} {w : World} {K : PySem.W.Frag} {mg : Str → Option Value} {base : Heap}
theorem log_most {n : Int} (h0 : 0 ≤ n) (h : n ≤ 1000) : n.natAbs.log2 < 9000 := Nat.lt_of_le_of_lt (log2_mono (show n.natAbs ≤ 1000 by omega)) (by decide)
theorem HandAt.some {H : Hp} {h c : Addr} (x : HandAt H h c) : ∃ o, H h = some o := by
  obtain ⟨cs, p, q, m, n, e1, _⟩ := x
  exact ⟨_, e1⟩

theorem log_nat {n : Int} {m : Nat} (h : n.natAbs < 2 ^ m) (hm : m ≤ 8000) : n.natAbs.log2 < 9000 := log_of h hm
def spNumber : Sp := fun vs H Q _ => ∃ (h c : Addr), vs = [.ref h] ∧ HandAt H h c ∧ ∀ (i : Int) (H' : Hp), i.natAbs < 2 ^ 150 → HandAt H' h c → Kp h H H' → Q (.int i) H'
/-- one of three bounds -/
theorem three {i : Int} (h0 : 0 ≤ i) (h1 : i < 3) : ∃ m : Int, atI [V.int 10, .int 100, .int 1000000000] i = some (.int m) ∧ 0 < m ∧ m ≤ 1000000000 := by
  have : i = 0 ∨ i = 1 ∨ i = 2 := by omega
  rcases this with rfl | rfl | rfl
  · exact ⟨10, rfl, by decide, by decide⟩
  · exact ⟨100, rfl, by decide, by decide⟩
  · exact ⟨1000000000, rfl, by decide, by decide⟩
theorem log_bil {n : Int} (h0 : 0 ≤ n) (h : n ≤ 1000000000) : n.natAbs.log2 < 9000 := log_of (n := 30) (by omega) (by decide)
theorem HandAt.kpNe {H : Hp} {h c p : Addr} {xs : List V} (x : HandAt H h c) (l : xs.length ≠ 5) (e : H p = Option.some (HO.lst xs)) : p ≠ h := fun z => by
  obtain ⟨cs, a, q, m, n, e1, _⟩ := x
  rw [z, e1] at e
  cases e
  exact l rfl
theorem ok_law_number (T : Top K mg) : FnOk P w K mg base CX0 2 T.f_law_number T.fd_law_number ["hand"] spNumber := by
  refine T.F_law_number.ok sc_law_number (fun vs H Q E h => ?_) (fun cdv A outer s H vs Q E hr h => ?_)
  · obtain ⟨h, c, rfl, _⟩ := h; rfl
  · obtain ⟨h, c, rfl, hd, k⟩ := h
    have e9 : (10 : Int) ^ Int.toNat 9 = 1000000000 := by decide
    have e31 : (10 : Int) ^ Int.toNat 31 = 10000000000000000000000000000000 := by decide
    refine ⟨_, (C8.pss_cut (ps_set (i := 1) sc_law_number.nd rfl (Or.inl rfl) (pe_call (ok_law_draw T) (hr.mono (by decide)) (by rfl) T.g_law_draw T.F_law_draw.kp T.b_law_draw .nil pass0 (pa_cons (pv 0) (pa_cons (pe_ix ix_list (pe_lst (pa_cons pe_int (pa_cons pe_int (pa_cons (pe_op op_pow pe_int pe_int) pa_nil)))) (pe_call (ok_law_draw T) (hr.mono (by decide)) (by rfl) T.g_law_draw T.F_law_draw.kp T.b_law_draw .nil pass0 (pa_cons (pv 0) (pa_cons pe_int pa_nil))) (fun _ _ => rfl)) pa_nil))))
 (C8.pss_cut (ps_if (pt_cmpR op_eq (pe_call (ok_law_draw T) (hr.mono (by decide)) (by rfl) T.g_law_draw T.F_law_draw.kp T.b_law_draw .nil pass0 (pa_cons (pv 0) (pa_cons pe_int pa_nil))) pe_int (nomark _))
 (pss_one (ps_set (i := 1) sc_law_number.nd rfl (Or.inl rfl) (pe_op op_add (pe_op op_mul (pv 1) (pe_op op_pow pe_int pe_int)) pe_int)))
 pss_nil)
 (pss_cons (ps_if (pt_cmpR op_eq (pe_call (ok_law_draw T) (hr.mono (by decide)) (by rfl) T.g_law_draw T.F_law_draw.kp T.b_law_draw .nil pass0 (pa_cons (pv 0) (pa_cons pe_int pa_nil))) pe_int (nomark _))
 (pss_one (ps_ret (pe_op op_sub pe_int (pv 1))))
 pss_nil)
 (pss_one (ps_ret (pv 1)))))), ?_⟩
    refine RD.d_cut (fun σ' H' => ∃ n : Int, σ' = [some (.ref h), some (.int n)] ∧ 0 ≤ n ∧ n < 1000000000 ∧ HandAt H' h c ∧ Kp h H H') ?_ ?_
    · walk_at "rd"
      rw [e9]
      refine ⟨by show 3 ≤ sizeLine; decide, fun p hp => ?_⟩
      have hd0 := hd.same (same_upd (o := HO.lst [V.int 10, V.int 100, V.int 1000000000]) hp)
      have ep : upd H p (.lst [.int 10, .int 100, .int 1000000000]) p = some (.lst [.int 10, .int 100, .int 1000000000]) := upd_same
      have np := hd0.kpNe (xs := [V.int 10, V.int 100, V.int 1000000000]) (by decide) ep
      have k0 : Kp h H (upd H p (.lst [.int 10, .int 100, .int 1000000000])) := kp_upd hp
      generalize upd H p (.lst [.int 10, .int 100, .int 1000000000]) = H0 at *
      walk_at "rd"
      refine ⟨h, c, 3, rfl, hd0, by decide, by decide +kernel, fun i H1 i0 i1 hd1 b1 => ?_⟩
      obtain ⟨m, em, m0, m1⟩ := three i0 i1
      walk_at "rd"
      refine RD.d_ixL (SqL.of (by rw [b1 p np]; exact ep)) em ?_
      walk_at "rd"
      refine ⟨h, c, m, rfl, hd1, m0, log_bil (by omega) m1, fun n H2 n0 n1 hd2 b2 => ?_⟩
      walk_at "rd"
      exact ⟨n, rfl, n0, by omega, hd2, (k0.trans b1.kp).trans b2.kp⟩
    rintro σ' H2 ⟨n, rfl, n0, n1, hd2, k2⟩
    refine RD.d_cut (fun σ' H' => ∃ n : Int, σ' = [some (.ref h), some (.int n)] ∧ n.natAbs < 2 ^ 150 ∧ HandAt H' h c ∧ Kp h H H') ?_ ?_
    · walk_at "rd"
      refine ⟨h, c, 5, rfl, hd2, by decide, by decide +kernel, fun u H3 u0 u1 hd3 b3 => ?_⟩
      walk_at "rd"
      refine RD.iteD (fun q => ?_) (fun q => ?_)
      · walk_at "rd"
        refine ⟨_, rfl, ?_, hd3, k2.trans b3.kp⟩
        rw [e31]; omega
      · walk_at "rd"
        exact ⟨n, rfl, by omega, hd3, k2.trans b3.kp⟩
    rintro σ' H3 ⟨n, rfl, sn, hd3, k3⟩
    walk_at "rd"
    refine ⟨h, c, 2, rfl, hd3, by decide, by decide +kernel, fun u H4 u0 u1 hd4 b4 => ?_⟩
    walk_at "rd"
    refine RD.iteD (fun q => ?_) (fun q => ?_)
    · walk_at "rd"
      exact k _ _ (by omega) hd4 (k3.trans b4.kp)
    · walk_at "rd"
      exact k _ _ sn hd4 (k3.trans b4.kp)
end

section
variable {P : Program} {w : World} {K : PySem.W.Frag} {mg : Str → Option Value} {base : Heap}
def spIs (C : Addr) : Sp := fun vs H Q _ => ∃ (a : Addr) (t b : Int) (q : Rat), vs = [.ref a, .int t, .int b] ∧ RatAt C H a q ∧ Bd 2000 q ∧ b ≠ 0 ∧ t.natAbs < 2 ^ 2000 ∧ b.natAbs < 2 ^ 2000 ∧ q = Rat.divInt t b ∧ Q (.bl true) H
theorem ok_law_is (T : Top K mg) : FnOk P w K mg base CX0 3 T.f_law_is T.fd_law_is ["thing", "top", "bottom"] (spIs T.C_Ratio) := by
  refine T.F_law_is.ok sc_law_is (fun vs H Q E h => ?_) (fun cdv A outer s H vs Q E hr h => ?_)
  · obtain ⟨a, t, b, q, rfl, _⟩ := h; rfl
  · obtain ⟨a, t, b, q, rfl, ha, bq, nz, ht, hb, eq, k⟩ := h
    refine ⟨_, (pss_one (ps_ret (pe_and (pe_callB call_isi (by rfl) T.n_isinstance (by decide +kernel) (pa_cons (pv 0) (pa_cons (pe_glob (v := V.ref T.C_Ratio) (by rfl) T.g_Ratio rfl) pa_nil))) (pe_and (pe_cmpR op_gt (pe_fld (pv 0) (by rfl)) pe_int (nomark _)) (pe_one (pe_cmpR op_eq (pe_op op_mulW (pe_fld (pv 0) (by rfl)) (pv 2)) (pe_op op_mulW (pv 1) (pe_fld (pv 0) (by rfl))) (nomark _))))))), ?_⟩
    walk_at "rd"
    refine RD.d_isi (.own _) (tyR T ha) T.kRR ?_
    walk_at "rd"
    have dp := den_pos q
    refine ratBottom T ha ?_
    walk_at "rd"
    rw [decide_eq_true dp]
    walk_at "rd"
    refine ratTop T ha ?_
    walk_at "rd"
    refine RD.d_rI (wm bq.1 hb (by decide) (by decide) (by decide)) ?_
    walk_at "rd"
    refine ratBottom T ha ?_
    walk_at "rd"
    refine RD.d_rI (wm ht (den_bd bq) (by decide) (by decide) (by decide)) ?_
    walk_at "rd"
    have e : q.num * b = t * (q.den : Int) := by
      have z : Rat.divInt q.num q.den = Rat.divInt t b := by rw [Rat.num_divInt_den]; exact eq
      exact (Rat.divInt_eq_divInt_iff (by omega) nz).mp z
    rw [decide_eq_true e]
    exact k
end

theorem kit_selfR {K : PySem.W.Frag} {t : Value} : PySem.W.kitOne K t t = some true := by
  unfold PySem.W.kitOne
  rw [if_pos (by simp)]
def spPair : Sp := fun vs H Q _ => ∃ (h c : Addr), vs = [.ref h] ∧ HandAt H h c ∧ ∀ (i j : Int) (p : Addr) (H' : Hp), i.natAbs < 2 ^ 150 → j.natAbs < 2 ^ 31 → j ≠ 0 → HandAt H' h c → H' p = some (.tup [.int i, .int j]) → Kp h H H' → Q (.ref p) H'
def spHanded (C : Addr) : Sp := fun vs H Q _ => ∃ (h c p : Addr) (i j : Int), vs = [.ref h, .ref p] ∧ HandAt H h c ∧ H p = some (.tup [.int i, .int j]) ∧ i.natAbs < 2 ^ 150 ∧ j.natAbs < 2 ^ 31 ∧ j ≠ 0 ∧ ∀ (v : V) (H' : Hp), Num C H' v (Rat.divInt i j) → HandAt H' h c → Kp h H H' → Q v H'
theorem threeB {i b : Int} (h0 : 0 ≤ i) (h1 : i < 3) (b0 : 0 < b) (b1 : b ≤ 1000000000) : ∃ j : Int, atI [V.int 1, .int b, .int (0 - b)] i = some (.int j) ∧ j ≠ 0 ∧ j.natAbs < 2 ^ 31 := by
  have : i = 0 ∨ i = 1 ∨ i = 2 := by omega
  rcases this with rfl | rfl | rfl
  · exact ⟨1, rfl, by decide, by decide⟩
  · exact ⟨b, rfl, by omega, by omega⟩
  · exact ⟨0 - b, rfl, by omega, by omega⟩
theorem HandAt.kpT {H : Hp} {h c p : Addr} {xs : List V} (x : HandAt H h c) (e : H p = Option.some (HO.tup xs)) : p ≠ h := fun z => by
  obtain ⟨cs, a, q, m, n, e1, _⟩ := x
  rw [z, e1] at e
  cases e
section
variable {P : Program} {w : World} {K : PySem.W.Frag} {mg : Str → Option Value} {base : Heap}
theorem ok_law_pair (T : Top K mg) : FnOk P w K mg base CX0 3 T.f_law_pair T.fd_law_pair ["hand"] spPair := by
  refine T.F_law_pair.ok sc_law_pair (fun vs H Q E h => ?_) (fun cdv A outer s H vs Q E hr h => ?_)
  · obtain ⟨h, c, rfl, _⟩ := h; rfl
  · obtain ⟨h, c, rfl, hd, k⟩ := h
    have e9 : (10 : Int) ^ Int.toNat 9 = 1000000000 := by decide
    refine ⟨_, (C8.pss_cut (ps_set (i := 1) sc_law_pair.nd rfl (Or.inl rfl) (pe_op op_add pe_int (pe_call (ok_law_draw T) (hr.mono (by decide)) (by rfl) T.g_law_draw T.F_law_draw.kp T.b_law_draw .nil pass0 (pa_cons (pv 0) (pa_cons (pe_ix ix_list (pe_lst (pa_cons pe_int (pa_cons pe_int (pa_cons (pe_op op_pow pe_int pe_int) pa_nil)))) (pe_call (ok_law_draw T) (hr.mono (by decide)) (by rfl) T.g_law_draw T.F_law_draw.kp T.b_law_draw .nil pass0 (pa_cons (pv 0) (pa_cons pe_int pa_nil))) (fun _ _ => rfl)) pa_nil)))))
 (pss_one (ps_ret (pe_tup (pa_cons (pe_call (ok_law_number T) (hr.mono (by decide)) (by rfl) T.g_law_number T.F_law_number.kp T.b_law_number .nil pass0 (pa_cons (pv 0) pa_nil)) (pa_cons (pe_ix ix_list (pe_lst (pa_cons pe_int (pa_cons (pv 1) (pa_cons (pe_op op_sub pe_int (pv 1)) pa_nil)))) (pe_call (ok_law_draw T) (hr.mono (by decide)) (by rfl) T.g_law_draw T.F_law_draw.kp T.b_law_draw .nil pass0 (pa_cons (pv 0) (pa_cons pe_int pa_nil))) (fun _ _ => rfl)) pa_nil)))))), ?_⟩
    refine RD.d_cut (fun σ' H' => ∃ b : Int, σ' = [some (.ref h), some (.int b)] ∧ 0 < b ∧ b ≤ 1000000000 ∧ HandAt H' h c ∧ Kp h H H') ?_ ?_
    · walk_at "rd"
      rw [e9]
      refine ⟨by show 3 ≤ sizeLine; decide, fun p hp => ?_⟩
      have hd0 := hd.same (same_upd (o := HO.lst [V.int 10, V.int 100, V.int 1000000000]) hp)
      have ep : upd H p (.lst [.int 10, .int 100, .int 1000000000]) p = some (.lst [.int 10, .int 100, .int 1000000000]) := upd_same
      have np := hd0.kpNe (xs := [V.int 10, V.int 100, V.int 1000000000]) (by decide) ep
      have k0 : Kp h H (upd H p (.lst [.int 10, .int 100, .int 1000000000])) := kp_upd hp
      generalize upd H p (.lst [.int 10, .int 100, .int 1000000000]) = H0 at *
      walk_at "rd"
      refine ⟨h, c, 3, rfl, hd0, by decide, by decide +kernel, fun i H1 i0 i1 hd1 b1 => ?_⟩
      obtain ⟨m, em, m0, m1⟩ := three i0 i1
      walk_at "rd"
      refine RD.d_ixL (SqL.of (by rw [b1 p np]; exact ep)) em ?_
      walk_at "rd"
      refine ⟨h, c, m, rfl, hd1, m0, log_bil (by omega) m1, fun n H2 n0 n1 hd2 b2 => ?_⟩
      walk_at "rd"
      exact ⟨1 + n, rfl, by omega, by omega, hd2, (k0.trans b1.kp).trans b2.kp⟩
    rintro σ' H2 ⟨b, rfl, b0, b1, hd2, k2⟩
    walk_at "rd"
    refine ⟨h, c, rfl, hd2, fun i H3 si hd3 k3 => ?_⟩
    walk_at "rd"
    refine ⟨by show 3 ≤ sizeLine; decide, fun p hp => ?_⟩
    have hd0 := hd3.same (same_upd (o := HO.lst [V.int 1, V.int b, V.int (0 - b)]) hp)
    have ep : upd H3 p (.lst [.int 1, .int b, .int (0 - b)]) p = some (.lst [.int 1, .int b, .int (0 - b)]) := upd_same
    have np := hd0.kpNe (xs := [V.int 1, V.int b, V.int (0 - b)]) (by simp) ep
    have k0 : Kp h H3 (upd H3 p (.lst [.int 1, .int b, .int (0 - b)])) := kp_upd hp
    generalize upd H3 p (.lst [.int 1, .int b, .int (0 - b)]) = H4 at *
    walk_at "rd"
    refine ⟨h, c, 3, rfl, hd0, by decide, by decide +kernel, fun t H5 t0 t1 hd5 b5 => ?_⟩
    obtain ⟨j, ej, nz, sj⟩ := threeB t0 t1 b0 b1
    walk_at "rd"
    refine RD.d_ixL (SqL.of (by rw [b5 p np]; exact ep)) ej ?_
    walk_at "rd"
    refine ⟨by show 2 ≤ sizeLine; decide, fun q hq => ?_⟩
    exact k i j q _ si sj nz (hd5.same (same_upd hq)) upd_same ((((k2.trans k3).trans k0).trans b5.kp).trans (kp_upd hq))
theorem ok_law_handed (T : Top K mg) : FnOk P w K mg base CX0 5 T.f_law_handed T.fd_law_handed ["hand", "pair"] (spHanded T.C_Ratio) := by
  refine T.F_law_handed.ok sc_law_handed (fun vs H Q E h => ?_) (fun cdv A outer s H vs Q E hr h => ?_)
  · obtain ⟨h, c, p, i, j, rfl, _⟩ := h; rfl
  · obtain ⟨h, c, p, i, j, rfl, hd, ep, si, sj, nz, k⟩ := h
    have np := hd.kpT ep
    have make : ∀ {H1 : Hp}, HandAt H1 h c → Kp h H H1 → ∀ x dx, H1 x = none → H1 dx = none → dx ≠ x → spRat K T.C_Ratio T.C_BN (.ref x :: ([V.int i, V.int j] ++ [])) (upd (upd H1 dx (.own x)) x (.ins T.C_Ratio dx [])) (fun v H2 => v = .non ∧ Q (.ref x) H2) E0 :=
      fun hd1 k1 => mk_rat T nz (log_of sj (by decide)) (fun x H2 s2 nx hx => k (.ref x) H2 (.inl ⟨x, rfl, hx⟩) (hd1.same s2) (k1.trans fun b o _ e => s2 b o e))
    refine ⟨_, (pss_cons (ps_if (PW.pt (pw_and (pt_cmpR op_eq (pe_ix ix_tup (pv 1) pe_int (fun _ _ => rfl)) pe_int (nomark _)) (pw_and1 (pt_cmpR op_eq (pe_call (ok_law_draw T) (hr.mono (by decide)) (by rfl) T.g_law_draw T.F_law_draw.kp T.b_law_draw .nil pass0 (pa_cons (pv 0) (pa_cons pe_int pa_nil))) pe_int (nomark _)))))
 (pss_one (ps_ret (pe_ix ix_tup (pv 1) pe_int (fun _ _ => rfl))))
 pss_nil)
 (pss_one (ps_ret (pe_make T.M_Ratio (ok_Ratio__init T) (hr.mono (by decide)) (by rfl) T.g_Ratio T.b_Ratio__init .nil OQ.passN (pa_cons (pe_ix ix_tup (pv 1) pe_int (fun _ _ => rfl)) (pa_cons (pe_ix ix_tup (pv 1) pe_int (fun _ _ => rfl)) pa_nil)))))), ?_⟩
    walk_at "rd"
    refine RD.iteD (fun q => ?_) (fun q => ?_)
    · walk_at "rd"
      refine ⟨h, c, 2, rfl, hd, by decide, by decide +kernel, fun u H1 u0 u1 hd1 b1 => ?_⟩
      have ep1 : H1 p = some (.tup [.int i, .int j]) := by rw [b1 p np]; exact ep
      walk_at "rd"
      refine RD.iteD (fun q2 => ?_) (fun q2 => ?_)
      · walk_at "rd"
        subst q
        exact k _ _ (.inr ⟨i, rfl, rat_one i⟩) hd1 b1.kp
      · walk_at "rd"
        exact make hd1 b1.kp
    · walk_at "rd"
      exact make hd (fun _ _ _ e => e)
def spRefused (K : PySem.W.Frag) (CR : Addr) : Sp := fun vs H Q _ => ∃ (kind : Int) (a b : V), vs = [.int kind, a, b] ∧
  ((∃ p q, Num CR H a p ∧ Num CR H b q ∧ Bd 2000 p ∧ Bd 2000 q ∧ ∀ pt H', Same H H' → H' pt = some (.tup [.str "none", .int 0]) → Q (.ref pt) H') ∨ (NoNum K CR H a ∧ ∀ pt H', Same H H' → H' pt = some (.tup [.str "worth", a]) → Q (.ref pt) H') ∨
   (∃ p, Num CR H a p ∧ NoNum K CR H b ∧ ∀ pt H', Same H H' → H' pt = some (.tup [.str "worth", b]) → Q (.ref pt) H'))
theorem ok_law_refused (T : Top K mg) : FnOk P w K mg base CX0 11 T.f_law_refused T.fd_law_refused ["kind", "one", "other"] (spRefused K T.C_Ratio) := by
  refine T.F_law_refused.ok sc_law_refused (fun vs H Q E h => ?_) (fun cdv A outer s H vs Q E hr h => ?_)
  · obtain ⟨kind, a, b, rfl, _⟩ := h; rfl
  · obtain ⟨kind, a, b, rfl, h⟩ := h
    refine ⟨_, (pss_cons (ps_set (i := 3) sc_law_refused.nd rfl (Or.inl rfl) (pe_tup (pa_cons pe_str (pa_cons pe_int pa_nil))))
 (pss_cons (ps_try_as (i := 4) (Wout := fun _ _ _ _ => False) rfl rfl sc_law_refused.nd rfl rfl ⟨rfl, by decide, Or.inl T.g_WayError⟩ takes0 (fun W pn xe tk _ => (pss_one (ps_if (pt_cmpR op_eq (pv 0) pe_int (nomark _))
 (pss_one (ps_expr (OQ.pe_methX (pe_make0 T.M_Numbers (ok_Numbers__init T) (hr.mono (by decide)) (by rfl) T.g_Numbers T.b_Numbers__init .nil pass0) T.cl_Numbers T.m_Numbers_join (ok_Numbers_join T) (hr.mono (by decide)) T.b_Numbers_join .nil (fun σ => passAt tk σ) (pa_cons (pv 1) (pa_cons (pv 2) pa_nil)))))
 (pss_one (ps_expr (OQ.pe_methX (pe_make0 T.M_Numbers (ok_Numbers__init T) (hr.mono (by decide)) (by rfl) T.g_Numbers T.b_Numbers__init .nil pass0) T.cl_Numbers T.m_Numbers_times (ok_Numbers_times T) (hr.mono (by decide)) T.b_Numbers_times .nil (fun σ => passAt tk σ) (pa_cons (pv 1) (pa_cons (pv 2) pa_nil)))))))) (fun a oe cls d pn hz hf => (pss_cons (ps_set (i := 3) sc_law_refused.nd rfl (Or.inl rfl) (pe_tup (pa_cons pe_str (pa_cons pe_int pa_nil))))
 (pss_one (ps_if (pt_val (pe_callB (OQ.call_isX T.exI_BadWorth hz hf) (by rfl) T.n_isinstance (by decide +kernel) (pa_cons (pv 4) (pa_cons (pe_glob (v := V.ref T.C_BW) (by rfl) T.g_BadWorth rfl) pa_nil))))
 (pss_one (ps_set (i := 3) sc_law_refused.nd rfl (Or.inl rfl) (pe_tup (pa_cons pe_str (pa_cons (pe_xf T.xf_BadWorth T.v_BadWorth hz hf (pv 4)) pa_nil)))))
 pss_nil)))))
 (pss_one (ps_ret (pv 3))))), ?_⟩
    walk_at "rd"
    refine ⟨by show 2 ≤ sizeLine; decide, fun p0 hp0 => ?_⟩
    have s0 : Same H (upd H p0 (.tup [.str "none", .int 0])) := same_upd hp0
    have e0 : upd H p0 (.tup [.str "none", .int 0]) p0 = some (.tup [.str "none", .int 0]) := upd_same
    generalize upd H p0 (.tup [.str "none", .int 0]) = H0 at *
    walk_at "rd"
    refine RD.iteD (fun c => ?_) (fun c => ?_)
    · walk_at "rd"
      intro x dx nx ndx ne
      have s1 := same_made (C := T.C_Numbers) nx ndx ne
      refine ⟨x, dx, rfl, upd_same, fun H1 kx hN => ⟨rfl, ?_⟩⟩
      obtain ⟨dz, ra, rb, ez, _⟩ := id hN
      have sH : Same H H1 := fun b' u e => kx _ _ (ne_of_none (s0 _ _ e) nx) (s1 _ _ (s0 _ _ e))
      have e1 : H1 p0 = some (.tup [.str "none", .int 0]) := kx _ _ (ne_of_none e0 nx) (s1 _ _ e0)
      refine ⟨x, dz, _, rfl, ez, (lk_ne (by decide +kernel)).trans (lk_ne (by decide +kernel)), ?_⟩
      walk_at "rd"
      refine ⟨x, a, b, rfl, hN, ?_⟩
      rcases h with ⟨p, q, na, nb, bp, bq, k⟩ | ⟨no, k⟩ | ⟨p, na, no, k⟩
      · refine .inl ⟨p, q, na.same sH, nb.same sH, bp, bq, fun c H2 s2 hc => ?_⟩
        walk_at "rd"
        exact k p0 H2 (sH.trans s2) (s2 _ _ e1)
      · refine .inr (.inl ⟨no.same sH, fun d H2 s2 hd ed => ?_⟩)
        refine ⟨true, T.exWB, fun _ e he => ?_, fun z => Bool.noConfusion z⟩
        walk_at "rd"
        refine ⟨by show 2 ≤ sizeLine; decide, fun p1 hp1 => ?_⟩
        have s3 := same_upd (o := HO.tup [V.str "odd", V.int 0]) hp1
        have ed3 := s3 _ _ ed
        walk_at "rd"
        refine OQ.d_isX rfl rfl ed3 (.own _) T.kBW ?_
        walk_at "rd"
        refine ⟨rfl, rfl, d, _, _, rfl, ed3, errD_v _, ?_⟩
        walk_at "rd"
        refine ⟨by show 2 ≤ sizeLine; decide, fun p2 hp2 => ?_⟩
        walk_at "rd"
        exact k p2 _ (((sH.trans s2).trans s3).trans (same_upd hp2)) upd_same
      · refine .inr (.inr ⟨p, na.same sH, no.same sH, fun d H2 s2 hd ed => ?_⟩)
        refine ⟨true, T.exWB, fun _ e he => ?_, fun z => Bool.noConfusion z⟩
        walk_at "rd"
        refine ⟨by show 2 ≤ sizeLine; decide, fun p1 hp1 => ?_⟩
        have s3 := same_upd (o := HO.tup [V.str "odd", V.int 0]) hp1
        have ed3 := s3 _ _ ed
        walk_at "rd"
        refine OQ.d_isX rfl rfl ed3 (.own _) T.kBW ?_
        walk_at "rd"
        refine ⟨rfl, rfl, d, _, _, rfl, ed3, errD_v _, ?_⟩
        walk_at "rd"
        refine ⟨by show 2 ≤ sizeLine; decide, fun p2 hp2 => ?_⟩
        walk_at "rd"
        exact k p2 _ (((sH.trans s2).trans s3).trans (same_upd hp2)) upd_same
    · walk_at "rd"
      intro x dx nx ndx ne
      have s1 := same_made (C := T.C_Numbers) nx ndx ne
      refine ⟨x, dx, rfl, upd_same, fun H1 kx hN => ⟨rfl, ?_⟩⟩
      obtain ⟨dz, ra, rb, ez, _⟩ := id hN
      have sH : Same H H1 := fun b' u e => kx _ _ (ne_of_none (s0 _ _ e) nx) (s1 _ _ (s0 _ _ e))
      have e1 : H1 p0 = some (.tup [.str "none", .int 0]) := kx _ _ (ne_of_none e0 nx) (s1 _ _ e0)
      refine ⟨x, dz, _, rfl, ez, (lk_ne (by decide +kernel)).trans (lk_ne (by decide +kernel)), ?_⟩
      walk_at "rd"
      refine ⟨x, a, b, rfl, hN, ?_⟩
      rcases h with ⟨p, q, na, nb, bp, bq, k⟩ | ⟨no, k⟩ | ⟨p, na, no, k⟩
      · refine .inl ⟨p, q, na.same sH, nb.same sH, bp, bq, fun c H2 s2 hc => ?_⟩
        walk_at "rd"
        exact k p0 H2 (sH.trans s2) (s2 _ _ e1)
      · refine .inr (.inl ⟨no.same sH, fun d H2 s2 hd ed => ?_⟩)
        refine ⟨true, T.exWB, fun _ e he => ?_, fun z => Bool.noConfusion z⟩
        walk_at "rd"
        refine ⟨by show 2 ≤ sizeLine; decide, fun p1 hp1 => ?_⟩
        have s3 := same_upd (o := HO.tup [V.str "odd", V.int 0]) hp1
        have ed3 := s3 _ _ ed
        walk_at "rd"
        refine OQ.d_isX rfl rfl ed3 (.own _) T.kBW ?_
        walk_at "rd"
        refine ⟨rfl, rfl, d, _, _, rfl, ed3, errD_v _, ?_⟩
        walk_at "rd"
        refine ⟨by show 2 ≤ sizeLine; decide, fun p2 hp2 => ?_⟩
        walk_at "rd"
        exact k p2 _ (((sH.trans s2).trans s3).trans (same_upd hp2)) upd_same
      · refine .inr (.inr ⟨p, na.same sH, no.same sH, fun d H2 s2 hd ed => ?_⟩)
        refine ⟨true, T.exWB, fun _ e he => ?_, fun z => Bool.noConfusion z⟩
        walk_at "rd"
        refine ⟨by show 2 ≤ sizeLine; decide, fun p1 hp1 => ?_⟩
        have s3 := same_upd (o := HO.tup [V.str "odd", V.int 0]) hp1
        have ed3 := s3 _ _ ed
        walk_at "rd"
        refine OQ.d_isX rfl rfl ed3 (.own _) T.kBW ?_
        walk_at "rd"
        refine ⟨rfl, rfl, d, _, _, rfl, ed3, errD_v _, ?_⟩
        walk_at "rd"
        refine ⟨by show 2 ≤ sizeLine; decide, fun p2 hp2 => ?_⟩
        walk_at "rd"
        exact k p2 _ (((sH.trans s2).trans s3).trans (same_upd hp2)) upd_same
theorem tabNe {H : Hp} {jt : Addr} {f : Nat → Nat → Nat} {Q : VK} (h : TabT H jt 2 f) (k : Q (.bl false) H) : rNeD K (.ref jt) (.ref jt) H Q := by
  obtain ⟨rs, len, ej, rows⟩ := h
  match rs, len, ej, rows with
  | [r0, r1], _, ej, rows =>
    have h0 := rows 0 r0 rfl
    have h1 := rows 1 r1 rfl
    have d0 : ∀ {r : Addr} {g : Nat → Nat}, RowT H r 2 g → Dp K H (.ref r) (.tuple [.int (g 0 : Nat), .int (g 1 : Nat)]) := fun e => .tup (SqT.of e) (.cons (.int _) (.cons (.int _) .nil))
    refine ⟨_, _, .tup (SqT.of ej) (.cons (d0 h0) (.cons (d0 h1) .nil)), .tup (SqT.of ej) (.cons (d0 h0) (.cons (d0 h1) .nil)), by rfl, by rfl, ?_⟩
    rw [SeqAt.eqv_refl _ (by rfl)]
    exact k
def spRekEq (K : PySem.W.Frag) (C : Addr) : Sp := fun vs H Q _ => ∃ (x : Addr) (y : V), vs = [.ref x, y] ∧ RekF C H x 2 max min 0 1 ∧
    ((∃ t, TyX K H y t ∧ PySem.W.kitOne K t (.ref C) = some false ∧ Q (.bl false) H) ∨ (y = .ref x ∧ Q (.bl true) H))
theorem ok_Reckoning__eq (T : Top K mg) : FnOk P w K mg base CX0 2 T.f_Reckoning__eq T.fd_Reckoning__eq ["self", "other"] (spRekEq K T.C_Reckoning) := by
  refine T.F_Reckoning__eq.ok sc_Reckoning__eq (fun vs H Q E h => ?_) (fun cdv A outer s H vs Q E hr h => ?_)
  · obtain ⟨x, y, rfl, _⟩ := h; rfl
  · obtain ⟨x, y, rfl, re, h⟩ := h
    refine ⟨_, (pss_cons (ps_if (pt_not (pt_val (pe_callB call_isi (by rfl) T.n_isinstance (by decide +kernel) (pa_cons (pv 1) (pa_cons (pe_glob (v := V.ref T.C_Reckoning) (by rfl) T.g_Reckoning rfl) pa_nil)))))
 (pss_one (ps_ret pe_bl))
 pss_nil)
 (pss_cons (ps_if (PW.pt (pw_or (pt_cmpR (op_neD hr.units) (pe_fld (pv 0) (by rfl)) (pe_fld (pv 1) (by rfl)) (nomark _)) (pw_or1 (pt_cmpR (op_neD hr.units) (pe_fld (pv 0) (by rfl)) (pe_fld (pv 1) (by rfl)) (nomark _)))))
 (pss_one (ps_ret pe_bl))
 pss_nil)
 (pss_one (ps_ret (pe_and (pe_cmpR op_eq (pe_fld (pv 0) (by rfl)) (pe_fld (pv 1) (by rfl)) (nomark _)) (pe_one (pe_cmpR op_eq (pe_fld (pv 0) (by rfl)) (pe_fld (pv 1) (by rfl)) (nomark _)))))))), ?_⟩
    walk_at "rd"
    rcases h with ⟨t, ty, e, k⟩ | ⟨rfl, k⟩
    · refine RD.d_isi (.own _) ty e ?_
      walk_at "rd"
      exact k
    · obtain ⟨dx, jt, pt, mt, lt, rt, ex, tj, tp⟩ := re
      refine RD.d_isi (.own _) (.base (.ins ex T.cl_Reckoning T.ha_Reckoning T.hnO T.htO T.hm_Reckoning)) (kit_selfR) ?_
      walk_at "rd"
      refine ⟨x, _, dx, _, _, rfl, ex, T.cl_Reckoning, T.na_Reckoning_joins, lk_eq, ?_⟩
      walk_at "rd"
      refine ⟨x, _, dx, _, _, rfl, ex, T.cl_Reckoning, T.na_Reckoning_joins, lk_eq, ?_⟩
      walk_at "rd"
      refine tabNe tj ?_
      walk_at "rd"
      refine ⟨x, _, dx, _, _, rfl, ex, T.cl_Reckoning, T.na_Reckoning_products, ((lk_ne (by decide +kernel)).trans lk_eq), ?_⟩
      walk_at "rd"
      refine ⟨x, _, dx, _, _, rfl, ex, T.cl_Reckoning, T.na_Reckoning_products, ((lk_ne (by decide +kernel)).trans lk_eq), ?_⟩
      walk_at "rd"
      refine tabNe tp ?_
      walk_at "rd"
      refine ⟨x, _, dx, _, _, rfl, ex, T.cl_Reckoning, T.na_Reckoning_none, ((lk_ne (by decide +kernel)).trans ((lk_ne (by decide +kernel)).trans lk_eq)), ?_⟩
      walk_at "rd"
      refine ⟨x, _, dx, _, _, rfl, ex, T.cl_Reckoning, T.na_Reckoning_none, ((lk_ne (by decide +kernel)).trans ((lk_ne (by decide +kernel)).trans lk_eq)), ?_⟩
      walk_at "rd"
      rw [decide_eq_true rfl]
      walk_at "rd"
      refine ⟨x, _, dx, _, _, rfl, ex, T.cl_Reckoning, T.na_Reckoning_one, ((lk_ne (by decide +kernel)).trans ((lk_ne (by decide +kernel)).trans ((lk_ne (by decide +kernel)).trans lk_eq))), ?_⟩
      walk_at "rd"
      refine ⟨x, _, dx, _, _, rfl, ex, T.cl_Reckoning, T.na_Reckoning_one, ((lk_ne (by decide +kernel)).trans ((lk_ne (by decide +kernel)).trans ((lk_ne (by decide +kernel)).trans lk_eq))), ?_⟩
      walk_at "rd"
      rw [decide_eq_true rfl]
      exact k
end

theorem bd_div {n : Nat} {t b : Int} (nz : b ≠ 0) (ht : t.natAbs < 2 ^ n) (hb : b.natAbs < 2 ^ n) : Bd n (Rat.divInt t b) := by
  refine ⟨Nat.lt_of_le_of_lt ?_ ht, Nat.lt_of_le_of_lt ?_ hb⟩
  · rw [Rat.num_divInt]
    refine Nat.le_trans (Int.natAbs_ediv_le_natAbs _ _) ?_
    rw [Int.natAbs_mul]
    rcases Int.lt_trichotomy b 0 with h | h | h
    · rw [Int.sign_eq_neg_one_of_neg h]; simp
    · subst h; simp
    · rw [Int.sign_eq_one_of_pos h]; simp
  · rw [Rat.den_divInt, if_neg nz]; exact Nat.div_le_self _ _
theorem two_add {i j : Int} {n : Nat} (h1 : i.natAbs < 2 ^ n) (h2 : j.natAbs < 2 ^ n) : (i + j).natAbs < 2 ^ (n + 1) := by
  have := Int.natAbs_add_le i j
  rw [Nat.pow_succ]; omega
theorem two_sub {i j : Int} {n : Nat} (h1 : i.natAbs < 2 ^ n) (h2 : j.natAbs < 2 ^ n) : (i - j).natAbs < 2 ^ (n + 1) := by
  have := Int.natAbs_sub_le i j
  rw [Nat.pow_succ]; omega
theorem up2 {i : Int} {m n : Nat} (h : i.natAbs < 2 ^ m) (hn : m ≤ n) : i.natAbs < 2 ^ n := Nat.lt_of_lt_of_le h (Nat.pow_le_pow_right (by decide) hn)

/-! ### what the law holds on to -/
def spLaw (K : PySem.W.Frag) : Sp := fun vs H Q _ => ∃ (a : Addr) (ns : List Int), vs = [.ref a] ∧ SqL K H a (ns.map V.int) ∧ ns.length ≤ 63 ∧ ∀ H', Q (.bl true) H'
theorem RatAt.kp {C h c : Addr} {H H' : Hp} {a : Addr} {q : Rat} (r : RatAt C H a q) (hd : HandAt H h c) (k : Kp h H H') : RatAt C H' a q := by
  obtain ⟨dx, e⟩ := r
  refine ⟨dx, k _ _ (fun z => ?_) e⟩
  obtain ⟨cs, p, q', m, n, e1, _⟩ := hd
  rw [z, e1] at e; cases e
theorem NumsAt.kp {C CR h c : Addr} {H H' : Hp} {x : Addr} (r : NumsAt C CR H x) (hd : HandAt H h c) (k : Kp h H H') : NumsAt C CR H' x := by
  obtain ⟨dx, a, b, e, r1, r2⟩ := r
  refine ⟨dx, a, b, k _ _ (fun z => ?_) e, r1.kp hd k, r2.kp hd k⟩
  obtain ⟨cs, p, q', m, n, e1, _⟩ := hd
  rw [z, e1] at e; cases e
theorem Num.kp {C h c : Addr} {H H' : Hp} {v : V} {q : Rat} (r : Num C H v q) (hd : HandAt H h c) (k : Kp h H H') : Num C H' v q := r.imp (fun ⟨a, e, z⟩ => ⟨a, e, z.kp hd k⟩) id
/-- what is no number, in this law -/
inductive OddK (T : Addr × Addr × Addr) (H : Hp) : V → Prop
  | non : OddK T H .non
  | bl (b : Bool) : OddK T H (.bl b)
  | one : OddK T H (.str "1")
  | emp : OddK T H (.str "")
  | tup {p : Addr} (e : H p = some (.tup [.int 1])) : OddK T H (.ref p)
  | lst {p : Addr} (e : H p = some (.lst [.int 1])) : OddK T H (.ref p)
  | dct {p : Addr} (e : H p = some (.dK [])) : OddK T H (.ref p)
  | rek {p : Addr} (e : RekF T.1 H p 2 max min 0 1) : OddK T H (.ref p)
  | num {p : Addr} (e : NumsAt T.2.1 T.2.2 H p) : OddK T H (.ref p)
theorem RekF.same {C : Addr} {H H' : Hp} {x : Addr} {n : Nat} {J M : Nat → Nat → Nat} {z o : Nat} (h : RekF C H x n J M z o) (s : Same H H') : RekF C H' x n J M z o := by
  obtain ⟨dx, jt, pt, mt, lt, rt, e, t1, t2⟩ := h
  exact ⟨dx, jt, pt, mt, lt, rt, s _ _ e, t1.same s, t2.same s⟩
theorem OddK.same {T : Addr × Addr × Addr} {H H' : Hp} {v : V} (o : OddK T H v) (s : Same H H') : OddK T H' v := by
  cases o with
  | non => exact .non
  | bl b => exact .bl b
  | one => exact .one
  | emp => exact .emp
  | tup e => exact .tup (s _ _ e)
  | lst e => exact .lst (s _ _ e)
  | dct e => exact .dct (s _ _ e)
  | rek e => exact .rek (e.same s)
  | num e => exact .num (e.same s)
theorem TabT.kp {h c : Addr} {H H' : Hp} {a : Addr} {n : Nat} {f : Nat → Nat → Nat} (r : TabT H a n f) (hd : HandAt H h c) (k : Kp h H H') : TabT H' a n f := by
  obtain ⟨rs, l, e, q⟩ := r
  exact ⟨rs, l, k _ _ (hd.kpT e) e, fun i r z => k _ _ (hd.kpT (q i r z)) (q i r z)⟩
theorem insNe {H : Hp} {h c x C dx : Addr} {fs : List (Str × V)} (hd : HandAt H h c) (e : H x = some (.ins C dx fs)) : x ≠ h := fun z => by
  obtain ⟨cs, a, q, m, n, e1, _⟩ := hd
  rw [z, e1] at e; cases e
theorem RekF.kp {C h c : Addr} {H H' : Hp} {x : Addr} {n : Nat} {J M : Nat → Nat → Nat} {z o : Nat} (r : RekF C H x n J M z o) (hd : HandAt H h c) (k : Kp h H H') : RekF C H' x n J M z o := by
  obtain ⟨dx, jt, pt, mt, lt, rt, e, t1, t2⟩ := r
  exact ⟨dx, jt, pt, mt, lt, rt, k _ _ (insNe hd e) e, t1.kp hd k, t2.kp hd k⟩
theorem OddK.kp {T : Addr × Addr × Addr} {h c : Addr} {H H' : Hp} {v : V} (o : OddK T H v) (hd : HandAt H h c) (k : Kp h H H') : OddK T H' v := by
  cases o with
  | non => exact .non
  | bl b => exact .bl b
  | one => exact .one
  | emp => exact .emp
  | tup e => exact .tup (k _ _ (hd.kpT e) e)
  | lst e => exact .lst (k _ _ (hd.kpNe (by decide) e) e)
  | dct e => exact .dct (k _ _ (fun z => by obtain ⟨cs, a, q, m, n, e1, _⟩ := hd; rw [z, e1] at e; cases e) e)
  | rek e => exact .rek (e.kp hd k)
  | num e => exact .num (e.kp hd k)
section
variable {K : PySem.W.Frag} {mg : Str → Option Value} {H : Hp}
abbrev T3 (T : Top K mg) : Addr × Addr × Addr := (T.C_Reckoning, T.C_Numbers, T.C_Ratio)
theorem tyN (T : Top K mg) {x : Addr} (h : NumsAt T.C_Numbers T.C_Ratio H x) : TyX K H (.ref x) (.ref T.C_Numbers) := by
  obtain ⟨dx, a, b, e, _⟩ := h
  exact .base (.ins e T.cl_Numbers T.ha_Numbers T.hnO T.htO T.hm_Numbers)
theorem tyK (T : Top K mg) {x : Addr} (h : RekF T.C_Reckoning H x 2 max min 0 1) : TyX K H (.ref x) (.ref T.C_Reckoning) := by
  obtain ⟨dx, jt, pt, mt, lt, rt, e, _⟩ := h
  exact .base (.ins e T.cl_Reckoning T.ha_Reckoning T.hnO T.htO T.hm_Reckoning)
theorem tyLe (T : Top K mg) {x : Addr} (h : LenAt T.C_Lengths H x) : TyX K H (.ref x) (.ref T.C_Lengths) := by
  obtain ⟨dx, e⟩ := h
  exact .base (.ins e T.cl_Lengths T.ha_Lengths T.hnO T.htO T.hm_Lengths)
theorem OddK.noNum (T : Top K mg) {v : V} (o : OddK (T3 T) H v) : NoNum K T.C_Ratio H v := by
  cases o with
  | non => exact ⟨_, .base .non, (T.kT "NoneType" (by simp)).1, isI_non⟩
  | bl b => exact ⟨_, .base (.bl b), (T.kT "bool" (by simp)).1, isI_bl b⟩
  | one => exact ⟨_, .base (.str _), (T.kT "str" (by simp)).1, isI_str _⟩
  | emp => exact ⟨_, .base (.str _), (T.kT "str" (by simp)).1, isI_str _⟩
  | tup e => exact ⟨_, .base (.tup e), (T.kT "tuple" (by simp)).1, isI_tup e⟩
  | lst e => exact ⟨_, .base (.lst e), (T.kT "list" (by simp)).1, isI_lst e⟩
  | dct e => exact ⟨_, .base (.dK e), (T.kT "dict" (by simp)).1, isI_dK e⟩
  | rek e => exact ⟨_, tyK T e, T.kP_Reckoning_Ratio.1, ⟨_, false, false, tyK T e, T.kI_Reckoning, T.kB_Reckoning, rfl⟩⟩
  | num e => exact ⟨_, tyN T e, T.kP_Numbers_Ratio.1, ⟨_, false, false, tyN T e, T.kI_Numbers, T.kB_Numbers, rfl⟩⟩
theorem OddK.isB (T : Top K mg) {v : V} (o : OddK (T3 T) H v) : ∃ (t : Value) (b : Bool), TyX K H v t ∧ PySem.W.kitOne K t (.type "bool") = some b := by
  cases o with
  | non => exact ⟨_, false, .base .non, kit_ty (by decide +kernel)⟩
  | bl b => exact ⟨_, true, .base (.bl b), kit_ty (by decide +kernel)⟩
  | one => exact ⟨_, false, .base (.str _), kit_ty (by decide +kernel)⟩
  | emp => exact ⟨_, false, .base (.str _), kit_ty (by decide +kernel)⟩
  | tup e => exact ⟨_, false, .base (.tup e), kit_ty (by decide +kernel)⟩
  | lst e => exact ⟨_, false, .base (.lst e), kit_ty (by decide +kernel)⟩
  | dct e => exact ⟨_, false, .base (.dK e), kit_ty (by decide +kernel)⟩
  | rek e => exact ⟨_, false, tyK T e, T.kB_Reckoning⟩
  | num e => exact ⟨_, false, tyN T e, T.kB_Numbers⟩
theorem nf_self {C : Addr} : PySem.W.notFirst K C (.ref C) = true := by unfold PySem.W.notFirst; simp
theorem OddK.ne (T : Top K mg) {v : V} {Q : VK} {E1 E2 : XK} (o : OddK (T3 T) H v) (q : Q (.bl false) H) :
    rNeD K v v H Q ∨ rNeDA v v H Q ∨ OQ.rOwnNe K T.C_Reckoning (spRekEq K T.C_Reckoning) E1 v v H Q ∨ OQ.rOwnNe K T.C_Numbers (spIsOf K T.C_Numbers) E2 v v H Q := by
  have D : ∀ d : PyData, Dp K H v d → SeqAt.shaped d = true → PyData.eqv d d = true → rNeD K v v H Q := fun d h1 h2 h3 => ⟨d, d, h1, h1, h2, h2, by rw [h3]; exact q⟩
  cases o with
  | non => exact .inl (D _ .non (by decide) (by decide))
  | bl b => exact .inl (D _ (.bl b) (by cases b <;> decide) (by cases b <;> decide))
  | one => exact .inl (D _ (.str _) (by decide +kernel) (by simp [PyData.eqv]))
  | emp => exact .inl (D _ (.str _) (by decide +kernel) (by simp [PyData.eqv]))
  | tup e => exact .inl (D _ (.tup (SqT.of e) (.cons (.int _) .nil)) (by decide +kernel) (by simp [PyData.eqv, PyData.eqvAll]))
  | lst e => exact .inl (D _ (.lst (SqL.of e) (.cons (.int _) .nil)) (by decide +kernel) (by simp [PyData.eqv, PyData.eqvAll]))
  | dct e => exact .inr (.inl ⟨_, _, _, _, rfl, rfl, e, e, rfl, (fun p hp => nomatch hp), q⟩)
  | @rek p e =>
    obtain ⟨dx, jt, pt, mt, lt, rt, ex, _⟩ := id e
    exact .inr (.inr (.inl ⟨p, dx, _, _, rfl, ex, tyK T e, nf_self, p, .ref p, rfl, e, .inr ⟨rfl, true, rfl, q⟩⟩))
  | @num p e =>
    obtain ⟨dx, a, b, ex, _⟩ := id e
    exact .inr (.inr (.inr ⟨p, dx, _, _, rfl, ex, tyN T e, nf_self, _, _, _, true, rfl, tyN T e, kit_selfR, true, rfl, q⟩))
end
/-- what Numbers() is not equal to -/
inductive Thing {K : PySem.W.Frag} {mg : Str → Option Value} (T : Top K mg) (H : Hp) : V → Prop
  | plain {y : V} (n : String) (hn : n ∈ ["NoneType", "int", "str", "list"]) (h : OQ.Plain4 K H y n) (ty : TyX K H y (.type n)) : Thing T H y
  | rek {p : Addr} (e : RekF T.C_Reckoning H p 2 max min 0 1) : Thing T H (.ref p)
  | len {p : Addr} (e : LenAt T.C_Lengths H p) : Thing T H (.ref p)
  | rat {p : Addr} {q : Rat} (e : RatAt T.C_Ratio H p q) : Thing T H (.ref p)
theorem sub7 {n : String} (h : n ∈ ["NoneType", "int", "str", "list"]) : n ∈ ["NoneType", "bool", "int", "str", "list", "tuple", "dict"] := by
  simp only [List.mem_cons, List.not_mem_nil, or_false] at h ⊢
  rcases h with h | h | h | h
  · exact .inl h
  · exact .inr (.inr (.inl h))
  · exact .inr (.inr (.inr (.inl h)))
  · exact .inr (.inr (.inr (.inr (.inl h))))
section
variable {K : PySem.W.Frag} {mg : Str → Option Value} {T : Top K mg} {H : Hp} {y : V} {x : Addr} {Q : VK} {E E2 E3 E4 : XK}
theorem Thing.ty (h : Thing T H y) : ∃ t, TyX K H y t ∧ PySem.W.kitOne K t (.ref T.C_Numbers) = some false ∧ PySem.W.notFirst K T.C_Numbers t = true := by
  cases h with
  | plain n hn h ty => exact ⟨_, ty, (T.kT_Numbers n (sub7 hn)).1, (T.kT_Numbers n (sub7 hn)).2⟩
  | rek e => exact ⟨_, tyK T e, T.kP_Reckoning_Numbers.1, T.kP_Reckoning_Numbers.2⟩
  | len e => exact ⟨_, tyLe T e, T.kP_Lengths_Numbers.1, T.kP_Lengths_Numbers.2⟩
  | rat e => exact ⟨_, tyR T e, T.kP_Ratio_Numbers.1, T.kP_Ratio_Numbers.2⟩
theorem Thing.fore (h : Thing T H y) (hN : NumsAt T.C_Numbers T.C_Ratio H x) (k : Q (.bl false) H) : OQ.rOwnEq K T.C_Numbers (spIsOf K T.C_Numbers) E (.ref x) y H Q := by
  obtain ⟨t, ty, e, nf⟩ := h.ty
  obtain ⟨dx, a, b, ex, _⟩ := hN
  exact ⟨x, dx, _, t, rfl, ex, ty, nf, _, _, t, false, rfl, ty, e, k⟩
theorem Thing.back (h : Thing T H y) (hN : NumsAt T.C_Numbers T.C_Ratio H x) (k : Q (.bl false) H) :
    OQ.rBackEq K T.C_Numbers (spIsOf K T.C_Numbers) E y (.ref x) H Q ∨ OQ.rOwnEq K T.C_Reckoning (spRekEq K T.C_Reckoning) E2 y (.ref x) H Q ∨ OQ.rOwnEq K T.C_Lengths (spIsOf K T.C_Lengths) E3 y (.ref x) H Q ∨ OQ.rOwnEq K T.C_Ratio (spEq K T.C_Ratio) E4 y (.ref x) H Q := by
  have tn := tyN T hN
  obtain ⟨dx, a, b, ex, _⟩ := id hN
  cases h with
  | plain n hn h ty => exact .inl ⟨x, dx, _, n, rfl, ex, h, T.sb_Numbers n hn, _, _, _, false, rfl, ty, (T.kT_Numbers n (sub7 hn)).1, k⟩
  | @rek p e =>
    obtain ⟨d, jt, pt, mt, lt, rt, ep, _⟩ := id e
    exact .inr (.inl ⟨p, d, _, _, rfl, ep, tn, T.kP_Numbers_Reckoning.2, p, .ref x, rfl, e, .inl ⟨_, tn, T.kP_Numbers_Reckoning.1, k⟩⟩)
  | @len p e =>
    obtain ⟨d, ep⟩ := id e
    exact .inr (.inr (.inl ⟨p, d, _, _, rfl, ep, tn, T.kP_Numbers_Lengths.2, _, _, _, false, rfl, tn, T.kP_Numbers_Lengths.1, k⟩))
  | @rat p q e =>
    obtain ⟨d, ep⟩ := id e
    exact .inr (.inr (.inr ⟨p, d, _, _, rfl, ep, tn, T.kP_Numbers_Ratio.2, p, q, .ref x, rfl, e, .inr (.inr ⟨_, tn, T.kP_Numbers_Ratio.1, ⟨_, false, false, tn, T.kI_Numbers, T.kB_Numbers, rfl⟩, k⟩)⟩))
end
structure Fx {K : PySem.W.Frag} {mg : Str → Option Value} (T : Top K mg) (h c x : Addr) (one other odd : V) (q1 q2 : Rat) (H : Hp) : Prop where
  hd : HandAt H h c
  hN : NumsAt T.C_Numbers T.C_Ratio H x
  n1 : Num T.C_Ratio H one q1
  n2 : Num T.C_Ratio H other q2
  ok : OddK (T3 T) H odd
theorem Fx.same {K : PySem.W.Frag} {mg : Str → Option Value} {T : Top K mg} {h c x : Addr} {one other odd : V} {q1 q2 : Rat} {H H' : Hp} (f : Fx T h c x one other odd q1 q2 H) (s : Same H H') : Fx T h c x one other odd q1 q2 H' :=
  ⟨f.hd.same s, f.hN.same s, f.n1.same s, f.n2.same s, f.ok.same s⟩
theorem d_gtupN {K : PySem.W.Frag} {p : Addr} {v w : V} {i j : Nat} {σ : L2.St} {H : Hp} {R : L2.St → Hp → Prop} (hs : SqT K H p [v, w]) (h : R ((σ.set i (some v)).set j (some w)) H) :
    gTup K 2 (gCons (gName i) (gCons (gName j) gNil)) (.ref p) σ H R := ⟨p, [v, w], rfl, hs, rfl, v, [w], rfl, w, [], rfl, rfl, h⟩
/-- what stands between the law's questions -/
theorem noneNe {K : PySem.W.Frag} {H : Hp} {a b : Addr} {Q : VK} (e1 : H a = some (.tup [.str "none", .int 0])) (e2 : H b = some (.tup [.str "none", .int 0])) (k : Q (.bl false) H) : rNeD K (.ref a) (.ref b) H Q := by
  refine ⟨_, _, .tup (SqT.of e1) (.cons (.str _) (.cons (.int _) .nil)), .tup (SqT.of e2) (.cons (.str _) (.cons (.int _) .nil)), by decide +kernel, by decide +kernel, ?_⟩
  rw [SeqAt.eqv_refl _ (by decide +kernel)]
  exact k
theorem prod_lt {i j : Int} {m n : Nat} (hi : i.natAbs < 2 ^ m) (hj : j.natAbs < 2 ^ n) : (i * j).natAbs < 2 ^ (m + n) := by
  rw [Int.natAbs_mul, Nat.pow_add]
  exact Nat.mul_lt_mul'' hi hj
theorem sum_lt {i j : Int} {n : Nat} (hi : i.natAbs < 2 ^ n) (hj : j.natAbs < 2 ^ n) : (i + j).natAbs < 2 ^ (n + 1) := by
  have h := Int.natAbs_add_le i j
  have e : 2 ^ (n + 1) = 2 ^ n + 2 ^ n := by rw [Nat.pow_succ]; omega
  omega
theorem pw {a : Nat} {m n : Nat} (h : a < 2 ^ m) (l : m ≤ n) : a < 2 ^ n := Nat.lt_of_lt_of_le h (Nat.pow_le_pow_right (by decide) l)

section
variable {P : Program} {w : World} {K : PySem.W.Frag} {mg : Str → Option Value} {base : Heap}
theorem ok_law (T : Top K mg) : FnOk P w K mg base CX0 18 T.f_law T.fd_law ["script"] (spLaw K) := by
  refine T.F_law.ok sc_law (fun vs H Q E h => ?_) (fun cdv A outer s H vs Q E hr h => ?_)
  · obtain ⟨a, ns, rfl, _⟩ := h; rfl
  · obtain ⟨ad, ns, rfl, hS, hl, k⟩ := h
    obtain ⟨ds1, hv_Ratio__init, hb_Ratio__init⟩ := T.b1_Ratio__init
    refine ⟨_, (C8.pss_cut (ps_set (i := 1) sc_law.nd rfl (Or.inl rfl) (pe_call (ok_law_hand T) (hr.mono (by decide)) (by rfl) T.g_law_hand T.F_law_hand.kp T.b_law_hand .nil pass0 (pa_cons (pv 0) pa_nil)))
 (C8.pss_cut (ps_set (i := 2) sc_law.nd rfl (Or.inl rfl) (pe_make0 T.M_Numbers (ok_Numbers__init T) (hr.mono (by decide)) (by rfl) T.g_Numbers T.b_Numbers__init .nil pass0))
 (C8.pss_cut (ps_if (PW.pt (pw_or (pt_not (pt_val (pe_call (ok_law_is T) (hr.mono (by decide)) (by rfl) T.g_law_is T.F_law_is.kp T.b_law_is .nil pass0 (pa_cons (pe_fld (pv 2) (by rfl)) (pa_cons pe_int (pa_cons pe_int pa_nil)))))) (pw_or1 (pt_not (pt_val (pe_call (ok_law_is T) (hr.mono (by decide)) (by rfl) T.g_law_is T.F_law_is.kp T.b_law_is .nil pass0 (pa_cons (pe_fld (pv 2) (by rfl)) (pa_cons pe_int (pa_cons pe_int pa_nil)))))))))
 (pss_one (ps_ret pe_bl))
 pss_nil)
 (C8.pss_cut (ps_for PassesOwn.never rfl (pi_range1 (by rfl) T.n_range (pa_cons pe_int pa_nil)) (pg_name (i := 3) sc_law.nd rfl (Or.inl rfl))
 (pss_cons (ps_set (i := 4) sc_law.nd rfl (Or.inl rfl) (pe_call (ok_law_pair T) (hr.mono (by decide)) (by rfl) T.g_law_pair T.F_law_pair.kp T.b_law_pair .nil pass0 (pa_cons (pv 1) pa_nil)))
 (pss_cons (ps_set (i := 5) sc_law.nd rfl (Or.inl rfl) (pe_call (ok_law_pair T) (hr.mono (by decide)) (by rfl) T.g_law_pair T.F_law_pair.kp T.b_law_pair .nil pass0 (pa_cons (pv 1) pa_nil)))
 (pss_cons (ps_set (i := 6) sc_law.nd rfl (Or.inl rfl) (pe_call (ok_law_handed T) (hr.mono (by decide)) (by rfl) T.g_law_handed T.F_law_handed.kp T.b_law_handed .nil pass0 (pa_cons (pv 1) (pa_cons (pv 4) pa_nil))))
 (C8.pss_cut (ps_set (i := 7) sc_law.nd rfl (Or.inl rfl) (pe_call (ok_law_handed T) (hr.mono (by decide)) (by rfl) T.g_law_handed T.F_law_handed.kp T.b_law_handed .nil pass0 (pa_cons (pv 1) (pa_cons (pv 5) pa_nil))))
 (pss_cons (ps_set (i := 8) sc_law.nd rfl (Or.inl rfl) (pe_op op_mulW (pe_ix ix_tup (pv 4) pe_int (fun _ _ => rfl)) (pe_ix ix_tup (pv 5) pe_int (fun _ _ => rfl))))
 (C8.pss_cut (ps_if (pt_not (pt_val (pe_call (ok_law_is T) (hr.mono (by decide)) (by rfl) T.g_law_is T.F_law_is.kp T.b_law_is .nil pass0 (pa_cons (pe_meth (pv 2) T.cl_Numbers T.m_Numbers_join (ok_Numbers_join T) (hr.mono (by decide)) T.b_Numbers_join .nil OQ.passN (pa_cons (pv 6) (pa_cons (pv 7) pa_nil))) (pa_cons (pe_op op_add (pe_op op_mulW (pe_ix ix_tup (pv 4) pe_int (fun _ _ => rfl)) (pe_ix ix_tup (pv 5) pe_int (fun _ _ => rfl))) (pe_op op_mulW (pe_ix ix_tup (pv 5) pe_int (fun _ _ => rfl)) (pe_ix ix_tup (pv 4) pe_int (fun _ _ => rfl)))) (pa_cons (pv 8) pa_nil))))))
 (pss_one (ps_ret pe_bl))
 pss_nil)
 (C8.pss_cut (ps_if (pt_not (pt_val (pe_call (ok_law_is T) (hr.mono (by decide)) (by rfl) T.g_law_is T.F_law_is.kp T.b_law_is .nil pass0 (pa_cons (pe_meth (pv 2) T.cl_Numbers T.m_Numbers_times (ok_Numbers_times T) (hr.mono (by decide)) T.b_Numbers_times .nil OQ.passN (pa_cons (pv 6) (pa_cons (pv 7) pa_nil))) (pa_cons (pe_op op_mulW (pe_ix ix_tup (pv 4) pe_int (fun _ _ => rfl)) (pe_ix ix_tup (pv 5) pe_int (fun _ _ => rfl))) (pa_cons (pv 8) pa_nil))))))
 (pss_one (ps_ret pe_bl))
 pss_nil)
 (C8.pss_cut (ps_set (i := 9) sc_law.nd rfl (Or.inl rfl) (pe_ix ix_list (pe_lst (pa_cons pe_non (pa_cons pe_bl (pa_cons pe_bl (pa_cons pe_str (pa_cons pe_str (pa_cons (pe_tup (pa_cons pe_int pa_nil)) (pa_cons (pe_lst (pa_cons pe_int pa_nil)) (pa_cons pe_dnewK (pa_cons (pe_call0 (ok_yes_no T) (hr.mono (by decide)) (by rfl) T.g_yes_no T.F_yes_no.kp T.b_yes_no .nil pass0) (pa_cons (pv 2) pa_nil))))))))))) (pe_call (ok_law_draw T) (hr.mono (by decide)) (by rfl) T.g_law_draw T.F_law_draw.kp T.b_law_draw .nil pass0 (pa_cons (pv 1) (pa_cons pe_int pa_nil))) (fun _ _ => rfl)))
 (C8.pss_cut (ps_for PassesOwn.never rfl (pi_list (pe_lst (pa_cons (pe_tup (pa_cons (pv 6) (pa_cons pe_bl pa_nil))) (pa_cons (pe_tup (pa_cons (pv 7) (pa_cons pe_bl pa_nil))) (pa_cons (pe_tup (pa_cons (pv 9) (pa_cons pe_bl pa_nil))) pa_nil))))) (pg_tup (by rfl) (pgs_cons (pg_name (i := 10) sc_law.nd rfl (Or.inl rfl)) (pgs_cons (pg_name (i := 11) sc_law.nd rfl (Or.inl rfl)) pgs_nil)))
 (pss_cons (ps_set (i := 12) sc_law.nd rfl (Or.inl rfl) (pe_meth (pv 2) T.cl_Numbers T.m_Numbers_is_worth (ok_Numbers_is_worth T) (hr.mono (by decide)) T.b_Numbers_is_worth .nil pass0 (pa_cons (pv 10) pa_nil)))
 (pss_one (ps_if (PW.pt (pw_or (pt_not (pt_val (pe_callB call_isi (by rfl) T.n_isinstance (by decide +kernel) (pa_cons (pv 12) (pa_cons (pe_bltn (v := V.ty "bool") (by rfl) T.n_bool (by decide +kernel) rfl) pa_nil))))) (pw_or1 (pt_cmpR op_ne (pv 12) (pv 11) (nomark _)))))
 (pss_one (ps_ret pe_bl))
 pss_nil))))
 (pss_one (ps_for PassesOwn.never rfl (pi_range1 (by rfl) T.n_range (pa_cons pe_int pa_nil)) (pg_name (i := 13) sc_law.nd rfl (Or.inl rfl))
 (C8.pss_cut (ps_if (pt_cmpR (op_neD hr.units) (pe_call (ok_law_refused T) (hr.mono (by decide)) (by rfl) T.g_law_refused T.F_law_refused.kp T.b_law_refused .nil pass0 (pa_cons (pv 13) (pa_cons (pv 6) (pa_cons (pv 7) pa_nil)))) (pe_tup (pa_cons pe_str (pa_cons pe_int pa_nil))) (nomark _))
 (pss_one (ps_ret pe_bl))
 pss_nil)
 (pss_one (ps_for PassesOwn.never rfl (pi_list (pe_lst (pa_cons (pe_call (ok_law_refused T) (hr.mono (by decide)) (by rfl) T.g_law_refused T.F_law_refused.kp T.b_law_refused .nil pass0 (pa_cons (pv 13) (pa_cons (pv 9) (pa_cons (pv 7) pa_nil)))) (pa_cons (pe_call (ok_law_refused T) (hr.mono (by decide)) (by rfl) T.g_law_refused T.F_law_refused.kp T.b_law_refused .nil pass0 (pa_cons (pv 13) (pa_cons (pv 6) (pa_cons (pv 9) pa_nil)))) (pa_cons (pe_call (ok_law_refused T) (hr.mono (by decide)) (by rfl) T.g_law_refused T.F_law_refused.kp T.b_law_refused .nil pass0 (pa_cons (pv 13) (pa_cons (pv 9) (pa_cons pe_non pa_nil)))) pa_nil))))) (pg_name (i := 14) sc_law.nd rfl (Or.inl rfl))
 (pss_one (ps_if (PW.pt (pw_or (pt_cmpR op_ne (pe_ix ix_tup (pv 14) pe_int (fun _ _ => rfl)) pe_str (nomark _)) (pw_or (pt_cmpR (OQ.op_or (op_neD hr.units) (OQ.op_or (op_ne_dictA hr.units0) (OQ.op_or (OQ.op_ownNe (ok_Reckoning__eq T) (hr.mono (by decide)) T.m_Reckoning__eq.at_ T.m_Reckoning__eq.fn T.ne_Reckoning T.hm_Reckoning T.b_Reckoning__eq pass0) (OQ.op_ownNe (ok_Numbers__eq T) (hr.mono (by decide)) T.m_Numbers__eq.at_ T.m_Numbers__eq.fn T.ne_Numbers T.hm_Numbers T.b_Numbers__eq pass0)))) (pe_ix ix_tup (pv 14) pe_int (fun _ _ => rfl)) (pv 9) (nomark _)) (pw_or1 (pt_cmpR op_ne (pe_callB call_isi (by rfl) T.n_isinstance (by decide +kernel) (pa_cons (pe_ix ix_tup (pv 14) pe_int (fun _ _ => rfl)) (pa_cons (pe_bltn (v := V.ty "bool") (by rfl) T.n_bool (by decide +kernel) rfl) pa_nil))) (pe_callB call_isi (by rfl) T.n_isinstance (by decide +kernel) (pa_cons (pv 9) (pa_cons (pe_bltn (v := V.ty "bool") (by rfl) T.n_bool (by decide +kernel) rfl) pa_nil))) (nomark _))))))
 (pss_one (ps_ret pe_bl))
 pss_nil)))))))))))))))))
 (C8.pss_cut (ps_for PassesOwn.never rfl (pi_list (pe_lst (pa_cons pe_non (pa_cons pe_int (pa_cons pe_int (pa_cons (pe_call0 (ok_yes_no T) (hr.mono (by decide)) (by rfl) T.g_yes_no T.F_yes_no.kp T.b_yes_no .nil pass0) (pa_cons (pe_make0 T.M_Lengths (ok_Lengths__init T) (hr.mono (by decide)) (by rfl) T.g_Lengths T.b_Lengths__init .nil pass0) (pa_cons (pe_make T.M_Ratio (ok_Ratio__init T) (hr.mono (by decide)) (by rfl) T.g_Ratio hb_Ratio__init hv_Ratio__init OQ.passN (pa_cons pe_int pa_nil)) (pa_cons pe_str (pa_cons (pe_lst pa_nil) pa_nil)))))))))) (pg_name (i := 10) sc_law.nd rfl (Or.inl rfl))
 (pss_one (ps_if (PW.pt (pw_or (pt_cmpR (OQ.op_ownEq (ok_Numbers__eq T) (hr.mono (by decide)) T.m_Numbers__eq.at_ T.m_Numbers__eq.fn T.b_Numbers__eq pass0) (pv 2) (pv 10) (nomark _)) (pw_or1 (pt_cmpR (OQ.op_or (OQ.op_backEq (ok_Numbers__eq T) (hr.mono (by decide)) T.m_Numbers__eq.at_ T.m_Numbers__eq.fn T.b_Numbers__eq pass0) (OQ.op_or (OQ.op_ownEq (ok_Reckoning__eq T) (hr.mono (by decide)) T.m_Reckoning__eq.at_ T.m_Reckoning__eq.fn T.b_Reckoning__eq pass0) (OQ.op_or (OQ.op_ownEq (ok_Lengths__eq T) (hr.mono (by decide)) T.m_Lengths__eq.at_ T.m_Lengths__eq.fn T.b_Lengths__eq pass0) (OQ.op_ownEq (ok_Ratio__eq T) (hr.mono (by decide)) T.m_Ratio__eq.at_ T.m_Ratio__eq.fn T.b_Ratio__eq pass0)))) (pv 10) (pv 2) (nomark _)))))
 (pss_one (ps_ret pe_bl))
 pss_nil)))
 (pss_one (ps_ret (pe_and (pe_cmpR (OQ.op_ownEq (ok_Numbers__eq T) (hr.mono (by decide)) T.m_Numbers__eq.at_ T.m_Numbers__eq.fn T.b_Numbers__eq pass0) (pv 2) (pe_make0 T.M_Numbers (ok_Numbers__init T) (hr.mono (by decide)) (by rfl) T.g_Numbers T.b_Numbers__init .nil pass0) (nomark _)) (pe_one (pe_not (pe_cmpR (OQ.op_ownNe (ok_Numbers__eq T) (hr.mono (by decide)) T.m_Numbers__eq.at_ T.m_Numbers__eq.fn T.ne_Numbers T.hm_Numbers T.b_Numbers__eq pass0) (pv 2) (pe_make0 T.M_Numbers (ok_Numbers__init T) (hr.mono (by decide)) (by rfl) T.g_Numbers T.b_Numbers__init .nil pass0) (nomark _)))))))))))), ?_⟩
    refine RD.d_cut (fun σ' H' => ∃ (h c : Addr), σ' = [some (.ref ad), some (.ref h), none, none, none, none, none, none, none, none, none, none, none, none, none] ∧ HandAt H' h c) ?_ ?_
    · walk_at "rd"
      refine ⟨ad, ns, rfl, hS, hl, fun h c H1 hd1 _ _ => ?_⟩
      walk_at "rd"
      exact ⟨h, c, rfl, hd1⟩
    rintro σ' H1 ⟨h, c, rfl, hd1⟩
    refine RD.d_cut (fun σ' H' => ∃ (x : Addr), σ' = [some (.ref ad), some (.ref h), some (.ref x), none, none, none, none, none, none, none, none, none, none, none, none] ∧ HandAt H' h c ∧ NumsAt T.C_Numbers T.C_Ratio H' x) ?_ ?_
    · walk_at "rd"
      intro x dx nx ndx ne
      have s1 := same_made (C := T.C_Numbers) nx ndx ne
      refine ⟨x, dx, rfl, upd_same, fun H2 kx hN => ⟨rfl, ?_⟩⟩
      have sH : Same H1 H2 := fun b' u e => kx _ _ (ne_of_none e nx) (s1 _ _ e)
      exact ⟨x, rfl, hd1.same sH, hN⟩
    clear hd1
    rintro σ' H1 ⟨x, rfl, hd1, hN1⟩
    refine RD.d_cut (fun σ' H' => σ' = [some (.ref ad), some (.ref h), some (.ref x), none, none, none, none, none, none, none, none, none, none, none, none] ∧ H' = H1) ?_ ?_
    · obtain ⟨dx, ra, rb, ex, r0, r1⟩ := id hN1
      walk_at "rd"
      refine ⟨x, _, dx, _, _, rfl, ex, T.cl_Numbers, T.na_Numbers_none, lk_eq, ?_⟩
      walk_at "rd"
      refine ⟨ra, 0, 1, 0, rfl, r0, ⟨by decide, by decide⟩, by decide, by decide, by decide, (rat_one 0).symm, ?_⟩
      walk_at "rd"
      refine ⟨x, _, dx, _, _, rfl, ex, T.cl_Numbers, T.na_Numbers_one, (lk_ne (by decide +kernel)).trans lk_eq, ?_⟩
      walk_at "rd"
      refine ⟨rb, 1, 1, 1, rfl, r1, ⟨by decide, by decide⟩, by decide, by decide, by decide, (rat_one 1).symm, ?_⟩
      walk_at "rd"
      exact ⟨rfl, rfl⟩
    rintro σ' H2 ⟨rfl, rfl⟩
    refine RD.d_cut (fun σ' H' => ∃ v3 v4 v5 v6 v7 v8 v9 v10 v11 v12 v13 v14 : Option V, σ' = [some (.ref ad), some (.ref h), some (.ref x), v3, v4, v5, v6, v7, v8, v9, v10, v11, v12, v13, v14] ∧ HandAt H' h c ∧ NumsAt T.C_Numbers T.C_Ratio H' x) ?_ ?_
    · walk_at "rd"
      refine ⟨4, rfl, by decide, by decide, ?_⟩
      refine RD.f_range (lo := 0) (n := 4) (fun t σ' H' => ∃ v3 v4 v5 v6 v7 v8 v9 v10 v11 v12 v13 v14 : Option V, σ' = [some (.ref ad), some (.ref h), some (.ref x), v3, v4, v5, v6, v7, v8, v9, v10, v11, v12, v13, v14] ∧ HandAt H' h c ∧ NumsAt T.C_Numbers T.C_Ratio H' x) ⟨none, none, none, none, none, none, none, none, none, none, none, none, rfl, hd1, hN1⟩ ?_ ?_
      · clear hd1 hN1
        rintro t σ' H3 ht ⟨v3, v4, v5, v6, v7, v8, v9, v10, v11, v12, v13, v14, rfl, hd3, hN3⟩
        walk_at "rd"
        refine ⟨h, c, rfl, hd3, fun i1 j1 p1 H4 si1 sj1 nz1 hd4 ep1 k4 => ?_⟩
        have hN4 := hN3.kp hd3 k4
        walk_at "rd"
        refine ⟨h, c, rfl, hd4, fun i2 j2 p2 H5 si2 sj2 nz2 hd5 ep2 k5 => ?_⟩
        have hN5 := hN4.kp hd4 k5
        replace ep1 := k5 _ _ (hd4.kpT ep1) ep1
        walk_at "rd"
        refine ⟨h, c, p1, i1, j1, rfl, hd5, ep1, si1, sj1, nz1, fun one H6 n1 hd6 k6 => ?_⟩
        have hN6 := hN5.kp hd5 k6
        replace ep1 := k6 _ _ (hd5.kpT ep1) ep1
        replace ep2 := k6 _ _ (hd5.kpT ep2) ep2
        clear hN3 hN4 hN5 hd3 hd4 hd5 k4 k5 k6
        walk_at "rd"
        refine RD.d_cut (fun σ' H' => ∃ other, σ' = [some (.ref ad), some (.ref h), some (.ref x), some (.int (0 + t)), some (.ref p1), some (.ref p2), some one, some other, v8, v9, v10, v11, v12, v13, v14] ∧ HandAt H' h c ∧ NumsAt T.C_Numbers T.C_Ratio H' x ∧ H' p1 = some (.tup [.int i1, .int j1]) ∧ H' p2 = some (.tup [.int i2, .int j2]) ∧ Num T.C_Ratio H' one (Rat.divInt i1 j1) ∧ Num T.C_Ratio H' other (Rat.divInt i2 j2)) ?_ ?_
        · walk_at "rd"
          refine ⟨h, c, p2, i2, j2, rfl, hd6, ep2, si2, sj2, nz2, fun other H7 n2 hd7 k7 => ?_⟩
          walk_at "rd"
          exact ⟨other, rfl, hd7, hN6.kp hd6 k7, k7 _ _ (hd6.kpT ep1) ep1, k7 _ _ (hd6.kpT ep2) ep2, n1.kp hd6 k7, n2⟩
        clear hd6 hN6 ep1 ep2 n1
        rintro σ' H7 ⟨other, rfl, hd7, hN7, ep1, ep2, n1, n2⟩
        have b1 : Bd 2000 (Rat.divInt i1 j1) := (bd_div (n := 150) nz1 si1 (pw sj1 (by decide))).mono (by decide)
        have b2 : Bd 2000 (Rat.divInt i2 j2) := (bd_div (n := 150) nz2 si2 (pw sj2 (by decide))).mono (by decide)
        walk_at "rd"
        refine RD.d_rI (wm sj1 sj2 (by decide) (by decide) (by decide)) ?_
        walk_at "rd"
        have eadd : Rat.divInt i1 j1 + Rat.divInt i2 j2 = Rat.divInt (i1 * j2 + i2 * j1) (j1 * j2) := Rat.divInt_add_divInt _ _ nz1 nz2
        have emul : Rat.divInt i1 j1 * Rat.divInt i2 j2 = Rat.divInt (i1 * i2) (j1 * j2) := Rat.divInt_mul_divInt _ _
        refine RD.d_cut (fun σ' H' => σ' = [some (.ref ad), some (.ref h), some (.ref x), some (.int (0 + t)), some (.ref p1), some (.ref p2), some one, some other, some (.int (j1 * j2)), v9, v10, v11, v12, v13, v14] ∧ HandAt H' h c ∧ NumsAt T.C_Numbers T.C_Ratio H' x ∧ H' p1 = some (.tup [.int i1, .int j1]) ∧ H' p2 = some (.tup [.int i2, .int j2]) ∧ Num T.C_Ratio H' one (Rat.divInt i1 j1) ∧ Num T.C_Ratio H' other (Rat.divInt i2 j2)) ?_ ?_
        · obtain ⟨dz, ra, rb, ez, _⟩ := id hN7
          walk_at "rd"
          refine ⟨x, dz, _, rfl, ez, (lk_ne (by decide +kernel)).trans (lk_ne (by decide +kernel)), ?_⟩
          walk_at "rd"
          refine ⟨x, one, other, rfl, hN7, .inl ⟨_, _, n1, n2, b1, b2, fun c8 H8 s8 hc => ?_⟩⟩
          have f1 := s8 _ _ ep1
          have f2 := s8 _ _ ep2
          walk_at "rd"
          refine RD.d_rI (wm si1 sj2 (by decide) (by decide) (by decide)) ?_
          walk_at "rd"
          refine RD.d_rI (wm si2 sj1 (by decide) (by decide) (by decide)) ?_
          walk_at "rd"
          refine ⟨c8, _, _, _, rfl, hc, ?_, Int.mul_ne_zero nz1 nz2, pw (sum_lt (prod_lt si1 sj2) (prod_lt si2 sj1)) (by decide), pw (prod_lt sj1 sj2) (by decide), eadd, ?_⟩
          · show Bd 2000 (Rat.divInt i1 j1 + Rat.divInt i2 j2)
            rw [eadd]
            exact (bd_div (n := 400) (Int.mul_ne_zero nz1 nz2) (pw (sum_lt (prod_lt si1 sj2) (prod_lt si2 sj1)) (by decide)) (pw (prod_lt sj1 sj2) (by decide))).mono (by decide)
          walk_at "rd"
          exact ⟨rfl, hd7.same s8, hN7.same s8, f1, f2, n1.same s8, n2.same s8⟩
        clear hd7 hN7 ep1 ep2 n1 n2
        rintro σ' H7 ⟨rfl, hd7, hN7, ep1, ep2, n1, n2⟩
        refine RD.d_cut (fun σ' H' => σ' = [some (.ref ad), some (.ref h), some (.ref x), some (.int (0 + t)), some (.ref p1), some (.ref p2), some one, some other, some (.int (j1 * j2)), v9, v10, v11, v12, v13, v14] ∧ HandAt H' h c ∧ NumsAt T.C_Numbers T.C_Ratio H' x ∧ H' p1 = some (.tup [.int i1, .int j1]) ∧ H' p2 = some (.tup [.int i2, .int j2]) ∧ Num T.C_Ratio H' one (Rat.divInt i1 j1) ∧ Num T.C_Ratio H' other (Rat.divInt i2 j2)) ?_ ?_
        · obtain ⟨dz, ra, rb, ez, _⟩ := id hN7
          walk_at "rd"
          refine ⟨x, dz, _, rfl, ez, (lk_ne (by decide +kernel)).trans (lk_ne (by decide +kernel)), ?_⟩
          walk_at "rd"
          refine ⟨x, one, other, rfl, hN7, .inl ⟨_, _, n1, n2, b1, b2, fun c8 H8 s8 hc => ?_⟩⟩
          have f1 := s8 _ _ ep1
          have f2 := s8 _ _ ep2
          walk_at "rd"
          refine RD.d_rI (wm si1 si2 (by decide) (by decide) (by decide)) ?_
          walk_at "rd"
          refine ⟨c8, _, _, _, rfl, hc, ?_, Int.mul_ne_zero nz1 nz2, pw (prod_lt si1 si2) (by decide), pw (prod_lt sj1 sj2) (by decide), emul, ?_⟩
          · show Bd 2000 (Rat.divInt i1 j1 * Rat.divInt i2 j2)
            rw [emul]
            exact (bd_div (n := 400) (Int.mul_ne_zero nz1 nz2) (pw (prod_lt si1 si2) (by decide)) (pw (prod_lt sj1 sj2) (by decide))).mono (by decide)
          walk_at "rd"
          exact ⟨rfl, hd7.same s8, hN7.same s8, f1, f2, n1.same s8, n2.same s8⟩
        clear hd7 hN7 ep1 ep2 n1 n2
        rintro σ' H7 ⟨rfl, hd7, hN7, ep1, ep2, n1, n2⟩
        clear ep1 ep2 eadd emul
        refine RD.d_cut (fun σ' H' => ∃ odd, σ' = [some (.ref ad), some (.ref h), some (.ref x), some (.int (0 + t)), some (.ref p1), some (.ref p2), some one, some other, some (.int (j1 * j2)), some odd, v10, v11, v12, v13, v14] ∧ Fx T h c x one other odd (Rat.divInt i1 j1) (Rat.divInt i2 j2) H') ?_ ?_
        · walk_at "rd"
          refine ⟨by show 1 ≤ sizeLine; decide, fun pa h_pa => ?_⟩
          have s_pa := same_upd (o := HO.tup [.int 1]) h_pa
          have e_pa : upd H7 pa (HO.tup [.int 1]) pa = some (HO.tup [.int 1]) := upd_same
          replace hd7 := hd7.same s_pa
          replace hN7 := hN7.same s_pa
          replace n1 := n1.same s_pa
          replace n2 := n2.same s_pa
          generalize upd H7 pa (HO.tup [.int 1]) = Ha at *
          walk_at "rd"
          refine ⟨by show 1 ≤ sizeLine; decide, fun pb h_pb => ?_⟩
          have s_pb := same_upd (o := HO.lst [.int 1]) h_pb
          have e_pb : upd Ha pb (HO.lst [.int 1]) pb = some (HO.lst [.int 1]) := upd_same
          replace e_pa := s_pb _ _ e_pa
          replace hd7 := hd7.same s_pb
          replace hN7 := hN7.same s_pb
          replace n1 := n1.same s_pb
          replace n2 := n2.same s_pb
          generalize upd Ha pb (HO.lst [.int 1]) = Hb at *
          walk_at "rd"
          refine fun pc h_pc => ?_
          have s_pc := same_upd (o := HO.dK []) h_pc
          have e_pc : upd Hb pc (HO.dK []) pc = some (HO.dK []) := upd_same
          replace e_pa := s_pc _ _ e_pa
          replace e_pb := s_pc _ _ e_pb
          replace hd7 := hd7.same s_pc
          replace hN7 := hN7.same s_pc
          replace n1 := n1.same s_pc
          replace n2 := n2.same s_pc
          generalize upd Hb pc (HO.dK []) = Hc at *
          walk_at "rd"
          refine ⟨rfl, fun y Hy sy fy => ?_⟩
          replace e_pa := sy _ _ e_pa
          replace e_pb := sy _ _ e_pb
          replace e_pc := sy _ _ e_pc
          replace hd7 := hd7.same sy
          replace hN7 := hN7.same sy
          replace n1 := n1.same sy
          replace n2 := n2.same sy
          walk_at "rd"
          refine ⟨by show 10 ≤ sizeLine; decide, fun pq h_pq => ?_⟩
          generalize hits : [V.non, V.bl true, V.bl false, V.str "1", V.str "", V.ref pa, V.ref pb, V.ref pc, V.ref y, V.ref x] = its
          have ten : its.length = 10 := by rw [← hits]; rfl
          have s5 := same_upd (o := HO.lst its) h_pq
          have eq : upd Hy pq (.lst its) pq = some (.lst its) := upd_same
          have odds : ∀ v ∈ its, OddK (T3 T) (upd Hy pq (.lst its)) v := by
            intro v hv
            refine OddK.same (H := Hy) ?_ s5
            rw [← hits] at hv
            simp only [List.mem_cons, List.not_mem_nil, or_false] at hv
            rcases hv with rfl | rfl | rfl | rfl | rfl | rfl | rfl | rfl | rfl | rfl
            · exact .non
            · exact .bl _
            · exact .bl _
            · exact .one
            · exact .emp
            · exact .tup e_pa
            · exact .lst e_pb
            · exact .dct e_pc
            · exact .rek fy
            · exact .num hN7
          replace hd7 := hd7.same s5
          replace hN7 := hN7.same s5
          replace n1 := n1.same s5
          replace n2 := n2.same s5
          generalize upd Hy pq (.lst its) = H8 at *
          have nq := hd7.kpNe (by rw [ten]; decide) eq
          walk_at "rd"
          refine ⟨h, c, 10, rfl, hd7, by decide, by decide +kernel, fun r H9 r0 r1 hd9 b9 => ?_⟩
          have rl : r.toNat < its.length := by omega
          have ar : atI its r = some its[r.toNat] := by
            have z := atI_nat (List.getElem?_eq_getElem rl)
            rwa [Int.toNat_of_nonneg r0] at z
          walk_at "rd"
          refine RD.d_ixL (SqL.of (by rw [b9 pq nq]; exact eq)) ar ?_
          walk_at "rd"
          exact ⟨_, rfl, ⟨hd9, hN7.kp hd7 b9.kp, n1.kp hd7 b9.kp, n2.kp hd7 b9.kp, (odds _ (List.getElem_mem rl)).kp hd7 b9.kp⟩⟩
        clear hd7 hN7 n1 n2
        rintro σ' H8 ⟨odd, rfl, fx⟩
        refine RD.d_cut (fun σ' H' => ∃ v10 v11 v12 v13 v14 : Option V, σ' = [some (.ref ad), some (.ref h), some (.ref x), some (.int (0 + t)), some (.ref p1), some (.ref p2), some one, some other, some (.int (j1 * j2)), some odd, v10, v11, v12, v13, v14] ∧ Fx T h c x one other odd (Rat.divInt i1 j1) (Rat.divInt i2 j2) H') ?_ ?_
        · walk_at "rd"
          refine ⟨by show 2 ≤ sizeLine; decide, fun pa h_pa => ?_⟩
          have s_pa := same_upd (o := HO.tup [one, .bl true]) h_pa
          have e_pa : upd H8 pa (HO.tup [one, .bl true]) pa = some (HO.tup [one, .bl true]) := upd_same
          replace fx := fx.same s_pa
          generalize upd H8 pa (HO.tup [one, .bl true]) = Ha at *
          walk_at "rd"
          refine ⟨by show 2 ≤ sizeLine; decide, fun pb h_pb => ?_⟩
          have s_pb := same_upd (o := HO.tup [other, .bl true]) h_pb
          have e_pb : upd Ha pb (HO.tup [other, .bl true]) pb = some (HO.tup [other, .bl true]) := upd_same
          replace e_pa := s_pb _ _ e_pa
          replace fx := fx.same s_pb
          generalize upd Ha pb (HO.tup [other, .bl true]) = Hb at *
          walk_at "rd"
          refine ⟨by show 2 ≤ sizeLine; decide, fun pc h_pc => ?_⟩
          have s_pc := same_upd (o := HO.tup [odd, .bl false]) h_pc
          have e_pc : upd Hb pc (HO.tup [odd, .bl false]) pc = some (HO.tup [odd, .bl false]) := upd_same
          replace e_pa := s_pc _ _ e_pa
          replace e_pb := s_pc _ _ e_pb
          replace fx := fx.same s_pc
          generalize upd Hb pc (HO.tup [odd, .bl false]) = Hc at *
          walk_at "rd"
          refine ⟨by show 3 ≤ sizeLine; decide, fun pl h_pl => ?_⟩
          have s_pl := same_upd (o := HO.lst [.ref pa, .ref pb, .ref pc]) h_pl
          have e_pl : upd Hc pl (HO.lst [.ref pa, .ref pb, .ref pc]) pl = some (HO.lst [.ref pa, .ref pb, .ref pc]) := upd_same
          replace e_pa := s_pl _ _ e_pa
          replace e_pb := s_pl _ _ e_pb
          replace e_pc := s_pl _ _ e_pc
          replace fx := fx.same s_pl
          generalize upd Hc pl (HO.lst [.ref pa, .ref pb, .ref pc]) = Hd at *
          refine ⟨pl, rfl, ⟨_, SqL.of e_pl⟩, ?_⟩
          refine RD.f_list (K := K) (a := pl) (xs := [V.ref pa, V.ref pb, V.ref pc]) (fun i σ' H' => H' = Hd ∧ ∃ v10 v11 v12 v13 v14 : Option V, σ' = [some (.ref ad), some (.ref h), some (.ref x), some (.int (0 + t)), some (.ref p1), some (.ref p2), some one, some other, some (.int (j1 * j2)), some odd, v10, v11, v12, v13, v14]) ⟨rfl, v10, v11, v12, v13, v14, rfl⟩ ?_ ?_ ?_
          · rintro i σ' H' _ ⟨rfl, _⟩
            exact SqL.of e_pl
          · rintro i y σ' H' hi ⟨rfl, v10, v11, v12, v13, v14, rfl⟩
            obtain ⟨pt, v, b, rfl, ept, cond⟩ : ∃ (pt : Addr) (v : V) (b : Bool), y = .ref pt ∧ H' pt = some (.tup [v, .bl b]) ∧ ((b = true ∧ ∃ q, Num T.C_Ratio H' v q) ∨ (b = false ∧ NoNum K T.C_Ratio H' v)) := by
              match i, hi with
              | 0, e => cases e; exact ⟨pa, one, true, rfl, e_pa, .inl ⟨rfl, _, fx.n1⟩⟩
              | 1, e => cases e; exact ⟨pb, other, true, rfl, e_pb, .inl ⟨rfl, _, fx.n2⟩⟩
              | 2, e => cases e; exact ⟨pc, odd, false, rfl, e_pc, .inr ⟨rfl, fx.ok.noNum T⟩⟩
              | n + 3, e => simp at e
            refine d_gtupN (SqT.of ept) ?_
            walk_at "rd"
            obtain ⟨dz, ra, rb, ez, _⟩ := id fx.hN
            refine ⟨x, dz, _, rfl, ez, (lk_ne (by decide +kernel)).trans (lk_ne (by decide +kernel)), ?_⟩
            walk_at "rd"
            refine ⟨_, v, b, rfl, cond, ?_⟩
            walk_at "rd"
            refine RD.d_isi (.ty _) (.base (.bl b)) (kit_ty (r := true) (by decide +kernel)) ?_
            walk_at "rd"
            refine ⟨rfl, ?_⟩
            rw [decide_eq_true rfl]
            walk_at "rd"
            exact ⟨rfl, _, _, _, _, _, rfl⟩
          · rintro σ' H' ⟨rfl, v10, v11, v12, v13, v14, rfl⟩
            exact ⟨v10, v11, v12, v13, v14, rfl, fx⟩
        clear fx
        rintro σ' H9 ⟨v10, v11, v12, v13, v14, rfl, fx⟩
        walk_at "rd"
        refine ⟨2, rfl, by decide, by decide, ?_⟩
        refine RD.f_range (lo := 0) (n := 2) (fun u σ' H' => ∃ v10 v11 v12 v13 v14 : Option V, σ' = [some (.ref ad), some (.ref h), some (.ref x), some (.int (0 + t)), some (.ref p1), some (.ref p2), some one, some other, some (.int (j1 * j2)), some odd, v10, v11, v12, v13, v14] ∧ Fx T h c x one other odd (Rat.divInt i1 j1) (Rat.divInt i2 j2) H') ⟨v10, v11, v12, v13, v14, rfl, fx⟩ ?_ ?_
        · clear fx
          rintro u σ' H9 hu ⟨v10, v11, v12, v13, v14, rfl, fx⟩
          walk_at "rd"
          refine RD.d_cut (fun σ' H' => σ' = [some (.ref ad), some (.ref h), some (.ref x), some (.int (0 + t)), some (.ref p1), some (.ref p2), some one, some other, some (.int (j1 * j2)), some odd, v10, v11, v12, some (.int (0 + u)), v14] ∧ Fx T h c x one other odd (Rat.divInt i1 j1) (Rat.divInt i2 j2) H') ?_ ?_
          · walk_at "rd"
            refine ⟨_, one, other, rfl, .inl ⟨_, _, fx.n1, fx.n2, b1, b2, fun pt Ha sa ea => ?_⟩⟩
            walk_at "rd"
            refine ⟨by show 2 ≤ sizeLine; decide, fun pu hpu => ?_⟩
            have sb := same_upd (o := HO.tup [.str "none", .int 0]) hpu
            refine noneNe (sb _ _ ea) upd_same ?_
            walk_at "rd"
            exact ⟨rfl, (fx.same sa).same sb⟩
          clear fx
          rintro σ' H10 ⟨rfl, fx⟩
          walk_at "rd"
          refine ⟨_, odd, other, rfl, .inr (.inl ⟨fx.ok.noNum T, fun pa Ha sa ea => ?_⟩)⟩
          replace fx := fx.same sa
          walk_at "rd"
          refine ⟨_, one, odd, rfl, .inr (.inr ⟨_, fx.n1, fx.ok.noNum T, fun pb Hb sb eb => ?_⟩)⟩
          replace fx := fx.same sb
          replace ea := sb _ _ ea
          walk_at "rd"
          refine ⟨_, odd, .non, rfl, .inr (.inl ⟨fx.ok.noNum T, fun pc Hc sc ec => ?_⟩)⟩
          replace fx := fx.same sc
          replace ea := sc _ _ ea
          replace eb := sc _ _ eb
          walk_at "rd"
          refine ⟨by show 3 ≤ sizeLine; decide, fun pl hpl => ?_⟩
          have sl := same_upd (o := HO.lst [.ref pa, .ref pb, .ref pc]) hpl
          have el : upd Hc pl (.lst [.ref pa, .ref pb, .ref pc]) pl = some (.lst [.ref pa, .ref pb, .ref pc]) := upd_same
          replace fx := fx.same sl
          replace ea := sl _ _ ea
          replace eb := sl _ _ eb
          replace ec := sl _ _ ec
          generalize upd Hc pl (.lst [.ref pa, .ref pb, .ref pc]) = Hd at *
          refine ⟨pl, rfl, ⟨_, SqL.of el⟩, ?_⟩
          refine RD.f_list (K := K) (a := pl) (xs := [V.ref pa, V.ref pb, V.ref pc]) (fun i σ' H' => H' = Hd ∧ ∃ v14 : Option V, σ' = [some (.ref ad), some (.ref h), some (.ref x), some (.int (0 + t)), some (.ref p1), some (.ref p2), some one, some other, some (.int (j1 * j2)), some odd, v10, v11, v12, some (.int (0 + u)), v14]) ⟨rfl, v14, rfl⟩ ?_ ?_ ?_
          · rintro i σ' H' _ ⟨rfl, _⟩
            exact SqL.of el
          · rintro i y σ' H' hi ⟨rfl, v14, rfl⟩
            obtain ⟨pt, rfl, ept⟩ : ∃ (pt : Addr), y = .ref pt ∧ H' pt = some (.tup [.str "worth", odd]) := by
              match i, hi with
              | 0, e => cases e; exact ⟨pa, rfl, ea⟩
              | 1, e => cases e; exact ⟨pb, rfl, eb⟩
              | 2, e => cases e; exact ⟨pc, rfl, ec⟩
              | n + 3, e => simp at e
            walk_at "rd"
            rw [decide_eq_true rfl]
            walk_at "rd"
            refine OddK.ne T fx.ok ?_
            walk_at "rd"
            obtain ⟨ty, b, hty, hkb⟩ := fx.ok.isB T
            refine RD.d_isi (.ty _) hty hkb ?_
            walk_at "rd"
            refine RD.d_isi (.ty _) hty hkb ?_
            walk_at "rd"
            refine ⟨rfl, ?_⟩
            rw [decide_eq_true rfl]
            walk_at "rd"
            exact ⟨rfl, _, rfl⟩
          · rintro σ' H' ⟨rfl, v14, rfl⟩
            exact ⟨v10, v11, v12, _, v14, rfl, fx⟩
        · rintro σ' H9 ⟨v10, v11, v12, v13, v14, rfl, fx⟩
          exact ⟨_, _, _, _, _, _, _, _, _, _, _, _, rfl, fx.hd, fx.hN⟩
      · rintro σ' H3 ⟨v3, v4, v5, v6, v7, v8, v9, v10, v11, v12, v13, v14, rfl, hd3, hN3⟩
        exact ⟨v3, v4, v5, v6, v7, v8, v9, v10, v11, v12, v13, v14, rfl, hd3, hN3⟩
    clear hd1 hN1
    rintro σ' H3 ⟨v3, v4, v5, v6, v7, v8, v9, v10, v11, v12, v13, v14, rfl, hd, hN⟩
    clear hd
    refine RD.d_cut (fun σ' H' => ∃ v3 v4 v5 v6 v7 v8 v9 v10 v11 v12 v13 v14 : Option V, σ' = [some (.ref ad), some (.ref h), some (.ref x), v3, v4, v5, v6, v7, v8, v9, v10, v11, v12, v13, v14] ∧ NumsAt T.C_Numbers T.C_Ratio H' x) ?_ ?_
    · walk_at "rd"
      refine ⟨rfl, fun y Hy sy fy => ?_⟩
      replace hN := hN.same sy
      walk_at "rd"
      intro x2 dx2 nx2 ndx2 ne2
      have s2 := same_made (C := T.C_Lengths) nx2 ndx2 ne2
      refine ⟨x2, dx2, rfl, upd_same, fun H4 kx hL => ⟨rfl, ?_⟩⟩
      have s4 : Same Hy H4 := fun b' u e => kx _ _ (ne_of_none e nx2) (s2 _ _ e)
      replace hN := hN.same s4
      replace fy := fy.same s4
      walk_at "rd"
      refine mk_rat T (i := 0) (j := 1) (by decide) (by decide +kernel) (fun z H5 s5 nz hz => ?_)
      replace hN := hN.same s5
      replace fy := fy.same s5
      replace hL : LenAt T.C_Lengths H5 x2 := by obtain ⟨d, e⟩ := hL; exact ⟨d, s5 _ _ e⟩
      walk_at "rd"
      refine ⟨by show 0 ≤ sizeLine; decide, fun pz h_pz => ?_⟩
      have s_pz := same_upd (o := HO.lst []) h_pz
      have e_pz : upd H5 pz (HO.lst []) pz = some (HO.lst []) := upd_same
      replace hN := hN.same s_pz
      replace fy := fy.same s_pz
      replace hz := hz.same s_pz
      generalize upd H5 pz (HO.lst []) = H6 at *
      replace hL : LenAt T.C_Lengths H6 x2 := by obtain ⟨d, e⟩ := hL; exact ⟨d, s_pz _ _ e⟩
      walk_at "rd"
      refine ⟨by show 8 ≤ sizeLine; decide, fun pl h_pl => ?_⟩
      generalize hits : [V.non, V.int 0, V.int 1, V.ref y, V.ref x2, V.ref z, V.str "", V.ref pz] = its
      have s_pl := same_upd (o := HO.lst its) h_pl
      have e_pl : upd H6 pl (HO.lst its) pl = some (HO.lst its) := upd_same
      replace hN := hN.same s_pl
      replace fy := fy.same s_pl
      replace hz := hz.same s_pl
      replace e_pz := s_pl _ _ e_pz
      generalize upd H6 pl (HO.lst its) = H7 at *
      replace hL : LenAt T.C_Lengths H7 x2 := by obtain ⟨d, e⟩ := hL; exact ⟨d, s_pl _ _ e⟩
      have things : ∀ v ∈ its, Thing T H7 v := by
        intro v hv
        rw [← hits] at hv
        simp only [List.mem_cons, List.not_mem_nil, or_false] at hv
        rcases hv with rfl | rfl | rfl | rfl | rfl | rfl | rfl | rfl
        · exact .plain "NoneType" (by simp) (.inl ⟨rfl, rfl⟩) (.base .non)
        · exact .plain "int" (by simp) (.inr (.inl ⟨_, rfl, rfl⟩)) (.base (.int _))
        · exact .plain "int" (by simp) (.inr (.inl ⟨_, rfl, rfl⟩)) (.base (.int _))
        · exact .rek fy
        · exact .len hL
        · exact .rat hz
        · exact .plain "str" (by simp) (.inr (.inr (.inl ⟨_, rfl, rfl⟩))) (.base (.str _))
        · exact .plain "list" (by simp) (.inr (.inr (.inr ⟨_, _, rfl, SqL.of e_pz, rfl⟩))) (.base (.lst e_pz))
      refine ⟨pl, rfl, ⟨_, SqL.of e_pl⟩, ?_⟩
      refine RD.f_list (K := K) (a := pl) (xs := its) (fun i σ' H' => H' = H7 ∧ ∃ v10 : Option V, σ' = [some (.ref ad), some (.ref h), some (.ref x), v3, v4, v5, v6, v7, v8, v9, v10, v11, v12, v13, v14]) ⟨rfl, v10, rfl⟩ ?_ ?_ ?_
      · rintro i σ' H' _ ⟨rfl, _⟩
        exact SqL.of e_pl
      · rintro i w σ' H' hi ⟨rfl, v10, rfl⟩
        have tw := things w (List.mem_of_getElem? hi)
        walk_at "rd"
        refine tw.fore hN ?_
        walk_at "rd"
        refine tw.back hN ?_
        walk_at "rd"
        exact ⟨rfl, _, rfl⟩
      · rintro σ' H' ⟨rfl, v10, rfl⟩
        exact ⟨v3, v4, v5, v6, v7, v8, v9, v10, v11, v12, v13, v14, rfl, hN⟩
    clear hN
    rintro σ' H8 ⟨v3, v4, v5, v6, v7, v8, v9, v10, v11, v12, v13, v14, rfl, hN⟩
    walk_at "rd"
    intro x2 dx2 nx2 ndx2 ne2
    have s2 := same_made (C := T.C_Numbers) nx2 ndx2 ne2
    refine ⟨x2, dx2, rfl, upd_same, fun H9 kx h2 => ⟨rfl, ?_⟩⟩
    have s9 : Same H8 H9 := fun b' u e => kx _ _ (ne_of_none e nx2) (s2 _ _ e)
    replace hN := hN.same s9
    obtain ⟨d1, a1, b1, e1, _⟩ := id hN
    refine ⟨x, d1, _, _, rfl, e1, tyN T h2, nf_self, _, _, _, true, rfl, tyN T h2, kit_selfR, ?_⟩
    walk_at "rd"
    intro x3 dx3 nx3 ndx3 ne3
    have s3 := same_made (C := T.C_Numbers) nx3 ndx3 ne3
    refine ⟨x3, dx3, rfl, upd_same, fun H10 kx3 h3 => ⟨rfl, ?_⟩⟩
    have s10 : Same H9 H10 := fun b' u e => kx3 _ _ (ne_of_none e nx3) (s3 _ _ e)
    replace e1 := s10 _ _ e1
    refine ⟨x, d1, _, _, rfl, e1, tyN T h3, nf_self, _, _, _, true, rfl, tyN T h3, kit_selfR, true, rfl, ?_⟩
    walk_at "rd"
    exact k _
end

theorem all7 {K : PySem.W.Frag} {C : Addr} {ts : List String} (h : (ts.all fun t => decide (PySem.W.kitOne K (.type t) (.ref C) = some false) && PySem.W.notFirst K C (.type t)) = true) : ∀ t : String, t ∈ ts → PySem.W.kitOne K (.type t) (.ref C) = some false ∧ PySem.W.notFirst K C (.type t) = true := fun t ht => by
  obtain ⟨a, b⟩ := OQ.two (List.all_eq_true.mp h t ht)
  exact ⟨of_decide_eq_true a, b⟩
theorem pairP {K : PySem.W.Frag} {A C : Addr} (h : (decide (PySem.W.kitOne K (.ref A) (.ref C) = some false) && PySem.W.notFirst K C (.ref A)) = true) : PySem.W.kitOne K (.ref A) (.ref C) = some false ∧ PySem.W.notFirst K C (.ref A) = true := by
  obtain ⟨a, b⟩ := OQ.two h
  exact ⟨of_decide_eq_true a, b⟩
theorem someO {α : Type} {o : Option α} (h : o.isSome = true) : ∃ v, o = some v := Option.isSome_iff_exists.mp h
theorem facts {P : Program} {w : World} {K : PySem.W.Frag} {h : Heap} {mg : Str → Option Value} {f : Addr} (X : K.In h) (G : h.Ns mainGlobals mg) (hfa : mg ("law" : Str) = some (.ref f)) (c : He.SaysD faH fnH K) (x : exH K = true) :
    ∃ fd : FuncData, (∀ (s : Shared) (v : Value), BindsTo s fd ⟨[v], []⟩ [("script", v)]) ∧ ∀ base : Heap, K.In base → base.Ns mainGlobals mg → FnOk P w K mg base CX0 18 f fd ["script"] (spLaw K) := by
  obtain ⟨fdWayError__init, DWayError__init⟩ := c.def_ 0 (d := dH_WayError__init) rfl
  have FWayError__init : Fun K _ _ s_WayError__init _ fdWayError__init := OQ.fun_of DWayError__init
  have bWayError__init := FWayError__init.binds (ps := ["self", "value"]) fun _ _ _ _ _ _ us hl => match us, hl with | [_, _], _ => rfl
  obtain ⟨fdis_integer, Dis_integer⟩ := c.def_ 1 (d := dH_is_integer) rfl
  have Fis_integer : Fun K _ _ s_is_integer _ fdis_integer := OQ.fun_of Dis_integer
  have bis_integer := Fis_integer.binds (ps := ["thing"]) fun _ _ _ _ _ _ us hl => match us, hl with | [_], _ => rfl
  obtain ⟨fdis_row, Dis_row⟩ := c.def_ 2 (d := dH_is_row) rfl
  have Fis_row : Fun K _ _ s_is_row _ fdis_row := OQ.fun_of Dis_row
  have bis_row := Fis_row.binds (ps := ["thing"]) fun _ _ _ _ _ _ us hl => match us, hl with | [_], _ => rfl
  obtain ⟨fdRatio__init, DRatio__init⟩ := c.def_ 3 (d := dH_Ratio__init) rfl
  have FRatio__init : FunD K _ _ (defArgs s_Ratio__init) (defBody s_Ratio__init) (defScope s_Ratio__init) [V.int 1] [] _ fdRatio__init := DRatio__init
  have b1Ratio__init := FRatio__init.binds1 (ps := ["self", "top", "bottom"]) 2 0 (by simp) rfl (fun _ _ _ _ _ _ _ us its hl hi => match us, hl, its, hi with | [_, _], _, [_], _ => ⟨_, rfl, rfl⟩)
  have bRatio__init : Binds K fdRatio__init ["self", "top", "bottom"] [] := by
    obtain ⟨ds, hv, hb⟩ := FRatio__init.binds1 (ps := ["self", "top", "bottom"]) 3 1 (by simp) rfl (fun _ _ _ _ _ _ _ us its hl hi => match us, hl, its, hi with | [_, _, _], _, [_], _ => ⟨_, rfl, rfl⟩)
    cases hv; exact hb
  obtain ⟨fdRatio__eq, DRatio__eq⟩ := c.def_ 4 (d := dH_Ratio__eq) rfl
  have FRatio__eq : Fun K _ _ s_Ratio__eq _ fdRatio__eq := OQ.fun_of DRatio__eq
  have bRatio__eq := FRatio__eq.binds (ps := ["self", "other"]) fun _ _ _ _ _ _ us hl => match us, hl with | [_, _], _ => rfl
  obtain ⟨fdRatio__add, DRatio__add⟩ := c.def_ 5 (d := dH_Ratio__add) rfl
  have FRatio__add : Fun K _ _ s_Ratio__add _ fdRatio__add := OQ.fun_of DRatio__add
  have bRatio__add := FRatio__add.binds (ps := ["self", "other"]) fun _ _ _ _ _ _ us hl => match us, hl with | [_, _], _ => rfl
  obtain ⟨fdRatio__rmul, DRatio__rmul⟩ := c.def_ 6 (d := dH_Ratio__rmul) rfl
  have FRatio__rmul : Fun K _ _ s_Ratio__rmul _ fdRatio__rmul := OQ.fun_of DRatio__rmul
  have bRatio__rmul := FRatio__rmul.binds (ps := ["self", "other"]) fun _ _ _ _ _ _ us hl => match us, hl with | [_, _], _ => rfl
  obtain ⟨fdRatio__radd, DRatio__radd⟩ := c.def_ 7 (d := dH_Ratio__radd) rfl
  have FRatio__radd : Fun K _ _ s_Ratio__radd _ fdRatio__radd := OQ.fun_of DRatio__radd
  have bRatio__radd := FRatio__radd.binds (ps := ["self", "other"]) fun _ _ _ _ _ _ us hl => match us, hl with | [_, _], _ => rfl
  obtain ⟨fdRatio__mul, DRatio__mul⟩ := c.def_ 8 (d := dH_Ratio__mul) rfl
  have FRatio__mul : Fun K _ _ s_Ratio__mul _ fdRatio__mul := OQ.fun_of DRatio__mul
  have bRatio__mul := FRatio__mul.binds (ps := ["self", "other"]) fun _ _ _ _ _ _ us hl => match us, hl with | [_, _], _ => rfl
  obtain ⟨fdis_number, Dis_number⟩ := c.def_ 9 (d := dH_is_number) rfl
  have Fis_number : Fun K _ _ s_is_number _ fdis_number := OQ.fun_of Dis_number
  have bis_number := Fis_number.binds (ps := ["thing"]) fun _ _ _ _ _ _ us hl => match us, hl with | [_], _ => rfl
  obtain ⟨fdas_ratio, Das_ratio⟩ := c.def_ 10 (d := dH_as_ratio) rfl
  have Fas_ratio : Fun K _ _ s_as_ratio _ fdas_ratio := OQ.fun_of Das_ratio
  have bas_ratio := Fas_ratio.binds (ps := ["thing"]) fun _ _ _ _ _ _ us hl => match us, hl with | [_], _ => rfl
  obtain ⟨fdsum_of, Dsum_of⟩ := c.def_ 11 (d := dH_sum_of) rfl
  have Fsum_of : Fun K _ _ s_sum_of _ fdsum_of := OQ.fun_of Dsum_of
  have bsum_of := Fsum_of.binds (ps := ["one", "other"]) fun _ _ _ _ _ _ us hl => match us, hl with | [_, _], _ => rfl
  obtain ⟨fdproduct_of, Dproduct_of⟩ := c.def_ 12 (d := dH_product_of) rfl
  have Fproduct_of : Fun K _ _ s_product_of _ fdproduct_of := OQ.fun_of Dproduct_of
  have bproduct_of := Fproduct_of.binds (ps := ["one", "other"]) fun _ _ _ _ _ _ us hl => match us, hl with | [_, _], _ => rfl
  obtain ⟨fdcheck_worths, Dcheck_worths⟩ := c.def_ 13 (d := dH_check_worths) rfl
  have Fcheck_worths : Fun K _ _ s_check_worths _ fdcheck_worths := OQ.fun_of Dcheck_worths
  have bcheck_worths := Fcheck_worths.binds (ps := ["reckoning", "first", "second"]) fun _ _ _ _ _ _ us hl => match us, hl with | [_, _, _], _ => rfl
  obtain ⟨fdNumbers__init, DNumbers__init⟩ := c.def_ 14 (d := dH_Numbers__init) rfl
  have FNumbers__init : Fun K _ _ s_Numbers__init _ fdNumbers__init := OQ.fun_of DNumbers__init
  have bNumbers__init := FNumbers__init.binds (ps := ["self"]) fun _ _ _ _ _ _ us hl => match us, hl with | [_], _ => rfl
  obtain ⟨fdNumbers__eq, DNumbers__eq⟩ := c.def_ 15 (d := dH_Numbers__eq) rfl
  have FNumbers__eq : Fun K _ _ s_Numbers__eq _ fdNumbers__eq := OQ.fun_of DNumbers__eq
  have bNumbers__eq := FNumbers__eq.binds (ps := ["self", "other"]) fun _ _ _ _ _ _ us hl => match us, hl with | [_, _], _ => rfl
  obtain ⟨fdNumbers_is_worth, DNumbers_is_worth⟩ := c.def_ 16 (d := dH_Numbers_is_worth) rfl
  have FNumbers_is_worth : Fun K _ _ s_Numbers_is_worth _ fdNumbers_is_worth := OQ.fun_of DNumbers_is_worth
  have bNumbers_is_worth := FNumbers_is_worth.binds (ps := ["self", "thing"]) fun _ _ _ _ _ _ us hl => match us, hl with | [_, _], _ => rfl
  obtain ⟨fdNumbers_join, DNumbers_join⟩ := c.def_ 17 (d := dH_Numbers_join) rfl
  have FNumbers_join : Fun K _ _ s_Numbers_join _ fdNumbers_join := OQ.fun_of DNumbers_join
  have bNumbers_join := FNumbers_join.binds (ps := ["self", "a", "b"]) fun _ _ _ _ _ _ us hl => match us, hl with | [_, _, _], _ => rfl
  obtain ⟨fdNumbers_times, DNumbers_times⟩ := c.def_ 18 (d := dH_Numbers_times) rfl
  have FNumbers_times : Fun K _ _ s_Numbers_times _ fdNumbers_times := OQ.fun_of DNumbers_times
  have bNumbers_times := FNumbers_times.binds (ps := ["self", "a", "b"]) fun _ _ _ _ _ _ us hl => match us, hl with | [_, _, _], _ => rfl
  obtain ⟨fdLengths__init, DLengths__init⟩ := c.def_ 19 (d := dH_Lengths__init) rfl
  have FLengths__init : Fun K _ _ s_Lengths__init _ fdLengths__init := OQ.fun_of DLengths__init
  have bLengths__init := FLengths__init.binds (ps := ["self"]) fun _ _ _ _ _ _ us hl => match us, hl with | [_], _ => rfl
  obtain ⟨fdLengths__eq, DLengths__eq⟩ := c.def_ 20 (d := dH_Lengths__eq) rfl
  have FLengths__eq : Fun K _ _ s_Lengths__eq _ fdLengths__eq := OQ.fun_of DLengths__eq
  have bLengths__eq := FLengths__eq.binds (ps := ["self", "other"]) fun _ _ _ _ _ _ us hl => match us, hl with | [_, _], _ => rfl
  obtain ⟨fdfirst_fault, Dfirst_fault⟩ := c.def_ 21 (d := dH_first_fault) rfl
  have Ffirst_fault : Fun K _ _ s_first_fault _ fdfirst_fault := OQ.fun_of Dfirst_fault
  have bfirst_fault := Ffirst_fault.binds (ps := ["joins", "products", "none", "one"]) fun _ _ _ _ _ _ us hl => match us, hl with | [_, _, _, _], _ => rfl
  obtain ⟨fdsize_fault, Dsize_fault⟩ := c.def_ 22 (d := dH_size_fault) rfl
  have Fsize_fault : Fun K _ _ s_size_fault _ fdsize_fault := OQ.fun_of Dsize_fault
  have bsize_fault := Fsize_fault.binds (ps := ["joins", "products", "none", "one"]) fun _ _ _ _ _ _ us hl => match us, hl with | [_, _, _, _], _ => rfl
  obtain ⟨fdis_square, Dis_square⟩ := c.def_ 23 (d := dH_is_square) rfl
  have Fis_square : Fun K _ _ s_is_square _ fdis_square := OQ.fun_of Dis_square
  have bis_square := Fis_square.binds (ps := ["many", "thing"]) fun _ _ _ _ _ _ us hl => match us, hl with | [_, _], _ => rfl
  obtain ⟨fdis_side, Dis_side⟩ := c.def_ 24 (d := dH_is_side) rfl
  have Fis_side : Fun K _ _ s_is_side _ fdis_side := OQ.fun_of Dis_side
  have bis_side := Fis_side.binds (ps := ["many", "thing"]) fun _ _ _ _ _ _ us hl => match us, hl with | [_, _], _ => rfl
  obtain ⟨fdis_below, Dis_below⟩ := c.def_ 25 (d := dH_is_below) rfl
  have Fis_below : Fun K _ _ s_is_below _ fdis_below := OQ.fun_of Dis_below
  have bis_below := Fis_below.binds (ps := ["many", "thing"]) fun _ _ _ _ _ _ us hl => match us, hl with | [_, _], _ => rfl
  obtain ⟨fdnone_fault, Dnone_fault⟩ := c.def_ 26 (d := dH_none_fault) rfl
  have Fnone_fault : Fun K _ _ s_none_fault _ fdnone_fault := OQ.fun_of Dnone_fault
  have bnone_fault := Fnone_fault.binds (ps := ["joins", "products", "none"]) fun _ _ _ _ _ _ us hl => match us, hl with | [_, _, _], _ => rfl
  obtain ⟨fdone_fault, Done_fault⟩ := c.def_ 27 (d := dH_one_fault) rfl
  have Fone_fault : Fun K _ _ s_one_fault _ fdone_fault := OQ.fun_of Done_fault
  have bone_fault := Fone_fault.binds (ps := ["products", "one"]) fun _ _ _ _ _ _ us hl => match us, hl with | [_, _], _ => rfl
  obtain ⟨fdidle_fault, Didle_fault⟩ := c.def_ 28 (d := dH_idle_fault) rfl
  have Fidle_fault : Fun K _ _ s_idle_fault _ fdidle_fault := OQ.fun_of Didle_fault
  have bidle_fault := Fidle_fault.binds (ps := ["joins"]) fun _ _ _ _ _ _ us hl => match us, hl with | [_], _ => rfl
  obtain ⟨fdswap_fault, Dswap_fault⟩ := c.def_ 29 (d := dH_swap_fault) rfl
  have Fswap_fault : Fun K _ _ s_swap_fault _ fdswap_fault := OQ.fun_of Dswap_fault
  have bswap_fault := Fswap_fault.binds (ps := ["joins"]) fun _ _ _ _ _ _ us hl => match us, hl with | [_], _ => rfl
  obtain ⟨fdgrouping_fault, Dgrouping_fault⟩ := c.def_ 30 (d := dH_grouping_fault) rfl
  have Fgrouping_fault : Fun K _ _ s_grouping_fault _ fdgrouping_fault := OQ.fun_of Dgrouping_fault
  have bgrouping_fault := Fgrouping_fault.binds (ps := ["word", "table"]) fun _ _ _ _ _ _ us hl => match us, hl with | [_, _], _ => rfl
  obtain ⟨fdover_fault, Dover_fault⟩ := c.def_ 31 (d := dH_over_fault) rfl
  have Fover_fault : Fun K _ _ s_over_fault _ fdover_fault := OQ.fun_of Dover_fault
  have bover_fault := Fover_fault.binds (ps := ["joins", "products"]) fun _ _ _ _ _ _ us hl => match us, hl with | [_, _], _ => rfl
  obtain ⟨fdsame_fault, Dsame_fault⟩ := c.def_ 32 (d := dH_same_fault) rfl
  have Fsame_fault : Fun K _ _ s_same_fault _ fdsame_fault := OQ.fun_of Dsame_fault
  have bsame_fault := Fsame_fault.binds (ps := ["none", "one"]) fun _ _ _ _ _ _ us hl => match us, hl with | [_, _], _ => rfl
  obtain ⟨fdReckoning__init, DReckoning__init⟩ := c.def_ 33 (d := dH_Reckoning__init) rfl
  have FReckoning__init : Fun K _ _ s_Reckoning__init _ fdReckoning__init := OQ.fun_of DReckoning__init
  have bReckoning__init := FReckoning__init.binds (ps := ["self", "joins", "products", "none", "one"]) fun _ _ _ _ _ _ us hl => match us, hl with | [_, _, _, _, _], _ => rfl
  obtain ⟨fdReckoning__eq, DReckoning__eq⟩ := c.def_ 34 (d := dH_Reckoning__eq) rfl
  have FReckoning__eq : Fun K _ _ s_Reckoning__eq _ fdReckoning__eq := OQ.fun_of DReckoning__eq
  have bReckoning__eq := FReckoning__eq.binds (ps := ["self", "other"]) fun _ _ _ _ _ _ us hl => match us, hl with | [_, _], _ => rfl
  obtain ⟨fdReckoning_joined, DReckoning_joined⟩ := c.def_ 35 (d := dH_Reckoning_joined) rfl
  have FReckoning_joined : Fun K _ _ s_Reckoning_joined _ fdReckoning_joined := OQ.fun_of DReckoning_joined
  have bReckoning_joined := FReckoning_joined.binds (ps := ["self", "worths"]) fun _ _ _ _ _ _ us hl => match us, hl with | [_, _], _ => rfl
  obtain ⟨fdReckoning_meet, DReckoning_meet⟩ := c.def_ 36 (d := dH_Reckoning_meet) rfl
  have FReckoning_meet : Fun K _ _ s_Reckoning_meet _ fdReckoning_meet := OQ.fun_of DReckoning_meet
  have bReckoning_meet := FReckoning_meet.binds (ps := ["self", "a", "b"]) fun _ _ _ _ _ _ us hl => match us, hl with | [_, _, _], _ => rfl
  obtain ⟨fdReckoning_left, DReckoning_left⟩ := c.def_ 37 (d := dH_Reckoning_left) rfl
  have FReckoning_left : Fun K _ _ s_Reckoning_left _ fdReckoning_left := OQ.fun_of DReckoning_left
  have bReckoning_left := FReckoning_left.binds (ps := ["self", "a", "c"]) fun _ _ _ _ _ _ us hl => match us, hl with | [_, _, _], _ => rfl
  obtain ⟨fdReckoning_right, DReckoning_right⟩ := c.def_ 38 (d := dH_Reckoning_right) rfl
  have FReckoning_right : Fun K _ _ s_Reckoning_right _ fdReckoning_right := OQ.fun_of DReckoning_right
  have bReckoning_right := FReckoning_right.binds (ps := ["self", "c", "a"]) fun _ _ _ _ _ _ us hl => match us, hl with | [_, _, _], _ => rfl
  obtain ⟨fdyes_no, Dyes_no⟩ := c.def_ 39 (d := dH_yes_no) rfl
  have Fyes_no : Fun K _ _ s_yes_no _ fdyes_no := OQ.fun_of Dyes_no
  have byes_no := Fyes_no.binds (ps := []) fun _ _ _ _ _ _ us hl => match us, hl with | [], _ => rfl
  obtain ⟨fdwidths, Dwidths⟩ := c.def_ 40 (d := dH_widths) rfl
  have Fwidths : Fun K _ _ s_widths _ fdwidths := OQ.fun_of Dwidths
  have bwidths := Fwidths.binds (ps := ["most"]) fun _ _ _ _ _ _ us hl => match us, hl with | [_], _ => rfl
  obtain ⟨fdgreater_ones, Dgreater_ones⟩ := c.def_ 41 (d := dH_greater_ones) rfl
  have Fgreater_ones : Fun K _ _ s_greater_ones _ fdgreater_ones := OQ.fun_of Dgreater_ones
  have bgreater_ones := Fgreater_ones.binds (ps := ["size"]) fun _ _ _ _ _ _ us hl => match us, hl with | [_], _ => rfl
  obtain ⟨fdlaw_hand, Dlaw_hand⟩ := c.def_ 42 (d := dH_law_hand) rfl
  have Flaw_hand : Fun K _ _ s_law_hand _ fdlaw_hand := OQ.fun_of Dlaw_hand
  have blaw_hand := Flaw_hand.binds (ps := ["script"]) fun _ _ _ _ _ _ us hl => match us, hl with | [_], _ => rfl
  obtain ⟨fdlaw_draw, Dlaw_draw⟩ := c.def_ 43 (d := dH_law_draw) rfl
  have Flaw_draw : Fun K _ _ s_law_draw _ fdlaw_draw := OQ.fun_of Dlaw_draw
  have blaw_draw := Flaw_draw.binds (ps := ["hand", "many"]) fun _ _ _ _ _ _ us hl => match us, hl with | [_, _], _ => rfl
  obtain ⟨fdlaw_number, Dlaw_number⟩ := c.def_ 44 (d := dH_law_number) rfl
  have Flaw_number : Fun K _ _ s_law_number _ fdlaw_number := OQ.fun_of Dlaw_number
  have blaw_number := Flaw_number.binds (ps := ["hand"]) fun _ _ _ _ _ _ us hl => match us, hl with | [_], _ => rfl
  obtain ⟨fdlaw_pair, Dlaw_pair⟩ := c.def_ 45 (d := dH_law_pair) rfl
  have Flaw_pair : Fun K _ _ s_law_pair _ fdlaw_pair := OQ.fun_of Dlaw_pair
  have blaw_pair := Flaw_pair.binds (ps := ["hand"]) fun _ _ _ _ _ _ us hl => match us, hl with | [_], _ => rfl
  obtain ⟨fdlaw_handed, Dlaw_handed⟩ := c.def_ 46 (d := dH_law_handed) rfl
  have Flaw_handed : Fun K _ _ s_law_handed _ fdlaw_handed := OQ.fun_of Dlaw_handed
  have blaw_handed := Flaw_handed.binds (ps := ["hand", "pair"]) fun _ _ _ _ _ _ us hl => match us, hl with | [_, _], _ => rfl
  obtain ⟨fdlaw_is, Dlaw_is⟩ := c.def_ 47 (d := dH_law_is) rfl
  have Flaw_is : Fun K _ _ s_law_is _ fdlaw_is := OQ.fun_of Dlaw_is
  have blaw_is := Flaw_is.binds (ps := ["thing", "top", "bottom"]) fun _ _ _ _ _ _ us hl => match us, hl with | [_, _, _], _ => rfl
  obtain ⟨fdlaw_refused, Dlaw_refused⟩ := c.def_ 48 (d := dH_law_refused) rfl
  have Flaw_refused : Fun K _ _ s_law_refused _ fdlaw_refused := OQ.fun_of Dlaw_refused
  have blaw_refused := Flaw_refused.binds (ps := ["kind", "one", "other"]) fun _ _ _ _ _ _ us hl => match us, hl with | [_, _, _], _ => rfl
  obtain ⟨fdlaw, Dlaw⟩ := c.def_ 49 (d := dH_law) rfl
  have Flaw : Fun K _ _ s_law _ fdlaw := OQ.fun_of Dlaw
  have blaw := Flaw.binds (ps := ["script"]) fun _ _ _ _ _ _ us hl => match us, hl with | [_], _ => rfl
  have gWayError : mg "WayError" = some (.ref (He.ga K "WayError")) := He.glo_ok X G (c.fact 0 rfl)
  have gBadNumber : mg "BadNumber" = some (.ref (He.ga K "BadNumber")) := He.glo_ok X G (c.fact 1 rfl)
  have gBadWorth : mg "BadWorth" = some (.ref (He.ga K "BadWorth")) := He.glo_ok X G (c.fact 2 rfl)
  have gRatio : mg "Ratio" = some (.ref (He.ga K "Ratio")) := He.glo_ok X G (c.fact 3 rfl)
  have gNumbers : mg "Numbers" = some (.ref (He.ga K "Numbers")) := He.glo_ok X G (c.fact 4 rfl)
  have gLengths : mg "Lengths" = some (.ref (He.ga K "Lengths")) := He.glo_ok X G (c.fact 5 rfl)
  have gReckoning : mg "Reckoning" = some (.ref (He.ga K "Reckoning")) := He.glo_ok X G (c.fact 6 rfl)
  have gis_integer : mg "is_integer" = some (.ref (He.ga K "is_integer")) := He.glo_ok X G (c.fact 7 rfl)
  have gis_row : mg "is_row" = some (.ref (He.ga K "is_row")) := He.glo_ok X G (c.fact 8 rfl)
  have gis_number : mg "is_number" = some (.ref (He.ga K "is_number")) := He.glo_ok X G (c.fact 9 rfl)
  have gas_ratio : mg "as_ratio" = some (.ref (He.ga K "as_ratio")) := He.glo_ok X G (c.fact 10 rfl)
  have gsum_of : mg "sum_of" = some (.ref (He.ga K "sum_of")) := He.glo_ok X G (c.fact 11 rfl)
  have gproduct_of : mg "product_of" = some (.ref (He.ga K "product_of")) := He.glo_ok X G (c.fact 12 rfl)
  have gcheck_worths : mg "check_worths" = some (.ref (He.ga K "check_worths")) := He.glo_ok X G (c.fact 13 rfl)
  have gfirst_fault : mg "first_fault" = some (.ref (He.ga K "first_fault")) := He.glo_ok X G (c.fact 14 rfl)
  have gsize_fault : mg "size_fault" = some (.ref (He.ga K "size_fault")) := He.glo_ok X G (c.fact 15 rfl)
  have gis_square : mg "is_square" = some (.ref (He.ga K "is_square")) := He.glo_ok X G (c.fact 16 rfl)
  have gis_side : mg "is_side" = some (.ref (He.ga K "is_side")) := He.glo_ok X G (c.fact 17 rfl)
  have gis_below : mg "is_below" = some (.ref (He.ga K "is_below")) := He.glo_ok X G (c.fact 18 rfl)
  have gnone_fault : mg "none_fault" = some (.ref (He.ga K "none_fault")) := He.glo_ok X G (c.fact 19 rfl)
  have gone_fault : mg "one_fault" = some (.ref (He.ga K "one_fault")) := He.glo_ok X G (c.fact 20 rfl)
  have gidle_fault : mg "idle_fault" = some (.ref (He.ga K "idle_fault")) := He.glo_ok X G (c.fact 21 rfl)
  have gswap_fault : mg "swap_fault" = some (.ref (He.ga K "swap_fault")) := He.glo_ok X G (c.fact 22 rfl)
  have ggrouping_fault : mg "grouping_fault" = some (.ref (He.ga K "grouping_fault")) := He.glo_ok X G (c.fact 23 rfl)
  have gover_fault : mg "over_fault" = some (.ref (He.ga K "over_fault")) := He.glo_ok X G (c.fact 24 rfl)
  have gsame_fault : mg "same_fault" = some (.ref (He.ga K "same_fault")) := He.glo_ok X G (c.fact 25 rfl)
  have gyes_no : mg "yes_no" = some (.ref (He.ga K "yes_no")) := He.glo_ok X G (c.fact 26 rfl)
  have gwidths : mg "widths" = some (.ref (He.ga K "widths")) := He.glo_ok X G (c.fact 27 rfl)
  have ggreater_ones : mg "greater_ones" = some (.ref (He.ga K "greater_ones")) := He.glo_ok X G (c.fact 28 rfl)
  have g_law_hand : mg "_law_hand" = some (.ref (He.ga K "_law_hand")) := He.glo_ok X G (c.fact 29 rfl)
  have g_law_draw : mg "_law_draw" = some (.ref (He.ga K "_law_draw")) := He.glo_ok X G (c.fact 30 rfl)
  have g_law_number : mg "_law_number" = some (.ref (He.ga K "_law_number")) := He.glo_ok X G (c.fact 31 rfl)
  have g_law_pair : mg "_law_pair" = some (.ref (He.ga K "_law_pair")) := He.glo_ok X G (c.fact 32 rfl)
  have g_law_handed : mg "_law_handed" = some (.ref (He.ga K "_law_handed")) := He.glo_ok X G (c.fact 33 rfl)
  have g_law_is : mg "_law_is" = some (.ref (He.ga K "_law_is")) := He.glo_ok X G (c.fact 34 rfl)
  have g_law_refused : mg "_law_refused" = some (.ref (He.ga K "_law_refused")) := He.glo_ok X G (c.fact 35 rfl)
  have glaw : mg "law" = some (.ref (He.ga K "law")) := He.glo_ok X G (c.fact 36 rfl)
  have zabs : mg "abs" = none := He.free_ok X G (c.fact 37 rfl)
  have zall : mg "all" = none := He.free_ok X G (c.fact 38 rfl)
  have zbool : mg "bool" = none := He.free_ok X G (c.fact 39 rfl)
  have zint : mg "int" = none := He.free_ok X G (c.fact 40 rfl)
  have zisinstance : mg "isinstance" = none := He.free_ok X G (c.fact 41 rfl)
  have zlen : mg "len" = none := He.free_ok X G (c.fact 42 rfl)
  have zlist : mg "list" = none := He.free_ok X G (c.fact 43 rfl)
  have zmax : mg "max" = none := He.free_ok X G (c.fact 44 rfl)
  have zmin : mg "min" = none := He.free_ok X G (c.fact 45 rfl)
  have zrange : mg "range" = none := He.free_ok X G (c.fact 46 rfl)
  have ztuple : mg "tuple" = none := He.free_ok X G (c.fact 47 rfl)
  obtain ⟨tkFEWEST_WORTHS, gFEWEST_WORTHS⟩ := He.int_ok X G (c.fact 48 (f := .int "FEWEST_WORTHS" 2) rfl)
  obtain ⟨tkMOST_WORTHS, gMOST_WORTHS⟩ := He.int_ok X G (c.fact 49 (f := .int "MOST_WORTHS" 16) rfl)
  obtain ⟨tkMOST_WIDTH, gMOST_WIDTH⟩ := He.int_ok X G (c.fact 50 (f := .int "MOST_WIDTH" 15) rfl)
  have r0 := x
  obtain ⟨qeBN, r1⟩ := OQ.two r0
  obtain ⟨qeBW, r2⟩ := OQ.two r1
  obtain ⟨qgcd, r3⟩ := OQ.two r2
  obtain ⟨qhnO, r4⟩ := OQ.two r3
  obtain ⟨qhtO, r5⟩ := OQ.two r4
  obtain ⟨qtI, r6⟩ := OQ.two r5
  obtain ⟨qicWE, r7⟩ := OQ.two r6
  obtain ⟨qtyWE, r8⟩ := OQ.two r7
  obtain ⟨qexWE, r9⟩ := OQ.two r8
  obtain ⟨qhaRatio, r10⟩ := OQ.two r9
  obtain ⟨qhmRatio, r11⟩ := OQ.two r10
  obtain ⟨qhaNumbers, r12⟩ := OQ.two r11
  obtain ⟨qhmNumbers, r13⟩ := OQ.two r12
  obtain ⟨qhaLengths, r14⟩ := OQ.two r13
  obtain ⟨qhmLengths, r15⟩ := OQ.two r14
  obtain ⟨qhaReckoning, r16⟩ := OQ.two r15
  obtain ⟨qhmReckoning, r17⟩ := OQ.two r16
  obtain ⟨qneRatio, r18⟩ := OQ.two r17
  obtain ⟨qkIRatio, r19⟩ := OQ.two r18
  obtain ⟨qkBRatio, r20⟩ := OQ.two r19
  obtain ⟨qneNumbers, r21⟩ := OQ.two r20
  obtain ⟨qkINumbers, r22⟩ := OQ.two r21
  obtain ⟨qkBNumbers, r23⟩ := OQ.two r22
  obtain ⟨qneReckoning, r24⟩ := OQ.two r23
  obtain ⟨qkIReckoning, r25⟩ := OQ.two r24
  obtain ⟨qkBReckoning, r26⟩ := OQ.two r25
  obtain ⟨qkTRatio, r27⟩ := OQ.two r26
  obtain ⟨qkTNumbers, r28⟩ := OQ.two r27
  obtain ⟨qkPReckoningNumbers, r29⟩ := OQ.two r28
  obtain ⟨qkPLengthsNumbers, r30⟩ := OQ.two r29
  obtain ⟨qkPRatioNumbers, r31⟩ := OQ.two r30
  obtain ⟨qkPNumbersReckoning, r32⟩ := OQ.two r31
  obtain ⟨qkPNumbersLengths, r33⟩ := OQ.two r32
  obtain ⟨qkPNumbersRatio, r34⟩ := OQ.two r33
  obtain ⟨qkPReckoningRatio, r35⟩ := OQ.two r34
  obtain ⟨qsb, r36⟩ := OQ.two r35
  obtain ⟨qsfR, r37⟩ := OQ.two r36
  obtain ⟨qsIR, r38⟩ := OQ.two r37
  obtain ⟨qsRI, r39⟩ := OQ.two r38
  obtain ⟨qioadd, r40⟩ := OQ.two r39
  obtain ⟨qiradd, r41⟩ := OQ.two r40
  obtain ⟨qiomul, r42⟩ := OQ.two r41
  have qirmul := r42
  have hnO := OQ.isB_ok qhnO
  have htO := of_decide_eq_true qhtO
  have eBN := OQ.erB_ok hnO htO qeBN
  have eBW := OQ.erB_ok hnO htO qeBW
  obtain ⟨foadd, ioadd⟩ := someO qioadd
  obtain ⟨roadd, iradd⟩ := someO qiradd
  obtain ⟨fomul, iomul⟩ := someO qiomul
  obtain ⟨romul, irmul⟩ := someO qirmul
  have e := hfa.symm.trans glaw
  cases e
  let T : Top K mg := { C_Ratio := _, cl_Ratio := He.cls_ok (c.fact 51 (f := .cls "Ratio") rfl), g_Ratio := gRatio, na_Ratio_top := He.noat_ok (c.fact 55 (f := .noat "Ratio" "top") rfl), na_Ratio_bottom := He.noat_ok (c.fact 56 (f := .noat "Ratio" "bottom") rfl), C_Numbers := _, cl_Numbers := He.cls_ok (c.fact 52 (f := .cls "Numbers") rfl), g_Numbers := gNumbers, na_Numbers_none := He.noat_ok (c.fact 57 (f := .noat "Numbers" "none") rfl), na_Numbers_one := He.noat_ok (c.fact 58 (f := .noat "Numbers" "one") rfl), C_Lengths := _, cl_Lengths := He.cls_ok (c.fact 53 (f := .cls "Lengths") rfl), g_Lengths := gLengths, na_Lengths_none := He.noat_ok (c.fact 59 (f := .noat "Lengths" "none") rfl), na_Lengths_one := He.noat_ok (c.fact 60 (f := .noat "Lengths" "one") rfl), C_Reckoning := _, cl_Reckoning := He.cls_ok (c.fact 54 (f := .cls "Reckoning") rfl), g_Reckoning := gReckoning, na_Reckoning_joins := He.noat_ok (c.fact 61 (f := .noat "Reckoning" "joins") rfl), na_Reckoning_products := He.noat_ok (c.fact 62 (f := .noat "Reckoning" "products") rfl), na_Reckoning_none := He.noat_ok (c.fact 63 (f := .noat "Reckoning" "none") rfl), na_Reckoning_one := He.noat_ok (c.fact 64 (f := .noat "Reckoning" "one") rfl), na_Reckoning__meets := He.noat_ok (c.fact 65 (f := .noat "Reckoning" "_meets") rfl), na_Reckoning__lefts := He.noat_ok (c.fact 66 (f := .noat "Reckoning" "_lefts") rfl), na_Reckoning__rights := He.noat_ok (c.fact 67 (f := .noat "Reckoning" "_rights") rfl), f_WayError__init := _, fd_WayError__init := fdWayError__init, F_WayError__init := FWayError__init, b_WayError__init := bWayError__init, f_is_integer := _, fd_is_integer := fdis_integer, F_is_integer := Fis_integer, b_is_integer := bis_integer, g_is_integer := gis_integer, f_is_row := _, fd_is_row := fdis_row, F_is_row := Fis_row, b_is_row := bis_row, g_is_row := gis_row, f_Ratio__init := _, fd_Ratio__init := fdRatio__init, F_Ratio__init := FRatio__init, b_Ratio__init := bRatio__init, b1_Ratio__init := b1Ratio__init, M_Ratio := He.mkr_ok (c.fact 83 (f := .mkr "Ratio") rfl), f_Ratio__eq := _, fd_Ratio__eq := fdRatio__eq, F_Ratio__eq := FRatio__eq, b_Ratio__eq := bRatio__eq, m_Ratio__eq := He.meth_ok (c.fact 68 (f := .meth "Ratio" "__eq__") rfl), f_Ratio__add := _, fd_Ratio__add := fdRatio__add, F_Ratio__add := FRatio__add, b_Ratio__add := bRatio__add, m_Ratio__add := He.meth_ok (c.fact 69 (f := .meth "Ratio" "__add__") rfl), f_Ratio__rmul := _, fd_Ratio__rmul := fdRatio__rmul, F_Ratio__rmul := FRatio__rmul, b_Ratio__rmul := bRatio__rmul, m_Ratio__rmul := He.meth_ok (c.fact 70 (f := .meth "Ratio" "__rmul__") rfl), f_Ratio__radd := _, fd_Ratio__radd := fdRatio__radd, F_Ratio__radd := FRatio__radd, b_Ratio__radd := bRatio__radd, m_Ratio__radd := He.meth_ok (c.fact 71 (f := .meth "Ratio" "__radd__") rfl), f_Ratio__mul := _, fd_Ratio__mul := fdRatio__mul, F_Ratio__mul := FRatio__mul, b_Ratio__mul := bRatio__mul, m_Ratio__mul := He.meth_ok (c.fact 72 (f := .meth "Ratio" "__mul__") rfl), f_is_number := _, fd_is_number := fdis_number, F_is_number := Fis_number, b_is_number := bis_number, g_is_number := gis_number, f_as_ratio := _, fd_as_ratio := fdas_ratio, F_as_ratio := Fas_ratio, b_as_ratio := bas_ratio, g_as_ratio := gas_ratio, f_sum_of := _, fd_sum_of := fdsum_of, F_sum_of := Fsum_of, b_sum_of := bsum_of, g_sum_of := gsum_of, f_product_of := _, fd_product_of := fdproduct_of, F_product_of := Fproduct_of, b_product_of := bproduct_of, g_product_of := gproduct_of, f_check_worths := _, fd_check_worths := fdcheck_worths, F_check_worths := Fcheck_worths, b_check_worths := bcheck_worths, g_check_worths := gcheck_worths, f_Numbers__init := _, fd_Numbers__init := fdNumbers__init, F_Numbers__init := FNumbers__init, b_Numbers__init := bNumbers__init, M_Numbers := He.mkr_ok (c.fact 84 (f := .mkr "Numbers") rfl), f_Numbers__eq := _, fd_Numbers__eq := fdNumbers__eq, F_Numbers__eq := FNumbers__eq, b_Numbers__eq := bNumbers__eq, m_Numbers__eq := He.meth_ok (c.fact 73 (f := .meth "Numbers" "__eq__") rfl), f_Numbers_is_worth := _, fd_Numbers_is_worth := fdNumbers_is_worth, F_Numbers_is_worth := FNumbers_is_worth, b_Numbers_is_worth := bNumbers_is_worth, m_Numbers_is_worth := He.meth_ok (c.fact 74 (f := .meth "Numbers" "is_worth") rfl), f_Numbers_join := _, fd_Numbers_join := fdNumbers_join, F_Numbers_join := FNumbers_join, b_Numbers_join := bNumbers_join, m_Numbers_join := He.meth_ok (c.fact 75 (f := .meth "Numbers" "join") rfl), f_Numbers_times := _, fd_Numbers_times := fdNumbers_times, F_Numbers_times := FNumbers_times, b_Numbers_times := bNumbers_times, m_Numbers_times := He.meth_ok (c.fact 76 (f := .meth "Numbers" "times") rfl), f_Lengths__init := _, fd_Lengths__init := fdLengths__init, F_Lengths__init := FLengths__init, b_Lengths__init := bLengths__init, M_Lengths := He.mkr_ok (c.fact 85 (f := .mkr "Lengths") rfl), f_Lengths__eq := _, fd_Lengths__eq := fdLengths__eq, F_Lengths__eq := FLengths__eq, b_Lengths__eq := bLengths__eq, m_Lengths__eq := He.meth_ok (c.fact 77 (f := .meth "Lengths" "__eq__") rfl), f_first_fault := _, fd_first_fault := fdfirst_fault, F_first_fault := Ffirst_fault, b_first_fault := bfirst_fault, g_first_fault := gfirst_fault, f_size_fault := _, fd_size_fault := fdsize_fault, F_size_fault := Fsize_fault, b_size_fault := bsize_fault, g_size_fault := gsize_fault, f_is_square := _, fd_is_square := fdis_square, F_is_square := Fis_square, b_is_square := bis_square, g_is_square := gis_square, f_is_side := _, fd_is_side := fdis_side, F_is_side := Fis_side, b_is_side := bis_side, g_is_side := gis_side, f_is_below := _, fd_is_below := fdis_below, F_is_below := Fis_below, b_is_below := bis_below, g_is_below := gis_below, f_none_fault := _, fd_none_fault := fdnone_fault, F_none_fault := Fnone_fault, b_none_fault := bnone_fault, g_none_fault := gnone_fault, f_one_fault := _, fd_one_fault := fdone_fault, F_one_fault := Fone_fault, b_one_fault := bone_fault, g_one_fault := gone_fault, f_idle_fault := _, fd_idle_fault := fdidle_fault, F_idle_fault := Fidle_fault, b_idle_fault := bidle_fault, g_idle_fault := gidle_fault, f_swap_fault := _, fd_swap_fault := fdswap_fault, F_swap_fault := Fswap_fault, b_swap_fault := bswap_fault, g_swap_fault := gswap_fault, f_grouping_fault := _, fd_grouping_fault := fdgrouping_fault, F_grouping_fault := Fgrouping_fault, b_grouping_fault := bgrouping_fault, g_grouping_fault := ggrouping_fault, f_over_fault := _, fd_over_fault := fdover_fault, F_over_fault := Fover_fault, b_over_fault := bover_fault, g_over_fault := gover_fault, f_same_fault := _, fd_same_fault := fdsame_fault, F_same_fault := Fsame_fault, b_same_fault := bsame_fault, g_same_fault := gsame_fault, f_Reckoning__init := _, fd_Reckoning__init := fdReckoning__init, F_Reckoning__init := FReckoning__init, b_Reckoning__init := bReckoning__init, M_Reckoning := He.mkr_ok (c.fact 86 (f := .mkr "Reckoning") rfl), f_Reckoning__eq := _, fd_Reckoning__eq := fdReckoning__eq, F_Reckoning__eq := FReckoning__eq, b_Reckoning__eq := bReckoning__eq, m_Reckoning__eq := He.meth_ok (c.fact 78 (f := .meth "Reckoning" "__eq__") rfl), f_Reckoning_joined := _, fd_Reckoning_joined := fdReckoning_joined, F_Reckoning_joined := FReckoning_joined, b_Reckoning_joined := bReckoning_joined, m_Reckoning_joined := He.meth_ok (c.fact 79 (f := .meth "Reckoning" "_joined") rfl), f_Reckoning_meet := _, fd_Reckoning_meet := fdReckoning_meet, F_Reckoning_meet := FReckoning_meet, b_Reckoning_meet := bReckoning_meet, m_Reckoning_meet := He.meth_ok (c.fact 80 (f := .meth "Reckoning" "_meet") rfl), f_Reckoning_left := _, fd_Reckoning_left := fdReckoning_left, F_Reckoning_left := FReckoning_left, b_Reckoning_left := bReckoning_left, m_Reckoning_left := He.meth_ok (c.fact 81 (f := .meth "Reckoning" "_left") rfl), f_Reckoning_right := _, fd_Reckoning_right := fdReckoning_right, F_Reckoning_right := FReckoning_right, b_Reckoning_right := bReckoning_right, m_Reckoning_right := He.meth_ok (c.fact 82 (f := .meth "Reckoning" "_right") rfl), f_yes_no := _, fd_yes_no := fdyes_no, F_yes_no := Fyes_no, b_yes_no := byes_no, g_yes_no := gyes_no, f_widths := _, fd_widths := fdwidths, F_widths := Fwidths, b_widths := bwidths, g_widths := gwidths, f_greater_ones := _, fd_greater_ones := fdgreater_ones, F_greater_ones := Fgreater_ones, b_greater_ones := bgreater_ones, g_greater_ones := ggreater_ones, f_law_hand := _, fd_law_hand := fdlaw_hand, F_law_hand := Flaw_hand, b_law_hand := blaw_hand, g_law_hand := g_law_hand, f_law_draw := _, fd_law_draw := fdlaw_draw, F_law_draw := Flaw_draw, b_law_draw := blaw_draw, g_law_draw := g_law_draw, f_law_number := _, fd_law_number := fdlaw_number, F_law_number := Flaw_number, b_law_number := blaw_number, g_law_number := g_law_number, f_law_pair := _, fd_law_pair := fdlaw_pair, F_law_pair := Flaw_pair, b_law_pair := blaw_pair, g_law_pair := g_law_pair, f_law_handed := _, fd_law_handed := fdlaw_handed, F_law_handed := Flaw_handed, b_law_handed := blaw_handed, g_law_handed := g_law_handed, f_law_is := _, fd_law_is := fdlaw_is, F_law_is := Flaw_is, b_law_is := blaw_is, g_law_is := g_law_is, f_law_refused := _, fd_law_refused := fdlaw_refused, F_law_refused := Flaw_refused, b_law_refused := blaw_refused, g_law_refused := g_law_refused, f_law := _, fd_law := fdlaw, F_law := Flaw, b_law := blaw, g_law := glaw, n_abs := zabs, n_all := zall, n_bool := zbool, n_int := zint, n_isinstance := zisinstance, n_len := zlen, n_list := zlist, n_max := zmax, n_min := zmin, n_range := zrange, n_tuple := ztuple, C_BN := _, g_BadNumber := gBadNumber, g_gcd := PySem.W.mg_of X G (OQ.isB_ok qgcd), haR := OQ.isB_ok qhaRatio, hnO := hnO, htO := htO, hmR := of_decide_eq_true qhmRatio, neR := OQ.isB_ok qneRatio, oex_BadNumber := eBN.oex, i_BadNumber := eBN.ini, tI := of_decide_eq_true qtI, v_BadNumber := eBN.va, xf_BadNumber := eBN.xf, exI_BadNumber := eBN.exi, exm := OQ.exm_is eBN.oex.exC eBN.cls eBN.oex.tyC (OQ.mro_has eBN (by simp)), kBN := kit_selfR, kRR := kit_selfR, kRi := of_decide_eq_true qkIRatio, kRb := of_decide_eq_true qkBRatio, nfR := nf_self, kT := all7 qkTRatio, sfR := qsfR, subIR := of_decide_eq_true qsIR, subRI := of_decide_eq_true qsRI, C_BW := _, g_BadWorth := gBadWorth, oex_BadWorth := eBW.oex, i_BadWorth := eBW.ini, v_BadWorth := eBW.va, xf_BadWorth := eBW.xf, exI_BadWorth := eBW.exi, exmW := OQ.exm_is eBW.oex.exC eBW.cls eBW.oex.tyC (OQ.mro_has eBW (by simp)), kBW := kit_selfR, C_WE := _, g_WayError := gWayError, exWB := OQ.exm_eW eBW (of_decide_eq_true qexWE) qicWE (of_decide_eq_true qtyWE), fo_add := foadd, ro_add := roadd, at_add := by rw [dn_add]; exact (He.meth_ok (c.fact 69 (f := .meth "Ratio" "__add__") rfl)).at_, at_radd := by rw [dn_radd]; exact (He.meth_ok (c.fact 71 (f := .meth "Ratio" "__radd__") rfl)).at_, ia_add := by rw [dn_add]; exact ioadd, ib_add := by rw [dn_radd]; exact iradd, fo_mul := fomul, ro_mul := romul, at_mul := by rw [dn_mul]; exact (He.meth_ok (c.fact 72 (f := .meth "Ratio" "__mul__") rfl)).at_, at_rmul := by rw [dn_rmul]; exact (He.meth_ok (c.fact 70 (f := .meth "Ratio" "__rmul__") rfl)).at_, ia_mul := by rw [dn_mul]; exact iomul, ib_mul := by rw [dn_rmul]; exact irmul, k_FEWEST_WORTHS := tkFEWEST_WORTHS, g_FEWEST_WORTHS := gFEWEST_WORTHS, k_MOST_WORTHS := tkMOST_WORTHS, g_MOST_WORTHS := gMOST_WORTHS, k_MOST_WIDTH := tkMOST_WIDTH, g_MOST_WIDTH := gMOST_WIDTH, ha_Numbers := OQ.isB_ok qhaNumbers, hm_Numbers := of_decide_eq_true qhmNumbers, ha_Lengths := OQ.isB_ok qhaLengths, hm_Lengths := of_decide_eq_true qhmLengths, ha_Reckoning := OQ.isB_ok qhaReckoning, hm_Reckoning := of_decide_eq_true qhmReckoning, ne_Numbers := OQ.isB_ok qneNumbers, kI_Numbers := of_decide_eq_true qkINumbers, kB_Numbers := of_decide_eq_true qkBNumbers, ne_Reckoning := OQ.isB_ok qneReckoning, kI_Reckoning := of_decide_eq_true qkIReckoning, kB_Reckoning := of_decide_eq_true qkBReckoning, kT_Numbers := all7 qkTNumbers, kP_Reckoning_Numbers := pairP qkPReckoningNumbers, kP_Lengths_Numbers := pairP qkPLengthsNumbers, kP_Ratio_Numbers := pairP qkPRatioNumbers, kP_Numbers_Reckoning := pairP qkPNumbersReckoning, kP_Numbers_Lengths := pairP qkPNumbersLengths, kP_Numbers_Ratio := pairP qkPNumbersRatio, kP_Reckoning_Ratio := pairP qkPReckoningRatio, sb_Numbers := fun t ht => of_decide_eq_true (List.all_eq_true.mp qsb t ht) }
  exact ⟨fdlaw, fun s v => FunD.bindsA (ps := ["script"]) Dlaw (fun _ _ _ _ _ _ us hl => match us, hl with | [_], _ => rfl) s [v] rfl, fun base _ _ => ok_law T⟩


end Toy
open PySem PySem.W PySem.Calls PyProof.Rows
set_option maxRecDepth 100000 in
set_option maxHeartbeats 0 in
theorem PySem.Challenge.cw_watchedways_k30_numbers_holds : PySem.Challenge.rw_watchedways_k30_numbers.Holds := by
  w_on; o_law
  refine HandSHeadRun.head_imp (r := OpenLaw.row PySem.Challenge.rw_watchedways_k30_numbers) (q := view (OpenLaw.row PySem.Challenge.rw_watchedways_k30_numbers).prog [0, 54]) (H := Toy.hk) (ob := Toy.ob) (M := 30000) (loose := Toy.looseH) (d := HandSHeadRun.topDef (OpenLaw.row PySem.Challenge.rw_watchedways_k30_numbers).prog 54) (kwd := []) (OQ.obB_eq 5 Toy.faH Toy.fnH Toy.exH)
    Toy.run (by kernel_rfl) (by kernel_rfl) (by kernel_rfl) (by rfl) (by first | assumption | decide +kernel) (by decide +kernel) ⟨rfl, rfl, rfl, rfl, rfl, by decide +kernel⟩ ?hw ?hc
  case hw => w_witness2
  case hc =>
    refine L2.walk_ofE (l := PySem.Challenge.rw_watchedways_k30_numbers) (n := 63) (k := 18) (x := "script") (CX := L2.CX0) rfl (by decide) (by kernel_rfl) ⟨rfl, by decide, by decide⟩ ?F (fun _ _ _ _ z => z)
    intro w mg fa h Y G hmg0
    obtain ⟨K, KX, c, x⟩ := Y
    have hmg : mg ("law" : PySem.Str) = some (.ref fa) := by
      have e : (HandSHeadRun.topDef (OpenLaw.row PySem.Challenge.rw_watchedways_k30_numbers).prog 54).name = ("law" : PySem.Str) := by kernel_rfl
      rw [← e]
      exact hmg0
    obtain ⟨fd, hb, hF⟩ := Toy.facts (P := (PySem.Challenge.rw_watchedways_k30_numbers).prog) (w := w) KX G hmg c x
    exact ⟨K, fd, Toy.spLaw K, KX, hb, fun H a ns hl _ hS => ⟨a, ns, rfl, hS, hl, fun _ => rfl⟩, hF⟩

