import PyProof.Rows.All
import Wide.All
import OpenK.AllK
import Wide.FinOn
import KE.KExcIs
import HandS.ForMost
import HandS.ForExc
import HandS.Codes
import HandS.Wide
import HandS.IsInst
import HandS.ExcInit
import HandS.ExcField
import HandS.ExcIs
import HandS.TryMany
import HandS.CallSlots
import HandS.Defaults
import HandS.Gcd
import HandS.DeepEq
import HandS.Flow
import HandS.TupLe
import PyProof.SumWalk
import PyProof.Rows.CountFlat

import HandS.DictComp
import HandS.Head0
import HandS.Head1
import HandS.Head2
import HandS.Head3
import HandS.HeadEnd
import HandS.HeadHook1
import HandS.HeadHook2
import KE.KStateDown
import PySem.Challenge.RW_watchedways_k29_whole_lengths
set_option Elab.async false
set_option linter.all false
set_option maxRecDepth 100000
set_option maxHeartbeats 4000000
set_option exponentiation.threshold 3000

/-! ### readings, step by step -/
namespace RD
open PySem L2
section
variable {σ : St} {H : Hp} {Q : VK} {B : Bool → Hp → Prop} {A : List V → Hp → Prop} {K : PySem.W.Frag} {v x y : V} {i j : Int} {n : Nat} {ta tb tc te : TE} {tA tB' : TT} {r r' : R2} {t : TA}
theorem d_var {n : Nat} {v : V} (e : σ[n]? = some (some v)) (h : Q v H) : tVar n σ H Q := ⟨v, e, h⟩
theorem d_c (h : Q v H) : tC v σ H Q := h
theorem d_op (h : ta σ H fun x H1 => tb σ H1 fun y H2 => r x y H2 Q) : tOp r ta tb σ H Q := h
theorem d_un {r : V → Hp → VK → Prop} (h : ta σ H fun x H1 => r x H1 Q) : tUn r ta σ H Q := h
theorem d_cb {r : List V → Hp → VK → Prop} (h : t σ H fun vs H1 => r vs H1 Q) : tCB r t σ H Q := h
theorem d_call {sp : Sp} {dvs : List V} {E : XK} (h : t σ H fun vs H1 => sp (vs ++ dvs) H1 Q E) : tCall sp dvs E t σ H Q := h
theorem d_nil (h : A [] H) : tNil σ H A := h
theorem d_cons {ta : TE} {tr : TA} (h : ta σ H fun x H1 => tr σ H1 fun xs H2 => A (x :: xs) H2) : tCons ta tr σ H A := h
theorem d_lst (h : t σ H fun xs H1 => xs.length ≤ sizeLine ∧ ∀ p, H1 p = none → Q (.ref p) (upd H1 p (.lst xs))) : tLst t σ H Q := h
theorem d_tup (h : t σ H fun xs H1 => xs.length ≤ sizeLine ∧ ∀ p, H1 p = none → Q (.ref p) (upd H1 p (.tup xs))) : tTup t σ H Q := h
theorem d_test (h : ta σ H fun x H' => ∃ k, x = .bl k ∧ B k H') : tTest ta σ H B := h
theorem d_tB (h : ta σ H fun x H' => ∃ k, x = .bl k ∧ B k H') : L2.tB ta σ H B := h
theorem d_bl {b : Bool} {R : Bool → Prop} (h : R b) : ∃ k, V.bl b = .bl k ∧ R k := ⟨b, rfl, h⟩
theorem d_and (h : tA σ H fun c H1 => if c = true then tB' σ H1 B else B false H1) : tAnd tA tB' σ H B := h
theorem d_or (h : tA σ H fun c H1 => if c = true then B true H1 else tB' σ H1 B) : tOr tA tB' σ H B := h
theorem d_not (h : tA σ H fun c H1 => B (!c) H1) : tNot tA σ H B := h
theorem d_andV (h : ta σ H fun x H1 => ∃ c, x = .bl c ∧ if c = true then tb σ H1 Q else Q (.bl false) H1) : tAndV ta tb σ H Q := h
theorem d_orV (h : ta σ H fun x H1 => ∃ c, x = .bl c ∧ if c = true then Q (.bl true) H1 else tb σ H1 Q) : tOrV ta tb σ H Q := h
theorem d_notV (h : ta σ H fun x H1 => ∃ c, x = .bl c ∧ Q (.bl (!c)) H1) : tNotV ta σ H Q := h
theorem d_if (h : tA σ H fun c H1 => if c = true then ta σ H1 Q else tb σ H1 Q) : tIf tA ta tb σ H Q := h
theorem d_rI0 {g : Int → Int → V} (h : Q (g i j) H) : rI0 g (.int i) (.int j) H Q := ⟨i, j, rfl, rfl, h⟩
theorem d_rI {C : Int → Int → Prop} {g : Int → Int → V} (c : C i j) (h : Q (g i j) H) : rI C g (.int i) (.int j) H Q := ⟨i, j, rfl, rfl, c, h⟩
theorem d_rU {g : Int → V} (h : Q (g i) H) : rU g (.int i) H Q := ⟨i, rfl, h⟩
theorem d_eqI (h : Q (.bl (decide (i = j))) H) : rEq (.int i) (.int j) H Q := ⟨rfl, by
  have e : decide (V.int i = V.int j) = decide (i = j) := by rw [dec_int, Bool.eq_iff_iff]; simp
  rw [e]; exact h⟩
theorem d_neI (h : Q (.bl (!decide (i = j))) H) : rNe (.int i) (.int j) H Q := ⟨rfl, by
  have e : decide (V.int i = V.int j) = decide (i = j) := by rw [dec_int, Bool.eq_iff_iff]; simp
  rw [e]; exact h⟩
theorem d_eqB {i j : Bool} (h : Q (.bl (decide (i = j))) H) : rEq (.bl i) (.bl j) H Q := ⟨rfl, by
  have e : decide (V.bl i = V.bl j) = decide (i = j) := by rw [dec_bl, Bool.eq_iff_iff]; simp
  rw [e]; exact h⟩
theorem d_eqS {i j : Str} (h : Q (.bl (decide (i = j))) H) : rEq (.str i) (.str j) H Q := ⟨rfl, by
  have e : decide (V.str i = V.str j) = decide (i = j) := by rw [dec_str, Bool.eq_iff_iff]; simp
  rw [e]; exact h⟩
theorem d_neS {i j : Str} (h : Q (.bl (!decide (i = j))) H) : rNe (.str i) (.str j) H Q := ⟨rfl, by
  have e : decide (V.str i = V.str j) = decide (i = j) := by rw [dec_str, Bool.eq_iff_iff]; simp
  rw [e]; exact h⟩
theorem d_ixL {p : Addr} {xs : List V} {v : V} (hs : SqL K H p xs) (e : atI xs i = some v) (h : Q v H) : rIxL K (.ref p) (.int i) H Q := ⟨p, xs, i, v, rfl, rfl, hs, e, h⟩
theorem d_ixT {p : Addr} {xs : List V} {v : V} (hs : SqT K H p xs) (e : atI xs i = some v) (h : Q v H) : rIxT K (.ref p) (.int i) H Q := ⟨p, xs, i, v, rfl, rfl, hs, e, h⟩
theorem d_setL {p : Addr} {xs : List V} {k : Nat} {R : Hp → Prop} (hp : H p = some (.lst xs)) (e : ixN xs.length i = some k) (h : R (upd H p (.lst (xs.set k v)))) : rSetL (.ref p) (.int i) v H R := ⟨p, xs, i, k, rfl, rfl, hp, e, h⟩
theorem d_gname {R : St → Hp → Prop} (h : R (σ.set n (some v)) H) : gName n v σ H R := h
theorem d_gsub {to ti : TE} {ts : TSet} {R : St → Hp → Prop} (h : to σ H fun o H1 => ti σ H1 fun i H2 => ts o i v H2 fun H3 => R σ H3) : gSub to ti ts v σ H R := h
section
variable {nx bk ct : St → Hp → Prop} {rt : VK} {u w : TS} {g : TG}
theorem d_seq (h : u ⟨w ⟨nx, rt, bk, ct⟩, rt, bk, ct⟩ σ H) : tSeq u w ⟨nx, rt, bk, ct⟩ σ H := h
theorem d_asg (h : te σ H fun x H1 => g x σ H1 nx) : tAsg te g ⟨nx, rt, bk, ct⟩ σ H := h
theorem d_ret (h : te σ H rt) : tRet te ⟨nx, rt, bk, ct⟩ σ H := h
theorem d_next (h : nx σ H) : tNext ⟨nx, rt, bk, ct⟩ σ H := h
theorem d_drop (h : te σ H fun _ H1 => nx σ H1) : tDrop te ⟨nx, rt, bk, ct⟩ σ H := h
theorem d_ifS (h : tA σ H fun b H1 => if b = true then u ⟨nx, rt, bk, ct⟩ σ H1 else w ⟨nx, rt, bk, ct⟩ σ H1) : tIfS tA u w ⟨nx, rt, bk, ct⟩ σ H := h
theorem d_cut (Mid : St → Hp → Prop) (h : u ⟨Mid, rt, bk, ct⟩ σ H) (k : ∀ σ' H', Mid σ' H' → w ⟨nx, rt, bk, ct⟩ σ' H') : C8.tCut u w ⟨nx, rt, bk, ct⟩ σ H := ⟨Mid, h, k⟩
theorem d_par {t : TA} {i j : Nat} (h : t σ H fun vs H1 => ∃ v w, vs = [v, w] ∧ nx ((σ.set i (some v)).set j (some w)) H1) : tPar i j t ⟨nx, rt, bk, ct⟩ σ H := h
end
def rInt1 : List V → Hp → VK → Prop := fun xs H Q => (∃ i, xs = [.int i] ∧ Q (.int i) H) ∨ ∃ k, xs = [.bl k] ∧ Q (.int (if k then 1 else 0)) H
theorem c_int {X : Cx} : CallR X (.type "int") rInt1 := call_int1
theorem d_int (h : Q (.int i) H) : rInt1 [.int i] H Q := .inl ⟨i, rfl, h⟩
theorem d_intB {b : Bool} (h : Q (.int (if b then 1 else 0)) H) : rInt1 [.bl b] H Q := .inr ⟨b, rfl, h⟩
def rAbs : List V → Hp → VK → Prop := fun xs H Q => ∃ i, xs = [.int i] ∧ Q (.int (if i < 0 then -i else i)) H
theorem c_abs {X : Cx} : CallR X (.builtin "abs") rAbs := call_abs
theorem d_abs (h : Q (.int (if i < 0 then -i else i)) H) : rAbs [.int i] H Q := ⟨i, rfl, h⟩
def rLen (K : PySem.W.Frag) : List V → Hp → VK → Prop := fun xs H Q => ∃ x n, xs = [x] ∧ LenV K x H n ∧ Q (.int n) H
theorem c_len {X : Cx} : CallR X (.builtin "len") (rLen X.K) := call_len
theorem d_lenL {p : Addr} {xs : List V} (hs : SqL K H p xs) (h : Q (.int xs.length) H) : rLen K [.ref p] H Q := ⟨_, _, rfl, .inl ⟨xs, hs, rfl⟩, h⟩
theorem d_lenT {p : Addr} {xs : List V} (hs : SqT K H p xs) (h : Q (.int xs.length) H) : rLen K [.ref p] H Q := ⟨_, _, rfl, .inr ⟨xs, hs, rfl⟩, h⟩
theorem d_lenS {z : Str} (hs : z.length ≤ sizeLine) (h : Q (.int z.length) H) : rLen K [.str z] H Q := ⟨_, _, rfl, ⟨hs, rfl⟩, h⟩
def rIsN : R2 := fun x y H Q => y = .non ∧ Q (.bl (decide (x = .non))) H
theorem o_isN {X : Cx} : OpR X (compareOp .Is) rIsN := op_isN
theorem d_isN (h : Q (.bl (decide (x = .non))) H) : rIsN x .non H Q := ⟨rfl, h⟩
def rNotN : R2 := fun x y H Q => y = .non ∧ Q (.bl (!decide (x = .non))) H
theorem o_notN {X : Cx} : OpR X (compareOp .IsNot) rNotN := op_notN
theorem d_notN (h : Q (.bl (!decide (x = .non))) H) : rNotN x .non H Q := ⟨rfl, h⟩
theorem d_iList {tl : TE} {R : It → Hp → Prop} (h : tl σ H fun x H1 => ∃ a, x = .ref a ∧ (∃ xs, SqL K H1 a xs) ∧ R (Itl K a) H1) : iList K tl σ H R := h
theorem d_refL {p : Addr} {xs : List V} {R : Addr → Prop} (hs : SqL K H p xs) (h : R p) : ∃ a, V.ref p = .ref a ∧ (∃ xs, SqL K H a xs) ∧ R a := ⟨p, rfl, ⟨xs, hs⟩, h⟩
theorem d_rng1 {t : TA} {R : It → Hp → Prop} (h : t σ H fun vs H1 => ∃ j : Int, vs = [.int j] ∧ -(2 ^ 62) ≤ j ∧ j < 2 ^ 62 ∧ R (Itr 0 j.toNat) H1) : iRng1 t σ H R := h
theorem d_lc {wi : TI} {g : TG} {tt : TT} {vs : List Nat} (h : wi σ H fun J H1 => ∀ D, H1 D = none → ∃ W : Nat → Nat → Hp → Prop, (∃ m, W 0 m (upd H1 D (.lst []))) ∧ ∀ i m H, W i m H →
  (J.stop i H ∧ Q (.ref D) H) ∨ (J.go i H ∧ ∃ Nx : Hp → Prop, (∀ H', Nx H' → ∃ m', m' < m ∧ W (i + 1) m' H') ∧ ∀ x H', J.yld i H x H' → g x (wipe σ vs) H' fun σ2 H2 => wipe σ2 vs = wipe σ vs ∧ tt σ2 H2 fun b H3 =>
    if b = true then te σ2 H3 fun y H4 => ∃ acc, H4 D = some (.lst acc) ∧ acc.length < sizeLine ∧ Nx (upd H4 D (.lst (acc ++ [y]))) else Nx H3)) : tLc wi g tt te vs σ H Q := h
theorem d_yes (h : B true H) : tYes σ H B := h
theorem d_iteT {X Y : Prop} (h : X) : if true = true then X else Y := by rw [if_pos rfl]; exact h
theorem d_iteF {X Y : Prop} (h : Y) : if false = true then X else Y := by rw [if_neg Bool.false_ne_true]; exact h
theorem d_wipe {R : Prop} {vs : List Nat} {σ' : St} (e : wipe σ' vs = wipe σ vs) (h : R) : wipe σ' vs = wipe σ vs ∧ R := ⟨e, h⟩
theorem d_sl {r : V → Option Int → Option Int → Hp → VK → Prop} {tl th : TO} (h : te σ H fun x H1 => tl σ H1 fun l H2 => th σ H2 fun u H3 => r x l u H3 Q) : tSl r te tl th σ H Q := h
theorem d_noPart {Q : Option Int → Hp → Prop} (h : Q none H) : tNoPart σ H Q := h
theorem d_part {Q : Option Int → Hp → Prop} (h : te σ H fun x H1 => ∃ i, x = .int i ∧ Q (some i) H1) : tPart te σ H Q := h
theorem d_exI {R : Int → Prop} (h : R i) : ∃ k, V.int i = .int k ∧ R k := ⟨i, rfl, h⟩
theorem d_isi {c : V} {t u : Value} {b : Bool} (hc : ClsV c u) (ty : TyX K H x t) (e : PySem.W.kitOne K t u = some b) (h : Q (.bl b) H) : rIsi K [x, c] H Q := ⟨x, c, t, u, b, rfl, hc, ty, e, h⟩
theorem d_fld {f : Str} (h : ta σ H fun x H1 => ∃ a C dx fs v, x = .ref a ∧ H1 a = some (.ins C dx fs) ∧ Cls K C ∧ NoAttr K C f ∧ fs.lookup f = some v ∧ Q v H1) : tFld K ta f σ H Q := h
theorem d_iteNF {X Y : Prop} (h : X) : if (!false) = true then X else Y := by rw [if_pos (show (!false) = true from rfl)]; exact h
theorem d_iteNT {X Y : Prop} (h : Y) : if (!true) = true then X else Y := by rw [if_neg (by decide)]; exact h
theorem d_iteDT {P X Y : Prop} {inst : Decidable P} (c : P) (h : X) : if decide P = true then X else Y := by rw [if_pos (decide_eq_true c)]; exact h
theorem d_iteDF {P X Y : Prop} {inst : Decidable P} (c : ¬ P) (h : Y) : if decide P = true then X else Y := by rw [if_neg (by simpa using c)]; exact h
theorem d_gcd (h : Q (.int ((Nat.gcd i.natAbs j.natAbs : Nat) : Int)) H) : rGcd [.int i, .int j] H Q := ⟨i, j, rfl, h⟩
theorem d_sfld {f : Str} {tv : TE} {nx bk ct : St → Hp → Prop} {rt : VK} (h : tv σ H fun y H1 => ta σ H1 fun x H2 => ∃ a C dx fs, x = .ref a ∧ H2 a = some (.ins C dx fs) ∧ Cls K C ∧ NoAttr K C f ∧ fs.length < 1000 ∧
  nx σ (upd H2 a (.ins C dx (putF f y fs)))) : sFld K ta tv f ⟨nx, rt, bk, ct⟩ σ H := h
theorem d_for {wi : TI} {g : TG} {tb : TS} {nx bk ct : St → Hp → Prop} {rt : VK} (h : wi σ H fun J H1 => ∃ W : Nat → Nat → St → Hp → Prop, (∃ m, W 0 m σ H1) ∧ ∀ i m σ H, W i m σ H →
  (J.stop i H ∧ nx σ H) ∨ (J.go i H ∧ ∃ N : St → Hp → Prop, (∀ σ' H', N σ' H' → ∃ m', m' < m ∧ W (i + 1) m' σ' H') ∧ ∀ x H', J.yld i H x H' → g x σ H' fun σ2 H2 => tb ⟨N, rt, nx, N⟩ σ2 H2)) :
  tFor wi g tb ⟨nx, rt, bk, ct⟩ σ H := h
theorem f_range {lo : Int} {n : Nat} {g : TG} {tb : TS} {nx : St → Hp → Prop} {rt : VK} (Pv : Nat → St → Hp → Prop) (h0 : Pv 0 σ H)
    (hs : ∀ i σ H, i < n → Pv i σ H → g (.int (lo + i)) σ H fun σ2 H2 => tb ⟨Pv (i + 1), rt, nx, Pv (i + 1)⟩ σ2 H2) (hd : ∀ σ H, Pv n σ H → nx σ H) :
    ∃ W : Nat → Nat → St → Hp → Prop, (∃ m, W 0 m σ H) ∧ ∀ i m σ H, W i m σ H → ((Itr lo n).stop i H ∧ nx σ H) ∨ ((Itr lo n).go i H ∧ ∃ N : St → Hp → Prop, (∀ σ' H', N σ' H' → ∃ m', m' < m ∧ W (i + 1) m' σ' H') ∧
      ∀ x H', (Itr lo n).yld i H x H' → g x σ H' fun σ2 H2 => tb ⟨N, rt, nx, N⟩ σ2 H2) := for_range (D := ⟨nx, rt, fun _ _ => False, fun _ _ => False⟩) Pv h0 hs hd
theorem f_list {K : PySem.W.Frag} {a : Addr} {xs : List V} {g : TG} {tb : TS} {nx : St → Hp → Prop} {rt : VK} (Pv : Nat → St → Hp → Prop) (h0 : Pv 0 σ H) (hl : ∀ i σ H, i ≤ xs.length → Pv i σ H → SqL K H a xs)
    (hs : ∀ i x σ H, xs[i]? = some x → Pv i σ H → g x σ H fun σ2 H2 => tb ⟨Pv (i + 1), rt, nx, Pv (i + 1)⟩ σ2 H2) (hd : ∀ σ H, Pv xs.length σ H → nx σ H) :
    ∃ W : Nat → Nat → St → Hp → Prop, (∃ m, W 0 m σ H) ∧ ∀ i m σ H, W i m σ H → ((Itl K a).stop i H ∧ nx σ H) ∨ ((Itl K a).go i H ∧ ∃ N : St → Hp → Prop, (∀ σ' H', N σ' H' → ∃ m', m' < m ∧ W (i + 1) m' σ' H') ∧
      ∀ x H', (Itl K a).yld i H x H' → g x σ H' fun σ2 H2 => tb ⟨N, rt, nx, N⟩ σ2 H2) := for_list (D := ⟨nx, rt, fun _ _ => False, fun _ _ => False⟩) Pv h0 hl hs hd
theorem iteD {P X Y : Prop} {inst : Decidable P} (h1 : P → X) (h2 : ¬ P → Y) : if decide P = true then X else Y := by
  by_cases h : P
  · rw [if_pos (decide_eq_true h)]; exact h1 h
  · rw [if_neg (by simpa using h)]; exact h2 h
theorem iteN {P X Y : Prop} {inst : Decidable P} (h1 : ¬ P → X) (h2 : P → Y) : if (!decide P) = true then X else Y := by
  by_cases h : P
  · rw [if_neg (by simpa using h)]; exact h2 h
  · rw [if_pos (by simpa using h)]; exact h1 h
end
end RD

/-! ### own == and != of a class of the text -/
namespace OQ
open PySem L2 PySem.Spec PyProof.Rows
section
variable {X : Cx} {CX : CXT} {C f : Addr} {fd : FuncData} {ps : List Str} {sp : Sp} {E : XK} {k : Nat}
/-- a def of the text called somewhere below the body that runs -/
theorem run_at {A : Around} (hA : A.frames = X.A.frames) (hr : Room k A) {pins : List (Addr × Obj)} {σ : L2.St} {H : Hp} {s : Shared} {Q : VK} {us : List Value} {vs : List V}
    (F : FnOk X.prog X.w X.K X.mg X.base CX k f fd ps sp) (hb : Binds X.K fd ps []) (hx : Passes CX X E) (I : Inv X pins σ H s) (r : Vals vs us) (h : sp vs H Q E) :
    wpAny (model X.prog X.w) A (call (.ref f) us) (EP X pins σ Q) X.xe s := by
  have z := I.env0
  have e0 : Env0 X.prog X.w X.K X.mg X.base A X.stack s H := ⟨hA ▸ z.frames, z.mod, z.bs, z.bsz, z.funs, z.frf, z.hok, z.bare⟩
  have hl : us.length = ps.length := by rw [← r.length]; exact F.len _ _ _ _ h
  have b := hb s us I.kIn (by rw [List.append_nil]; exact hl)
  rw [List.append_nil] at b
  refine wpAny_call (codeAny_mono (F.run A X.stack s H ⟨us, []⟩ us vs Q E hr e0 b r h) ?_)
  rintro (e | fl) s' hq
  · exact hx pins σ H s e s' I hq
  · cases fl with
    | ret u => exact I.after hq
    | next => exact hq.elim
    | brk => exact hq.elim
    | cont => exact hq.elim
theorem cmpBack_of {pins : List (Addr × Obj)} {σ : L2.St} {Q : VK} {u : Value} {s' : Shared} (h : EP X pins σ Q u s') : PySem.W.CmpBack (EP X pins σ Q) u s' := by
  obtain ⟨v, H', I', r, q⟩ := h
  have e : EP X pins σ Q u s' := ⟨v, H', I', r, q⟩
  cases u <;> first
    | exact e
    | (exfalso; cases v <;> first | exact Value.noConfusion r | (obtain ⟨t, rt⟩ := r; exact Value.noConfusion rt))
/-- x == y by the __eq__ of x's class -/
def rOwnEq (K : PySem.W.Frag) (C : Addr) (sp : Sp) (E : XK) : R2 := fun x y H Q => ∃ a dx fs t, x = .ref a ∧ H a = some (.ins C dx fs) ∧ TyX K H y t ∧ PySem.W.notFirst K C t = true ∧ sp [x, y] H Q E
theorem op_ownEq (F : FnOk X.prog X.w X.K X.mg X.base CX k f fd ps sp) (hr : Room k X.A) (hs : PySem.W.findIn X.K (.ref C) "__eq__" = some (some (.ref f))) (hf : PySem.W.isFn X.K (.ref f) = true)
    (hb : Binds X.K fd ps []) (hx : Passes CX X E) : OpR X (compareOp .Eq) (rOwnEq X.K C sp E) := by
  intro pins s σ H x y v u Q I rx ry hq
  obtain ⟨a, dx, fs, t, rfl, ha, ty, nf, q⟩ := hq
  cases rx
  obtain ⟨_, J0, _⟩ := ins_get I.hok ha
  obtain ⟨_, J, _⟩ := J0.look
  obtain ⟨_, hF⟩ := I.fr
  obtain ⟨_, kx, hp, _⟩ := kit_of I ry ty
  exact PySem.W.cmp_K (op := .Eq) hr.units0 hF I.ok.mod.kin J (kx.ty _ _ I.kIn hp) nf hs hf
    (wpAny_mono (run_at rfl hr F hb hx I (vs := [V.ref a, y]) (us := [Value.ref a, u]) (Paired.cons (show RelV (V.ref a) (Value.ref a) from rfl) (Paired.cons ry .nil)) q) (fun _ _ z => cmpBack_of z) fun _ _ z => z)
/-- looking a builtin slot up at an instance and calling it -/
theorem ifBound_B {M : Model} {A : Around} {E : Value → Shared → Prop} {s : Shared} {K : PySem.W.Frag} {x C : Addr} {ox : Obj} {od : Option Obj} {name : Str} {id : String} {args : List Value} {Q : Option Value → Shared → Prop} (Z : K.In s.heap)
    (I : PySem.W.InstAt s.heap x ox C od) (hs : PySem.W.findIn K (.ref C) name = some (some (.builtin id))) (S : bindSpecial (.builtin id) (.ref x) = pure (Value.builtin id, [Value.ref x]))
    (h : wpAny M A (call (.builtin id) (.ref x :: args)) (fun v => Q (some v)) E s) : wpAny M A (callSpecialIfBound? (.ref x) name args) Q E s := by
  have fin : wpAny M A (call (.builtin id) ([Value.ref x] ++ args) >>= fun v => pure (some v)) Q E s :=
    wpAny_bind (wpAny_mono h (fun _ _ z => wpAny_pure z) fun _ _ z => z)
  have tail : wpAny M A (some <$> (pure (Value.builtin id, [Value.ref x]) : Sem (Value × List Value))) (fun a s' => wpAny M A (match a with
    | some (g, first) => call g (first ++ args) >>= fun v => pure (some v)
    | none => pure none) Q E s') E s := wpAny_bind (wpAny_pure (wpAny_pure fin))
  simp only [callSpecialIfBound?, bindSpecialIfBound?]
  refine wpAny_holding ?_
  refine wpAny_bind ?_
  refine wpAny_bind ?_
  refine wpAny_bind (I.type.here ?_)
  refine (PySem.W.looks_findIn Z hs).here ?_
  simp only [S]
  refine wpAny_bind ?_
  refine wpAny_askSetting ?_
  refine wpAny_ite ?_
  split
  · refine wpAny_bind ?_
    exact wpAny_pure (wpAny_pure fin)
  · refine wpAny_tryCatch ?_
    refine wpAny_bind ?_
    exact wpAny_pure (wpAny_pure fin)
/-- object.__ne__(x, y) by the own __eq__ -/
theorem ne_body {M : Program} {w : World} {A : Around} {E : Value → Shared → Prop} {s : Shared} {K : PySem.W.Frag} {x C f : Addr} {ox : Obj} {od : Option Obj} {b : Value} {Q : Fin → Shared → Prop} (Z : K.In s.heap) (hu : A.units < cLine)
    (I : PySem.W.InstAt s.heap x ox C od) (hs : PySem.W.findIn K (.ref C) "__eq__" = some (some (.ref f))) (hf : PySem.W.isFn K (.ref f) = true)
    (h : wpAny (model M w) A (call (.ref f) [.ref x, b]) (fun v s' => ∃ r, v = .bool r ∧ Q (.done (.ret (.bool (!r)))) s') E s) :
    wpAny (model M w) A (Builtin.«object.__ne__» ⟨[.ref x, b], []⟩) Q E s := by
  unfold Builtin.«object.__ne__»
  have step : wpAny (model M w) A (callSpecialIfBound? (.ref x) "__eq__" [b]) (fun o s' => ∃ r, o = some (.bool r) ∧ Q (.done (.ret (.bool (!r)))) s') E s :=
    PySem.W.ifBound_K Z I hs hf (wpAny_mono h (fun v s' ⟨r, e, q⟩ => ⟨r, by rw [e], q⟩) fun _ _ z => z)
  refine wpAny_bind (wpAny_of_eq (a := ((Value.ref x : Value), [b])) (by first | rfl | (simp only [slotArgs]; rfl)) ?_)
  dsimp only
  refine wpAny_bind (wpAny_cRoomFor hu ?_)
  refine wpAny_bind (wpAny_mono step (fun o s' hv => ?_) fun _ _ z => z)
  obtain ⟨r, rfl, q⟩ := hv
  dsimp only
  refine wpAny_bind ?_
  refine wpAny_truthy_bool ?_
  exact wpAny_pure q
end
/-- x != y by the __eq__ of x's class -/
def rOwnNe (K : PySem.W.Frag) (C : Addr) (sp : Sp) (E : XK) : R2 := fun x y H Q => ∃ a dx fs t, x = .ref a ∧ H a = some (.ins C dx fs) ∧ TyX K H y t ∧ PySem.W.notFirst K C t = true ∧ sp [x, y] H (fun v H' => ∃ r, v = .bl r ∧ Q (.bl (!r)) H') E
section
variable {X : Cx} {CX : CXT} {C f : Addr} {fd : FuncData} {ps : List Str} {sp : Sp} {E : XK} {k : Nat}
theorem op_ownNe (F : FnOk X.prog X.w X.K X.mg X.base CX k f fd ps sp) (hr : Room (k + 1) X.A) (hs : PySem.W.findIn X.K (.ref C) "__eq__" = some (some (.ref f))) (hf : PySem.W.isFn X.K (.ref f) = true)
    (hn : PySem.W.findIn X.K (.ref C) "__ne__" = some (some (.builtin "object.__ne__"))) (hm : PySem.W.mroIn X.K C (.type "object") = some true)
    (hb : Binds X.K fd ps []) (hx : Passes CX X E) : OpR X (compareOp .NotEq) (rOwnNe X.K C sp E) := by
  intro pins s σ H x y v u Q I rx ry hq
  obtain ⟨a, dx, fs, t, rfl, ha, ty, nf, q⟩ := hq
  cases rx
  obtain ⟨_, J0, _⟩ := ins_get I.hok ha
  obtain ⟨_, J, _⟩ := J0.look
  obtain ⟨_, hF⟩ := I.fr
  obtain ⟨_, kx, hp, _⟩ := kit_of I ry ty
  have hlook := kx.ty (model X.prog X.w) _ I.kIn hp
  have hu := hr.units0
  have body := ne_body (M := X.prog) (w := X.w) (A := X.A.in1) (E := X.xe) (b := u) (Q := fun fin s' => ∃ r : Bool, fin = .done (.ret (.bool r)) ∧ EP X pins σ Q (.bool r) s') I.kIn hr.in1.units0 J hs hf
    (wpAny_mono (run_at (A := X.A.in1) rfl hr.in1 F hb hx I (vs := [V.ref a, y]) (us := [Value.ref a, u]) (Paired.cons (show RelV (V.ref a) (Value.ref a) from rfl) (Paired.cons ry .nil)) q) (fun w' s' z => by
      obtain ⟨v', H', I', rr, r, e, q'⟩ := z
      subst e
      exact ⟨r, rr, !r, rfl, .bl (!r), H', I', rfl, q'⟩) fun _ _ z => z)
  have one : wpAny (model X.prog X.w) X.A (tryCompare (.ref a) "__ne__" u) (fun o s' => ∃ r : Bool, o = some (.bool r) ∧ EP X pins σ Q (.bool r) s') X.xe s := by
    unfold tryCompare
    refine wpAny_bind (ifBound_B I.kIn J hn (PySem.F.cmp_object.ne.bind _) (wpAny_call (codeAny_call_builtin PySem.F.cmp_object.ne.plain PySem.F.cmpEntry_ne ?_)))
    refine PySem.W.check_slot PySem.F.cmpKind_ne PySem.F.cmpSplit_ne (J.type.andThen (PySem.W.looks_mroIn I.kIn hm)) (PySem.F.cmpArgs_ne _ _) ?_
    refine wpAny_mono body (fun fin s' z => ?_) fun _ _ z => z
    obtain ⟨r, rfl, ep⟩ := z
    exact wpAny_pure ⟨r, rfl, ep⟩
  show wpAny (model X.prog X.w) X.A (richCompare .NotEq (.ref a) u) (EP X pins σ Q) X.xe s
  unfold richCompare
  simp only [oneThing_ref]
  refine wpAny_holding ?_
  refine wpAny_bind (wpAny_cRoomFor hu ?_)
  refine wpAny_bind (J.type.here ?_)
  refine wpAny_bind (hlook.here ?_)
  have fin : ∀ {β : Type} {z : Value → Sem Value} {y : Sem Value}, True := fun {_ _ _} => trivial
  split
  · rename_i qq
    have e : PySem.W.subIn X.K t (.ref C) = some false := by
      rcases Bool.or_eq_true_iff.mp nf with e | e
      · rw [beq_iff_eq.mp e] at qq
        simp at qq
      · exact beq_iff_eq.mp e
    refine wpAny_bind ((PySem.W.looks_subIn I.kIn e).here ?_)
    simp only [Bool.false_eq_true, if_false]
    refine wpAny_bind (wpAny_mono one (fun o s' z => ?_) fun _ _ z => z)
    obtain ⟨r, rfl, ep⟩ := z
    exact wpAny_pure ep
  · refine wpAny_bind (wpAny_pure ?_)
    simp only [Bool.false_eq_true, if_false]
    refine wpAny_bind (wpAny_mono one (fun o s' z => ?_) fun _ _ z => z)
    obtain ⟨r, rfl, ep⟩ := z
    exact wpAny_pure ep
end
end OQ

/-! ### errors: isinstance of a caught one that has fields; making an instance within a try -/
namespace OQ
open PySem L2 PySem.Spec PyProof.Rows
/-- isinstance(e, c), e the error that the suite holds at a: its class cls, its dict d -/
def rIsX (K : PySem.W.Frag) (D a : Addr) (cls : Value) (d : Option Addr) : List V → Hp → VK → Prop := fun xs H Q => ∃ (c : V) (cv : Value) (b : Bool) (dd : Addr) (fs : List (Str × V)),
  xs = [.ref a, c] ∧ cls = .ref D ∧ d = some dd ∧ H dd = some (.xd fs) ∧ ClsV c cv ∧ PySem.W.kitOne K (.ref D) cv = some b ∧ Q (.bl b) H
theorem call_isX {X : Cx} {a D : Addr} {cls : Value} {d : Option Addr} {oe : Obj} {pn : List (Addr × Obj)} (C : ExcC X.K D) (hz : Zc cls d oe) (hf : ∃ vs, oe.data = .fields vs) :
    CallR (X.suite a ((a, oe) :: pn)) (.builtin "isinstance") (rIsX X.K D a cls d) := by
  rintro pins s σ H xs us Q I r ⟨c, cv, b, dd, fs, rfl, rfl, rfl, hx, hc, e, q⟩
  cases r with
  | cons rx rr => cases rr with
    | cons rt rr =>
      cases rr
      cases rx
      have ec := hc.eq rt
      subst ec
      obtain ⟨hget, _⟩ := I.pin (a, oe) (List.mem_append_left _ (List.mem_cons_self ..))
      obtain ⟨vs, hv⟩ := hf
      obtain ⟨_, hns, _⟩ := (show ObjOk X.prog X.w H s.heap dd (.xd fs) from I.hok dd _ hx)
      obtain ⟨od, ho, _⟩ := lookIn_ns hns
      have J : PySem.W.InstAt s.heap a oe D (some od) := ⟨hget, hz.1, (by unfold PySem.W.notCls; rw [hv] <;> rfl), (by rw [hz.2]; exact ho)⟩
      have hcl : (PySem.W.clsIn X.K D).isSome = true := by
        obtain ⟨cd, h1, _⟩ := PySem.W.any_some C.hd
        rw [h1]; rfl
      exact PySem.W.kia_one (PySem.W.kitx_exc hcl C.hg C.hk C.hs C.ha C.hn C.ht C.hm) I.kIn J e (fun z => Value.noConfusion z) fun tk => ⟨.bl b, H, I.kept (t' := tk) fun _ _ z => z, rfl, q⟩
section
variable {X : Cx} {CX : CXT} {C f : Addr} {fd : FuncData} {ps : List Str} {sp : Sp} {k : Nat} {ds : List Value} {dvs : List V} {E : L2.St → XK} {x : Str} {p pos : Pos} {e : Expr} {es : List Expr} {t : TA}
/-- C(e, ..), what is raised wished for at the slots -/
def tMakeS (C : Addr) (sp : Sp) (dvs : List V) (E : L2.St → XK) (t : TA) : TE := fun σ H Q => t σ H fun vs H1 => ∀ x dx, H1 x = none → H1 dx = none → dx ≠ x →
  sp (.ref x :: (vs ++ dvs)) (upd (upd H1 dx (.own x)) x (.ins C dx [])) (fun v H2 => v = .non ∧ Q (.ref x) H2) (E σ)
theorem pe_makeS (M : Mk X.K C f) (F : FnOk X.prog X.w X.K X.mg X.base CX k f fd ps sp) (hr : Room (k + 1) X.A) (hg : Gl X x) (hm : X.mg x = some (.ref C)) (hb : Binds X.K fd ps ds) (hd : Vals dvs ds)
    (hx : ∀ σ, PassesAt CX X σ (E σ)) (ha : PA X (e :: es) t) (hdb : (x == ("__debug__" : Str)) = false := by decide)
    (he : starEach (e :: es) X.env = (false, eval e X.env) :: starEach es X.env := by rfl) (hpl : (backTo pos (starEach es X.env)).any (·.1) = false := by rfl) :
    PE X (.Call (.Name x p) (e :: es) [] pos) (tMakeS C sp dvs E t) := by
  refine ⟨fun pins s σ H Q I h => ?_⟩
  refine wpAny_Call_Name_kw (ld_glob I hg hm ?_ hdb)
  refine PySem.W.callWith_K (h₀ := X.base) I.ok.mod.kin M.kp (thn (ha.run pos pins s σ H _ I h) ?_) he hpl
  rintro us s1 ⟨vs, H1, I1, r, q⟩
  refine ⟨I1.kIn, ?_⟩
  have nx : H1 (s1.heap.objs.size + 1) = none := I1.hok.fresh (Nat.le_succ _)
  have ndx : H1 s1.heap.objs.size = none := I1.hok.fresh (Nat.le_refl _)
  have hq := q _ _ nx ndx (Nat.ne_of_lt (Nat.lt_succ_self _))
  have I2 := Inv.made (C := C) I1
  have r2 : Vals (V.ref (s1.heap.objs.size + 1) :: (vs ++ dvs)) (Value.ref (s1.heap.objs.size + 1) :: (us ++ ds)) := .cons rfl (r.append hd)
  have hl : (Value.ref (s1.heap.objs.size + 1) :: us ++ ds).length = ps.length := (r2.length.symm).trans (F.len _ _ _ _ hq)
  refine wpAny_call (make_map (f := f) I1.kIn M.makes M.init (beq_iff_eq.mp M.fn) (codeAny_mono (F.run _ X.stack _ _ _ _ _ _ (E σ) (hr.make C us []) (I2.env0.make C us []) (hb _ (_ :: us) I2.kIn hl) r2 hq) ?_))
  rintro (er | fl) s' hq'
  · exact hx σ pins _ _ er s' I2 hq'
  · cases fl with
    | ret u =>
      obtain ⟨v, H', I3, rv, ev, q3⟩ := I2.after hq'
      subst ev
      exact ⟨rv, V.ref (s1.heap.objs.size + 1), H', I3, rfl, q3⟩
    | next => exact hq'.elim
    | brk => exact hq'.elim
    | cont => exact hq'.elim
end
/-- // by a divisor of either sign, below 2 ^ 9000 -/
def CDivX (_ j : Int) : Prop := j ≠ 0 ∧ j.natAbs.log2 < 9000
theorem op_fdivX {X : Cx} : OpR X (binaryOp .FloorDiv) (rI CDivX fun i j => .int (i.fdiv j)) := opI fun i j _ _ _ _ _ hc q => floordiv_int hc.1 q (.inl (PyProof.noPylong_of_log2 hc.2))
end OQ

namespace RM
/-- what both parts are divided by -/
def shr (i j : Int) : Int := if j < 0 then -((Nat.gcd i.natAbs j.natAbs : Nat) : Int) else ((Nat.gcd i.natAbs j.natAbs : Nat) : Int)
theorem gcd_pos {i j : Int} (h : j ≠ 0) : 0 < Nat.gcd i.natAbs j.natAbs := Nat.gcd_pos_of_pos_right _ (Int.natAbs_pos.mpr h)
theorem shr_ne {i j : Int} (h : j ≠ 0) : shr i j ≠ 0 := by
  have := gcd_pos (i := i) h
  unfold shr; split <;> omega
theorem shr_le {i j : Int} (h : j ≠ 0) : (shr i j).natAbs ≤ j.natAbs := by
  have := Nat.gcd_le_right i.natAbs (Int.natAbs_pos.mpr h)
  unfold shr; split <;> omega
theorem num_eq {i j : Int} (h : j ≠ 0) : i.fdiv (shr i j) = (Rat.divInt i j).num := by
  have g0 := gcd_pos (i := i) h
  have hd : ((Nat.gcd i.natAbs j.natAbs : Nat) : Int) ∣ i := Int.ofNat_dvd_left.mpr (Nat.gcd_dvd_left _ _)
  obtain ⟨k, hk⟩ := hd
  have e : j.gcd i = Nat.gcd i.natAbs j.natAbs := Nat.gcd_comm _ _
  rw [Rat.num_divInt, e]
  unfold shr
  generalize Nat.gcd i.natAbs j.natAbs = g at *
  split
  · rename_i hj
    rw [Int.sign_eq_neg_one_of_neg hj]
    have e1 : i = (-(g : Int)) * (-k) := by rw [hk, Int.neg_mul_neg]
    have e2 : -1 * i = (g : Int) * (-k) := by rw [hk, Int.mul_neg]; omega
    rw [e2, Int.mul_ediv_cancel_left _ (by omega)]
    conv => lhs; rw [e1]
    exact Int.mul_fdiv_cancel_left _ (by omega)
  · rename_i hj
    rw [Int.sign_eq_one_of_pos (by omega), Int.one_mul]
    conv => lhs; rw [hk]
    conv => rhs; rw [hk]
    rw [Int.mul_fdiv_cancel_left _ (by omega), Int.mul_ediv_cancel_left _ (by omega)]
theorem den_eq {i j : Int} (h : j ≠ 0) : j.fdiv (shr i j) = ((Rat.divInt i j).den : Int) := by
  have g0 := gcd_pos (i := i) h
  have hd : ((Nat.gcd i.natAbs j.natAbs : Nat) : Int) ∣ j := Int.ofNat_dvd_left.mpr (Nat.gcd_dvd_right _ _)
  obtain ⟨k, hk⟩ := hd
  have e : j.gcd i = Nat.gcd i.natAbs j.natAbs := Nat.gcd_comm _ _
  rw [Rat.den_divInt, if_neg h, e]
  unfold shr
  generalize Nat.gcd i.natAbs j.natAbs = g at *
  have ea : j.natAbs / g = k.natAbs := by rw [hk, Int.natAbs_mul, Int.natAbs_natCast, Nat.mul_div_cancel_left _ g0]
  rw [ea]
  split
  · rename_i hj
    have kn : k < 0 := by
      rcases Int.lt_or_le k 0 with q | q
      · exact q
      · have := Int.mul_nonneg (Int.natCast_nonneg g) q
        omega
    have e1 : j = (-(g : Int)) * (-k) := by rw [hk, Int.neg_mul_neg]
    conv => lhs; rw [e1]
    rw [Int.mul_fdiv_cancel_left _ (by omega)]
    omega
  · rename_i hj
    have kn : 0 ≤ k := by
      rcases Int.lt_or_le k 0 with q | q
      · have := Int.mul_neg_of_pos_of_neg (show (0 : Int) < g by omega) q
        omega
      · exact q
    conv => lhs; rw [hk]
    rw [Int.mul_fdiv_cancel_left _ (by omega)]
    omega
end RM

namespace OQ
open PySem L2
/-- one of two rules -/
theorem op_or {X : Cx} {f : Value → Value → Sem Value} {r1 r2 : R2} (h1 : OpR X f r1) (h2 : OpR X f r2) : OpR X f (fun x y H Q => r1 x y H Q ∨ r2 x y H Q) :=
  fun pins s σ H x y v u Q I rx ry h => h.elim (h1 pins s σ H x y v u Q I rx ry) (h2 pins s σ H x y v u Q I rx ry)
/-- what lets nothing out where the wish is empty -/
theorem passN {X : Cx} : Passes (L2.CX X.prog X.w) X E0 := fun pins σ H s e s' I h => by
  obtain ⟨_, _, _, _, _, _, _, _, _, _, _, _, f⟩ := h
  exact f.elim
section
variable {σ : L2.St} {H : Hp} {Q : VK} {K : PySem.W.Frag}
theorem d_makeS {C : Addr} {sp : Sp} {dvs : List V} {E : L2.St → XK} {t : TA} (h : t σ H fun vs H1 => ∀ x dx, H1 x = none → H1 dx = none → dx ≠ x →
  sp (.ref x :: (vs ++ dvs)) (upd (upd H1 dx (.own x)) x (.ins C dx [])) (fun v H2 => v = .non ∧ Q (.ref x) H2) (E σ)) : tMakeS C sp dvs E t σ H Q := h
theorem d_make {C : Addr} {sp : Sp} {dvs : List V} {E : XK} {t : TA} (h : t σ H fun vs H1 => ∀ x dx, H1 x = none → H1 dx = none → dx ≠ x →
  sp (.ref x :: (vs ++ dvs)) (upd (upd H1 dx (.own x)) x (.ins C dx [])) (fun v H2 => v = .non ∧ Q (.ref x) H2) E) : tMake C sp dvs E t σ H Q := h
end
end OQ
namespace OQ
open PySem L2
theorem d_isX {K : PySem.W.Frag} {D a : Addr} {cls : Value} {d : Option Addr} {H : Hp} {Q : VK} {c : V} {cv : Value} {b : Bool} {dd : Addr} {fs : List (Str × V)} (e1 : cls = .ref D) (e2 : d = some dd) (hx : H dd = some (.xd fs)) (hc : ClsV c cv)
    (e : PySem.W.kitOne K (.ref D) cv = some b) (h : Q (.bl b) H) : rIsX K D a cls d [.ref a, c] H Q := ⟨c, cv, b, dd, fs, rfl, e1, e2, hx, hc, e, h⟩
end OQ

/-! ### own + - * of a class of the text, also with an int on either side; own - in front -/
namespace OQ
open PySem L2 PySem.Spec PyProof.Rows
section
variable {prog : Program} {w : World} {A : Around} {E : Value → Shared → Prop} {s : Shared}
theorem decl_body {n : String} {f : Int → Int → Sem Fin} {i : Int} {t : Tok} {x C dx : Addr} {Q : Fin → Shared → Prop} (ho : s.heap.get? x = some (PySem.W.instObj C dx)) (q : Q (.done (.ret .notImplemented)) s) :
    wpAny (model prog w) A (Builtin.Int.intBinary n f false ⟨[.int i t, .ref x], []⟩) Q E s := by
  unfold Builtin.Int.intBinary
  refine wpAny_bind (wpAny_of_eq (a := ((Value.int i t : Value), [Value.ref x])) (by first | rfl | (simp only [slotArgs]; rfl)) ?_)
  dsimp only
  refine wpAny_bind (wpAny_of_eq (a := i) (by rfl) ?_)
  unfold asInt?
  obtain ⟨hp, g, d, tk, os⟩ := s
  dsimp only [List.headD]
  wp_walk using wpAny_loadPart_at ho
  exact q
/-- what is known of an operator at ints -/
structure IntOp (op : Operator) (id : String) : Prop where
  slot : Slot "int" (PySem.dunder op.info.2) id
  entry : ∃ n f, entryFor table id = some (Builtin.Int.intBinary n f false)
  args : ∀ a b, argsOk id ⟨[a, b], []⟩
  fills : fillsNumberSlot (.type "int") op.info.2 = pure true
theorem int_add : IntOp .Add "int.__add__" := ⟨PySem.F.slot_int_add, ⟨_, _, PySem.F.entry_int_add⟩, PySem.F.args_int_add_2, PySem.F.fills_int_add⟩
theorem int_sub : IntOp .Sub "int.__sub__" := ⟨PySem.F.slot_int_sub, ⟨_, _, PySem.F.entry_int_sub⟩, PySem.F.args_int_sub_2, PySem.F.fills_int_sub⟩
theorem int_mul : IntOp .Mult "int.__mul__" := ⟨PySem.F.slot_int_mul, ⟨_, _, PySem.F.entry_int_mul⟩, PySem.F.args_int_mul_2, PySem.F.fills_int_mul⟩
open PySem.W in
theorem refl_run {op : Operator} {id : String} (IO : IntOp op id) {K : Frag} {x C f f' dx : Addr} {i : Int} {t : Tok} {od : Option Obj} {Q : Value → Shared → Prop} (Z : K.In s.heap) (I : InstAt s.heap x (instObj C dx) C od) (hc : selfFirst K C = true)
    (hs : findIn K (.ref C) (PySem.dunder op.info.2) = some (some (.ref f'))) (hr : findIn K (.ref C) (dunderR op.info.2) = some (some (.ref f))) (hf : isFn K (.ref f) = true) (hsub : subIn K (.ref C) (.type "int") = some false)
    (h : wpAny (model prog w) A (call (.ref f) [.ref x, .int i t]) (PySem.W.CmpBack Q) E s) : wpAny (model prog w) A (binaryOp op (.int i t) (.ref x)) Q E s := by
  obtain ⟨cd, rest, hcd, hm⟩ := ksp_first hc
  have one := ksp_try Z I hr hf h
  have dec : wpAny (model prog w) A (tryMethod (.int i t) (PySem.dunder op.info.2) (.ref x)) (fun r s' => r = none ∧ s' = s) E s := by
    obtain ⟨n, g, en⟩ := IO.entry
    refine wpAny_tryMethod_declines rfl IO.slot (wpAny_call (codeAny_call_builtin IO.slot.plain en (IO.slot.check _ _ _ _ _ _ _ _ rfl (IO.args _ _) ?_)))
    exact decl_body I.at_ ⟨rfl, rfl, rfl⟩
  have hfl := IO.fills
  rcases hi : op.info with ⟨sym, nm'⟩
  rw [hi] at hs hr dec one hfl
  dsimp only at hs hr dec one hfl
  obtain ⟨hh, g, d, tt, os⟩ := s
  have L1 : Looks (model prog w) hh (typeOf (.int i t)) (.type "int") := Looks.of_pure rfl
  have L2 : Looks (model prog w) hh (typeOf (.ref x)) (.ref C) := I.type
  have L3 : Looks (model prog w) hh (fillsNumberSlot (.type "int") nm') true := Looks.of_pure hfl
  have L4 : Looks (model prog w) hh (fillsNumberSlot (.ref C) nm') true := fills_K Z hcd hm hs
  have L5 : Looks (model prog w) hh (isSubtype (.ref C) (.type "int")) false := looks_subIn Z hsub
  have L7 : Looks (model prog w) hh (numberSlotInPython (.type "int") nm') false := Looks.of_pure rfl
  have hne : (Value.type "int" == Value.ref C) = false := Bool.eq_false_iff.mpr fun q => by cases beq_iff_eq.mp q
  simp only [binaryOp, hi]
  refine wpAny_holding (wpAny_bind ?_)
  unfold binaryOp1
  refine wpAny_bind (L1.at (wpAny_bind (L2.at (wpAny_bind (L3.at ?_)))))
  simp only [hne, Bool.false_eq_true, if_false]
  ksp_lk
  refine wpAny_mono dec (fun r s' hr' => ?_) fun _ _ e => e
  obtain ⟨rfl, rfl⟩ := hr'
  ksp_lk
  refine wpAny_mono one (fun r s' hr' => ?_) fun _ _ e => e
  obtain ⟨v, rfl, hq⟩ := hr'
  ksp_lk
  exact hq
end
end OQ
namespace OQ
open PySem L2 PySem.Spec PyProof.Rows
section
variable {X : Cx} {CX : CXT} {C f f' : Addr} {fd : FuncData} {ps : List Str} {sp : Sp} {E : XK} {k : Nat} {op : Operator}
/-- x op y by the method of x's class; y of the same class, or an int -/
def rOwnB (C : Addr) (sp : Sp) (E : XK) : R2 := fun x y H Q => ∃ a dx fs, x = .ref a ∧ H a = some (.ins C dx fs) ∧ ((∃ b dy gs, y = .ref b ∧ H b = some (.ins C dy gs)) ∨ ∃ i, y = .int i) ∧ sp [x, y] H Q E
theorem op_ownB {fo ro : Option Value} (F : FnOk X.prog X.w X.K X.mg X.base CX k f fd ps sp) (hr : Room k X.A) (hc : PySem.W.selfFirst X.K C = true) (hs : PySem.W.findIn X.K (.ref C) (PySem.dunder op.info.2) = some (some (.ref f))) (hf : PySem.W.isFn X.K (.ref f) = true)
    (hrr : PySem.W.findIn X.K (.ref C) (dunderR op.info.2) = some (some (.ref f'))) (h1 : PySem.W.findIn X.K (.type "int") (PySem.dunder op.info.2) = some fo) (h2 : PySem.W.findIn X.K (.type "int") (dunderR op.info.2) = some ro)
    (hsub : PySem.W.subIn X.K (.type "int") (.ref C) = some false) (hb : Binds X.K fd ps []) (hx : Passes CX X E) : OpR X (binaryOp op) (rOwnB C sp E) := by
  intro pins s σ H x y v u Q I rx ry hq
  obtain ⟨a, dx, fs, rfl, ha, hy, q⟩ := hq
  cases rx
  obtain ⟨_, J0, _⟩ := ins_get I.hok ha
  obtain ⟨_, J, _⟩ := J0.look
  obtain ⟨_, hF⟩ := I.fr
  have call := wpAny_mono (run_at (A := X.A) rfl hr F hb hx I (vs := [V.ref a, y]) (us := [Value.ref a, u]) (Paired.cons (show RelV (V.ref a) (Value.ref a) from rfl) (Paired.cons ry .nil)) q) (fun _ _ z => cmpBack_of z) fun _ _ z => z
  rcases hy with ⟨b, dy, gs, rfl, hbb⟩ | ⟨i, rfl⟩
  · cases ry
    obtain ⟨_, J1, _⟩ := ins_get I.hok hbb
    obtain ⟨_, J2, _⟩ := J1.look
    exact PySem.W.binop_K hF I.ok.mod.kin J J2.type hc hs hf call
  · obtain ⟨t, rfl⟩ := ry
    exact PySem.W.ksp_binT (T := "int") hF I.ok.mod.kin J rfl hc hs hf hrr (.inr ⟨f', rfl⟩) h1 h2 hsub call
/-- i op y, i an int, by the reflected method of y's class -/
def rReflB (C : Addr) (sp : Sp) (E : XK) : R2 := fun x y H Q => ∃ i a dx fs, x = .int i ∧ y = .ref a ∧ H a = some (.ins C dx fs) ∧ sp [y, x] H Q E
theorem op_reflB {id : String} (IO : IntOp op id) (F : FnOk X.prog X.w X.K X.mg X.base CX k f fd ps sp) (hr : Room k X.A) (hc : PySem.W.selfFirst X.K C = true) (hs : PySem.W.findIn X.K (.ref C) (PySem.dunder op.info.2) = some (some (.ref f')))
    (hrr : PySem.W.findIn X.K (.ref C) (dunderR op.info.2) = some (some (.ref f))) (hf : PySem.W.isFn X.K (.ref f) = true) (hsub : PySem.W.subIn X.K (.ref C) (.type "int") = some false) (hb : Binds X.K fd ps []) (hx : Passes CX X E) :
    OpR X (binaryOp op) (rReflB C sp E) := by
  intro pins s σ H x y v u Q I rx ry hq
  obtain ⟨i, a, dx, fs, rfl, rfl, ha, q⟩ := hq
  cases ry
  obtain ⟨t, rfl⟩ := rx
  obtain ⟨_, _, _, ob, _⟩ := (show ObjOk X.prog X.w H s.heap a (.ins C dx fs) from I.hok a _ ha)
  obtain ⟨_, J0, _⟩ := ins_get I.hok ha
  obtain ⟨od, J, _⟩ := J0.look
  have e := J.at_.symm.trans ob
  have call := wpAny_mono (run_at (A := X.A) rfl hr F hb hx I (vs := [V.ref a, .int i]) (us := [Value.ref a, .int i t]) (Paired.cons (show RelV (V.ref a) (Value.ref a) from rfl) (Paired.cons ⟨t, rfl⟩ .nil)) q) (fun _ _ z => cmpBack_of z) fun _ _ z => z
  cases e
  exact refl_run IO I.kIn J hc hs hrr hf hsub call
/-- -x by the own __neg__ -/
def rOwnU (C : Addr) (sp : Sp) (E : XK) : V → Hp → VK → Prop := fun x H Q => ∃ a dx fs, x = .ref a ∧ H a = some (.ins C dx fs) ∧ sp [x] H Q E
theorem un_ownNeg (F : FnOk X.prog X.w X.K X.mg X.base CX k f fd ps sp) (hr : Room k X.A) (hs : PySem.W.findIn X.K (.ref C) "__neg__" = some (some (.ref f))) (hf : PySem.W.isFn X.K (.ref f) = true) (hb : Binds X.K fd ps []) (hx : Passes CX X E) :
    UnR X (unaryOp .USub) (rOwnU C sp E) := by
  intro pins s σ H x v Q I rx hq
  obtain ⟨a, dx, fs, rfl, ha, q⟩ := hq
  cases rx
  obtain ⟨_, J0, _⟩ := ins_get I.hok ha
  obtain ⟨_, J, _⟩ := J0.look
  obtain ⟨_, hF⟩ := I.fr
  exact PySem.W.ksp_neg hF I.ok.mod.kin J hs hf (run_at (A := X.A) rfl hr F hb hx I (vs := [V.ref a]) (us := [Value.ref a]) (Paired.cons (show RelV (V.ref a) (Value.ref a) from rfl) .nil) q)
end
end OQ

/-! ### two tuples of the very same items -/
namespace OQ
open PySem L2 PySem.Spec PyProof.Rows
def SameIt (v : V) : Prop := flatB v = true ∨ ∃ r, v = .ref r
theorem eqAt_it {A : Around} {s : Shared} {v : V} {u u' : Value} (h : SameIt v) (r : RelV v u) (r' : RelV v u') : SeqAt.EqAt A s u u' true := by
  rcases h with h | ⟨a, rfl⟩
  · exact eqAt_same r r' h
  · cases r
    cases r'
    exact SeqAt.EqAt.same _
def rTupS (K : PySem.W.Frag) (ans : Bool) : R2 := fun x y H Q => ∃ a b xs, x = .ref a ∧ y = .ref b ∧ SqT K H a xs ∧ SqT K H b xs ∧ (∀ v ∈ xs, SameIt v) ∧ Q (.bl ans) H
theorem its_same {A : Around} {s : Shared} {xs : List V} {us ws : List Value} (h : ∀ v ∈ xs, SameIt v) (r1 : Vals xs us) (r2 : Vals xs ws) (j : Nat) (h1 : j < us.toArray.size) (h2 : j < ws.toArray.size) :
    SeqAt.EqAt A s us.toArray[j] ws.toArray[j] true := by
  have k1 : j < us.length := by simpa using h1
  have k2 : j < ws.length := by simpa using h2
  have kx : j < xs.length := by rw [r1.length]; exact k1
  obtain ⟨u, hu, ru⟩ := r1.get (List.getElem?_eq_getElem kx)
  obtain ⟨v, hv, rv⟩ := r2.get (List.getElem?_eq_getElem kx)
  rw [List.getElem?_eq_getElem k1] at hu
  rw [List.getElem?_eq_getElem k2] at hv
  have e1 : us.toArray[j] = u := by simpa using Option.some.inj hu
  have e2 : ws.toArray[j] = v := by simpa using Option.some.inj hv
  rw [e1, e2]
  exact eqAt_it (h _ (List.getElem_mem kx)) ru rv
theorem op_neTS {X : Cx} (hu : X.A.units < cLine) : OpR X (compareOp .NotEq) (rTupS X.K false) := by
  rintro pins s σ H x y v u Q I rx ry ⟨a, b, xs, rfl, rfl, ha, hb, hs, q⟩
  cases rx
  cases ry
  obtain ⟨us, r1, p1, _⟩ := I.tuple ha
  obtain ⟨ws, r2, p2, _⟩ := I.tuple hb
  have e := SeqAt.RcNeAt.tuples (e := fun _ => true) p1 p2 hu (fun j h1 h2 => its_same hs r1 r2 j h1 h2)
  refine e X.prog X.w X.xe _ ?_
  have sz : us.toArray.size = ws.toArray.size := by rw [List.size_toArray, List.size_toArray, ← r1.length, ← r2.length]
  have all : (!((List.range (min us.toArray.size ws.toArray.size)).all (fun _ => true) && us.toArray.size == ws.toArray.size)) = false := by rw [sz]; simp
  rw [all]
  exact ⟨.bl false, H, I, rfl, q⟩
section
variable {X : Cx} {CX : CXT} {C f : Addr} {fd : FuncData} {ps : List Str} {sp : Sp} {k : Nat} {ds : List Value} {dvs : List V} {E : L2.St → XK}
/-- o.m(e, ..), what is raised wished for at the slots -/
def tMethS (C : Addr) (m : Str) (sp : Sp) (dvs : List V) (E : L2.St → XK) (ta : TE) (t : TA) : TE := fun σ H Q => ta σ H fun x H1 => ∃ a dx fs, x = .ref a ∧ H1 a = some (.ins C dx fs) ∧ fs.lookup m = none ∧
  t σ H1 fun vs H2 => sp (x :: (vs ++ dvs)) H2 Q (E σ)
theorem d_methS {m : Str} {ta : TE} {t : TA} {σ : L2.St} {H : Hp} {Q : VK} (h : ta σ H fun x H1 => ∃ a dx fs, x = .ref a ∧ H1 a = some (.ins C dx fs) ∧ fs.lookup m = none ∧ t σ H1 fun vs H2 => sp (x :: (vs ++ dvs)) H2 Q (E σ)) :
    tMethS C m sp dvs E ta t σ H Q := h
theorem d_meth {E : XK} {m : Str} {ta : TE} {t : TA} {σ : L2.St} {H : Hp} {Q : VK} (h : ta σ H fun x H1 => ∃ a dx fs, x = .ref a ∧ H1 a = some (.ins C dx fs) ∧ fs.lookup m = none ∧ t σ H1 fun vs H2 => sp (x :: (vs ++ dvs)) H2 Q E) :
    tMeth C m sp dvs E ta t σ H Q := h
theorem pe_methX {o e : Expr} {m : Str} {es : List Expr} {ta : TE} {t : TA} {apos pos : Pos} {pl : Sem Bool} (he : PE X o ta) (c : Cls X.K C) (hm : Meth X.K C m f) (F : FnOk X.prog X.w X.K X.mg X.base CX k f fd ps sp) (hr : Room k X.A)
    (hb : Binds X.K fd ps ds) (hd : Vals dvs ds) (hx : ∀ σ, PassesAt CX X σ (E σ)) (ha : PA X (e :: es) t)
    (hst : starEach (e :: es) X.env = (false, eval e X.env) :: starEach es X.env := by rfl) (hpl : (backTo pos (starEach es X.env)).any (·.1) = false := by rfl)
    (ht : eval (.Call (.Attribute o m apos) (e :: es) [] pos) X.env = (eval o X.env >>= fun ov => standAt apos.atName >>= fun _ => holding [ov] (getMethod ov m pl) >>= fun z =>
      callWith pos z.1 z.2 (backTo pos (starEach (e :: es) X.env)) (backToKw pos (keywordEach [] X.env))) := by rfl) :
    PE X (.Call (.Attribute o m apos) (e :: es) [] pos) (tMethS C m sp dvs E ta t) := by
  refine ⟨fun pins s σ H Q I h => ?_⟩
  refine PySem.W.methodCall_KW (pl := pl) (thn (he.run pins s σ H _ I h) ?_) ht
  rintro u s1 ⟨x, H1, I1, rx, a, dx, fs, rfl, ea, l, q⟩
  cases rx
  refine getmeth_ok I1 ea c hm l ?_
  refine PySem.W.callWith_K (first := [.ref a]) (h₀ := X.base) I.ok.mod.kin hm.kp (thn (ha.run pos pins s1 σ H1 _ I1 q) ?_) hst hpl
  rintro us s2 ⟨vs, H2, I2, r, q2⟩
  exact ⟨I2.kIn, run_fnSD (us := Value.ref a :: us) (vs := V.ref a :: vs) F hr hb hd (hx σ) I2 (.cons rfl r) q2⟩
end
end OQ

/-! ### readings: chained comparisons -/
namespace RD
open PySem L2
theorem d_chain {r r' : R2} {ta tb tc : TE} {σ : L2.St} {H : Hp} {Q : VK} (h : ta σ H fun x H1 => tb σ H1 fun y H2 => r x y H2 fun z H3 => ∃ k, z = .bl k ∧ (if k = true then tc σ H3 fun u H4 => r' y u H4 Q else Q (.bl false) H3)) : tChain r r' ta tb tc σ H Q := h
variable {σ : L2.St} {H : Hp}
theorem f_tup {K : PySem.W.Frag} {a : Addr} {xs : List V} {g : TG} {tb : TS} {nx : L2.St → Hp → Prop} {rt : VK} (Pv : Nat → L2.St → Hp → Prop) (h0 : Pv 0 σ H) (hl : ∀ i σ H, i ≤ xs.length → Pv i σ H → SqT K H a xs)
    (hs : ∀ i x σ H, xs[i]? = some x → Pv i σ H → g x σ H fun σ2 H2 => tb ⟨Pv (i + 1), rt, nx, Pv (i + 1)⟩ σ2 H2) (hd : ∀ σ H, Pv xs.length σ H → nx σ H) :
    ∃ W : Nat → Nat → L2.St → Hp → Prop, (∃ m, W 0 m σ H) ∧ ∀ i m σ H, W i m σ H → ((Itt K a).stop i H ∧ nx σ H) ∨ ((Itt K a).go i H ∧ ∃ N : L2.St → Hp → Prop, (∀ σ' H', N σ' H' → ∃ m', m' < m ∧ W (i + 1) m' σ' H') ∧
      ∀ x H', (Itt K a).yld i H x H' → g x σ H' fun σ2 H2 => tb ⟨N, rt, nx, N⟩ σ2 H2) := for_tup (D := ⟨nx, rt, fun _ _ => False, fun _ _ => False⟩) Pv h0 hl hs hd
end RD

/-! ### a range as a value, and for over it -/
namespace OQ
open PySem L2 PySem.Spec PyProof.Rows
section
variable {X : Cx} {tg : Expr} {e : Expr} {te : TE}
theorem cr_range1 : CallR X (.type "range") (fun vs H Q => ∃ j : Int, vs = [V.int j] ∧ ∀ p, H p = none → Q (.ref p) (upd H p (.rng 0 j))) := by
  rintro pins s σ H vs us Q I r ⟨j, rfl, wish⟩
  cases r with
  | cons one rest =>
    cases rest
    obtain ⟨tok, rfl⟩ := one
    have free := I.hok.fresh (Nat.le_refl s.heap.objs.size)
    exact call_range_1 ⟨.ref s.heap.objs.size, _, I.laid (t' := s.toks + 1 + 1) (o := .rng 0 j) (fun _ _ z => Heap.get?_push_of_some _ z) (Nat.le_refl _) ⟨s.toks, tok, s.toks + 1, Heap.get?_push_size _ rfl⟩, rfl, wish _ free⟩
/-- for .. in e, e a range from lo to hi -/
def iRngV (te : TE) : TI := fun σ H R => te σ H fun x H1 => ∃ (a : Addr) (lo hi : Int), x = .ref a ∧ H1 a = some (.rng lo hi) ∧ (-(2 ^ 62) ≤ lo ∧ lo < 2 ^ 62 ∧ -(2 ^ 62) ≤ hi ∧ hi < 2 ^ 62) ∧ R (Itr lo (hi - lo).toNat) H1
theorem pi_rngV (he : PE X e te) : PI X tg e (iRngV te) := by
  refine ⟨fun pins s σ H R I asked => thn (he.run pins s σ H _ I asked) fun v s1 ⟨x, H1, I1, rx, a, lo, hi, ex, ea, ⟨b1, b2, b3, b4⟩, go⟩ => ?_⟩
  subst ex
  obtain rfl : v = Value.ref a := rx
  obtain ⟨t, u, w, there⟩ := I1.hok a _ ea
  have isr : IsRange s1.heap a lo hi 1 t u w := there
  have len : (((hi - lo).toNat : Nat) : Int) = Builtin.Range.rangeSize lo hi 1 := by rw [rangeSize_one]; split <;> omega
  refine wpAny_pyIter_range isr (small_one b1 b2 b3 b4) ⟨s1.heap.objs.size, [s1.heap.objs.size], _, _, H1, rfl, I1.kept (t' := s1.toks) fun _ _ z => Heap.get?_push_of_some _ z, turn_range _ lo (hi - lo).toNat, ?_, fun b hb => ?_, go⟩
  · show IsRangeIter _ _ (lo + ((0 : Nat) : Int) * 1) ((((hi - lo).toNat : Nat) : Int) - ((0 : Nat) : Int)) 1
    rw [len]
    simp only [Int.natCast_zero, Int.zero_mul, Int.add_zero, Int.sub_zero]
    exact Heap.get?_push_size _ rfl
  · obtain rfl : b = s1.heap.objs.size := by simpa using hb
    exact I1.fpOk (Nat.le_refl _) (I1.hok.fresh (Nat.le_refl _))
end
end OQ

/-! ### rules whose reading names K itself (for the blocks of comprehensions) -/
namespace OQ
open PySem L2 PySem.Spec PyProof.Rows
section
variable {X : Cx} {e : Expr} {ta : TE} {f : Str} {pos : Pos}
theorem ixL (K : PySem.W.Frag) (h : X.K = K := by rfl) : IxR X (rIxL K) := h ▸ ix_list
theorem ixT (K : PySem.W.Frag) (h : X.K = K := by rfl) : IxR X (rIxT K) := h ▸ ix_tup
theorem fldK (K : PySem.W.Frag) (he : PE X e ta) (h : X.K = K := by rfl) (hb : attributeBase e f X.env (eval e X.env) = eval e X.env := by rfl) : PE X (.Attribute e f pos) (tFld K ta f) := h ▸ pe_fld he hb
def rTupK (K : PySem.W.Frag) : List V → Hp → VK → Prop := fun xs H Q => ∃ p ys, xs = [.ref p] ∧ ((SqL K H p ys ∧ ∀ l, H l = none → Q (.ref l) (upd H l (.tup ys))) ∨ (SqT K H p ys ∧ Q (.ref p) H))
theorem tupK (K : PySem.W.Frag) (h : X.K = K := by rfl) : CallR X (.type "tuple") (rTupK K) := h ▸ call_tuple_of
end
end OQ

/-! ### == with a builtin value on the left, an own object on the right -/
namespace OQ
open PySem L2 PySem.Spec PyProof.Rows PySem.MeetsSeq PySem.SeqAt
section
variable {prog : Program} {w : World} {A : Around} {E : Value → Shared → Prop} {s : Shared} {K : PySem.W.Frag} {x C f dx : Addr} {od : Option Obj}
/-- the left one's own answer is NotImplemented -/
def Shy (prog : Program) (w : World) (A : Around) (E : Value → Shared → Prop) (s : Shared) (a : Value) (Ta : String) (x : Addr) : Prop :=
  ∃ id, Slot Ta "__eq__" id ∧ ∀ Q' : Value → Shared → Prop, Q' .notImplemented s → wpAny (model prog w) A (call (.builtin id) [a, .ref x]) Q' E s
theorem eq_back {a : Value} {Ta : String} {Q : Value → Shared → Prop} (hu : A.units < cLine) (ha : s.TypeIs a Ta) (shy : Shy prog w A E s a Ta x) (Z : K.In s.heap) (I : PySem.W.InstAt s.heap x (PySem.W.instObj C dx) C od)
    (hsub : PySem.W.subIn K (.ref C) (.type Ta) = some false) (hs : PySem.W.findIn K (.ref C) "__eq__" = some (some (.ref f))) (hf : PySem.W.isFn K (.ref f) = true)
    (h : wpAny (model prog w) A (call (.ref f) [.ref x, a]) (PySem.W.CmpBack Q) E s) : wpAny (model prog w) A (richCompare .Eq a (.ref x)) Q E s := by
  obtain ⟨id, slot, dec⟩ := shy
  have other : (Value.type Ta != Value.ref C) = true := rfl
  have one : wpAny (model prog w) A (tryCompare (.ref x) "__eq__" a) (fun r s' => ∃ v, r = some v ∧ Q v s') E s := by
    unfold tryCompare
    refine wpAny_bind (PySem.W.ifBound_K Z I hs hf (wpAny_mono h (fun v s' hv => ?_) fun _ _ z => z))
    cases v <;> first | exact hv.elim | exact wpAny_pure ⟨_, rfl, hv⟩
  rcases hi : cmpInfo CmpOp.Eq with ⟨sym, g, r⟩
  obtain ⟨rfl, rfl⟩ : g = ("__eq__" : Str) ∧ r = ("__eq__" : Str) := by
    have z : cmpInfo CmpOp.Eq = (_, _, _) := rfl
    rw [z] at hi
    cases hi
    exact ⟨rfl, rfl⟩
  simp only [richCompare, hi, ha.oneThing_none]
  refine wpAny_holding (wpAny_bind (wpAny_cRoomFor hu ?_))
  refine wpAny_bind (wpAny_typeOf ha (wpAny_bind (I.type.here ?_)))
  simp only [other, if_true]
  refine wpAny_bind ((PySem.W.looks_subIn Z hsub).here ?_)
  simp only [Bool.false_eq_true, if_false, Bool.not_false, if_true]
  refine wpAny_bind (m := tryCompare a _ (.ref x)) (wpAny_tryCompare_declines ha slot (dec _ ⟨rfl, ?_⟩))
  refine wpAny_bind (wpAny_mono one (fun r s' z => ?_) fun _ _ z => z)
  obtain ⟨v, rfl, q⟩ := z
  exact wpAny_pure q
theorem shy_none : Shy prog w A E s .none "NoneType" x := ⟨_, PySem.F.slot_NoneType_eq, fun _ q => call_gives PySem.F.slot_NoneType_eq rfl PySem.F.entry_NoneType_eq (PySem.F.args_NoneType_eq_2 _ _) (NoneType___eq___none_ref_0 x) q⟩
theorem int_shy (b : Int) (u : Tok) : Meets (Builtin.«int.__eq__» ⟨[.int b u, .ref x], []⟩) (fun _ R s => s.heap.get? x = some (PySem.W.instObj C dx) ∧ R (.ok (.ret .notImplemented)) s) :=
  .of_wp fun prog w A R s h => by obtain ⟨hp, g, d, tk, os⟩ := s; obtain ⟨hl, h⟩ := h; wp_walk using wpAny_loadPart_at hl, wpAny_load hl; exact ⟨_, rfl, h⟩
theorem str_shy (b : Str) (u : Tok) : Meets (Builtin.«str.__eq__» ⟨[.str b u, .ref x], []⟩) (fun _ R s => s.heap.get? x = some (PySem.W.instObj C dx) ∧ R (.ok (.ret .notImplemented)) s) :=
  .of_wp fun prog w A R s h => by obtain ⟨hp, g, d, tk, os⟩ := s; obtain ⟨hl, h⟩ := h; wp_walk using wpAny_loadPart_at hl, wpAny_load hl; exact ⟨_, rfl, h⟩
theorem shy_int (b : Int) (u : Tok) (hx : s.heap.get? x = some (PySem.W.instObj C dx)) : Shy prog w A E s (.int b u) "int" x := ⟨_, PySem.F.slot_int_eq, fun _ q => call_meets PySem.F.slot_int_eq (typeIs_int s b u) PySem.F.entry_int_eq (PySem.F.args_int_eq_2 _ _) (int_shy b u) ⟨hx, q⟩⟩
theorem shy_str (b : Str) (u : Tok) (hx : s.heap.get? x = some (PySem.W.instObj C dx)) : Shy prog w A E s (.str b u) "str" x := ⟨_, PySem.F.slot_str_eq, fun _ q => call_meets PySem.F.slot_str_eq (typeIs_str s b u) PySem.F.entry_str_eq (PySem.F.args_str_eq_2 _ _) (str_shy b u) ⟨hx, q⟩⟩
theorem list_shy (l : Addr) (items : Array Value) (n : Nat) (dd : Option Addr) (sl : Array (Option Value)) : Meets (Builtin.«list.__eq__» ⟨[.ref l, .ref x], []⟩)
    (fun _ R s => s.heap.get? l = some { cls := .type "list", dict := dd, data := .seq items n, slots := sl } ∧ s.heap.get? x = some (PySem.W.instObj C dx) ∧ K.In s.heap ∧ PySem.W.subIn K (.ref C) (.type "list") = some false ∧ R (.ok (.ret .notImplemented)) s) :=
  .of_wp fun prog w A R s h => by
    obtain ⟨hp, g, d, tk, os⟩ := s
    obtain ⟨hl, hx, Z, sub, h⟩ := h
    have hI : ∀ {A' : Around} {E' : Value → Shared → Prop} {Q' : Bool → Shared → Prop}, Q' false ⟨hp, g, d, tk, os⟩ → wpAny (model prog w) A' (isInstance (.ref x) (.type "list")) Q' E' ⟨hp, g, d, tk, os⟩ := fun q => by
      unfold isInstance
      exact wpAny_bind (wpAny_typeOf_ref hx ((PySem.W.looks_subIn Z sub).here q))
    wp_walk using wpAny_loadPart' hl, hI
    exact ⟨_, rfl, h⟩
theorem shy_list {l : Addr} {items : Array Value} (hl : s.heap.IsList l items) (hx : s.heap.get? x = some (PySem.W.instObj C dx)) (Z : K.In s.heap) (sub : PySem.W.subIn K (.ref C) (.type "list") = some false) : Shy prog w A E s (.ref l) "list" x := by
  obtain ⟨⟨c, dd, dt, sl⟩, ho, hc, n, hd⟩ := id hl
  simp only at hc hd
  subst hc hd
  exact ⟨_, PySem.F.slot_list_eq, fun _ q => call_meets PySem.F.slot_list_eq ⟨_, ho, rfl⟩ PySem.F.entry_list_eq (PySem.F.args_list_eq_2 _ _) (list_shy l items n dd sl) ⟨ho, hx, Z, sub, q⟩⟩
end
section
variable {X : Cx} {CX : CXT} {C f : Addr} {k : Nat} {fd : FuncData} {ps : List Str} {sp : Sp} {E : XK}
/-- the kinds on the left -/
def Plain4 (K : PySem.W.Frag) (H : Hp) (x : V) (T : String) : Prop := (x = .non ∧ T = "NoneType") ∨ (∃ i, x = .int i ∧ T = "int") ∨ (∃ z, x = .str z ∧ T = "str") ∨ ∃ a xs, x = .ref a ∧ SqL K H a xs ∧ T = "list"
def rBackEq (K : PySem.W.Frag) (C : Addr) (sp : Sp) (E : XK) : R2 := fun x y H Q => ∃ (a dx : Addr) (fs : List (Str × V)) (T : String), y = .ref a ∧ H a = some (.ins C dx fs) ∧ Plain4 K H x T ∧ PySem.W.subIn K (.ref C) (.type T) = some false ∧ sp [y, x] H Q E
theorem op_backEq (F : FnOk X.prog X.w X.K X.mg X.base CX k f fd ps sp) (hr : Room k X.A) (hs : PySem.W.findIn X.K (.ref C) "__eq__" = some (some (.ref f))) (hf : PySem.W.isFn X.K (.ref f) = true)
    (hb : Binds X.K fd ps []) (hx : Passes CX X E) : OpR X (compareOp .Eq) (rBackEq X.K C sp E) := by
  rintro pins s σ H x y v u Q I rx ry ⟨a, dx, fs, T, rfl, ha, pl, sub, q⟩
  cases ry
  obtain ⟨_, _, _, ob, _⟩ := (show ObjOk X.prog X.w H s.heap a (.ins C dx fs) from I.hok a _ ha)
  obtain ⟨_, J0, _⟩ := ins_get I.hok ha
  obtain ⟨od, J, _⟩ := J0.look
  have e := J.at_.symm.trans ob
  have call := wpAny_mono (run_at (A := X.A) rfl hr F hb hx I (vs := [V.ref a, x]) (us := [Value.ref a, v]) (Paired.cons (show RelV (V.ref a) (Value.ref a) from rfl) (Paired.cons rx .nil)) q) (fun _ _ z => cmpBack_of z) fun _ _ z => z
  cases e
  rcases pl with ⟨rfl, rfl⟩ | ⟨i, rfl, rfl⟩ | ⟨z, rfl, rfl⟩ | ⟨b, xs, rfl, hq, rfl⟩
  · cases rx
    exact eq_back hr.units0 rfl shy_none I.kIn J sub hs hf call
  · obtain ⟨t, rfl⟩ := rx
    exact eq_back hr.units0 (typeIs_int s i t) (shy_int i t ob) I.kIn J sub hs hf call
  · obtain ⟨t, rfl⟩ := rx
    exact eq_back hr.units0 (typeIs_str s z t) (shy_str z t ob) I.kIn J sub hs hf call
  · cases rx
    obtain ⟨its, _, p, _⟩ := I.list hq
    have hl := p.isList
    obtain ⟨o, ho, hc, _⟩ := id hl
    exact eq_back hr.units0 ⟨o, ho, hc⟩ (shy_list hl ob I.kIn sub) I.kIn J sub hs hf call
end
end OQ

/-! ### own errors as values: made, their fields read, isinstance of them -/
namespace OQ
open PySem L2 PySem.Spec PyProof.Rows
section
variable {X : Cx} {CX : CXT} {x n : Str} {C fI : Addr} {k : Nat} {fd : FuncData} {ps : List Str} {sp : Sp} {ds : List Value} {dvs : List V} {p pos : Pos} {e : Expr} {es : List Expr} {ta : TA} {te : TE} {E : XK}
/-- C(e, ..), C an own error: it stands as it was made -/
def tMkV (C : Addr) (sp : Sp) (dvs : List V) (E : XK) (ta : TA) : TE := fun σ H Q => ta σ H fun vs H1 => ∀ a, H1 a = none → sp (.ref a :: (vs ++ dvs)) (upd H1 a (exo a C none)) (fun v H2 => v = .non ∧ Q (.ref a) H2) E
/-- a new error: its place, and the state with it -/
theorem newErr {pins : List (Addr × Obj)} {st : Shared} {σ : L2.St} {H : Hp} (us : List Value) (D : Addr) (J : Inv X pins σ H st) :
    H (st.heap.objs.size + 1) = none ∧ Inv X pins σ (upd H (st.heap.objs.size + 1) (exo (st.heap.objs.size + 1) D none)) { st with heap := (st.heap.push (PySem.W.kdv_tup us)).push (PySem.HandSPX.excO D st.heap.objs.size) } := by
  have le := Nat.le_succ st.heap.objs.size
  refine ⟨J.hok.fresh le, J.laid (t' := st.toks) (fun _ _ z => Heap.get?_push_of_some _ (Heap.get?_push_of_some _ z)) le (exo_ok (t1 := st.heap.objs.size) ?_)⟩
  have z := Heap.get?_push_size (h := st.heap.push (PySem.W.kdv_tup us)) (o := PySem.HandSPX.excO D st.heap.objs.size) rfl
  have y : (st.heap.push (PySem.W.kdv_tup us)).objs.size = st.heap.objs.size + 1 := by simp [Heap.push]
  rw [y] at z
  exact z
theorem run_mkV {pins : List (Addr × Obj)} {st : Shared} {σ : L2.St} {H1 : Hp} {Q : VK} {vs : List V} {us : List Value} (T : OexC X.K C) (iC : PySem.W.findIn X.K (.ref C) "__init__" = some (some (.ref fI))) (tI : PySem.W.typeIn X.K (.ref fI) = some (.type "function"))
    (F1 : FnOk X.prog X.w X.K X.mg X.base CX k fI fd ps sp) (hr : Room (k + 1) X.A) (hb : Binds X.K fd ps ds) (hd : Vals dvs ds) (hx : Passes CX X E) (few : ps.length ≤ 100) (J : Inv X pins σ H1 st) (rv : Vals vs us)
    (wish : ∀ a, H1 a = none → sp (.ref a :: (vs ++ dvs)) (upd H1 a (exo a C none)) (fun v H2 => v = .non ∧ Q (.ref a) H2) E) : wpAny (model X.prog X.w) X.A (call (.ref C) us) (EP X pins σ Q) X.xe st := by
  obtain ⟨free, J2⟩ := newErr us C J
  have asked := wish _ free
  have all : Vals (V.ref (st.heap.objs.size + 1) :: (vs ++ dvs)) (Value.ref (st.heap.objs.size + 1) :: (us ++ ds)) := .cons rfl (rv.append hd)
  have many : (Value.ref (st.heap.objs.size + 1) :: us ++ ds).length = ps.length := (all.length.symm).trans (F1.len _ _ _ _ asked)
  have short : us.length ≤ sizeLine := by
    have q : (Value.ref (st.heap.objs.size + 1) :: us ++ ds).length ≤ 100 := many ▸ few
    simp only [List.cons_append, List.length_cons, List.length_append] at q
    exact Nat.le_trans (show us.length ≤ 100 by omega) (by decide)
  have body := F1.run _ X.stack _ _ ⟨Value.ref (st.heap.objs.size + 1) :: us, []⟩ _ _ _ E (hr.make C us []) (J2.env0.make C us []) (hb _ (_ :: us) J2.kIn many) all asked
  obtain ⟨_, _, _, _, bm, _, _, _, _, _, _, _, _, _, _, look, good⟩ := T.cls
  refine wpAny_call (PySem.HandSPX.call_own F.excBase_ValueError (fun _ => PySem.HandSPX.refsVE_contains _ bm good) (J.kIn _ _ look) (PySem.W.looks_findIn J.kIn iC) (fun v => PySem.W.bind_fn J.kIn v tI) short (codeAny_mono body ?_))
  rintro (er | fl) s2 post
  · exact hx pins σ _ _ er s2 J2 post
  · match fl, post with
    | .ret u, post =>
      obtain ⟨v, H2, J3, ru, e, q⟩ := J2.after post
      subst e
      exact ⟨ru, V.ref (st.heap.objs.size + 1), H2, J3, rfl, q⟩
theorem pe_mkV (T : OexC X.K C) (iC : PySem.W.findIn X.K (.ref C) "__init__" = some (some (.ref fI))) (tI : PySem.W.typeIn X.K (.ref fI) = some (.type "function"))
    (F1 : FnOk X.prog X.w X.K X.mg X.base CX k fI fd ps sp) (hr : Room (k + 1) X.A) (hb : Binds X.K fd ps ds) (hd : Vals dvs ds) (hx : Passes CX X E) (hsz : ps.length ≤ 100) (hg : Gl X x) (hm : X.mg x = some (.ref C)) (ha : PA X (e :: es) ta)
    (hdb : (x == ("__debug__" : Str)) = false := by decide) (he : starEach (e :: es) X.env = (false, eval e X.env) :: starEach es X.env := by rfl) (hpl : (backTo pos (starEach es X.env)).any (·.1) = false := by rfl) :
    PE X (.Call (.Name x p) (e :: es) [] pos) (tMkV C sp dvs E ta) := by
  refine ⟨fun pins s σ H Q I h => ?_⟩
  refine wpAny_Call_Name_kw (ld_glob I hg hm ?_ hdb)
  refine PySem.W.callWith_K (h₀ := X.base) I.ok.mod.kin T.kC (thn (ha.run pos pins s σ H _ I h) fun us s1 ⟨vs, H1, I1, r1, q1⟩ => ⟨I1.kIn, ?_⟩) he hpl
  exact run_mkV T iC tI F1 hr hb hd hx hsz I1 r1 q1
theorem pe_mkV0 (T : OexC X.K C) (iC : PySem.W.findIn X.K (.ref C) "__init__" = some (some (.ref fI))) (tI : PySem.W.typeIn X.K (.ref fI) = some (.type "function"))
    (F1 : FnOk X.prog X.w X.K X.mg X.base CX k fI fd ps sp) (hr : Room (k + 1) X.A) (hb : Binds X.K fd ps ds) (hd : Vals dvs ds) (hx : Passes CX X E) (hsz : ps.length ≤ 100) (hg : Gl X x) (hm : X.mg x = some (.ref C))
    (hdb : (x == ("__debug__" : Str)) = false := by decide) : PE X (.Call (.Name x p) [] [] pos) (tMkV C sp dvs E tNil) := by
  refine ⟨fun pins s σ H Q I h => ?_⟩
  refine wpAny_Call_Name_kw (ld_glob I hg hm ?_ hdb)
  exact PySem.W.callWith_K0 I.kIn T.kC (run_mkV (us := []) (vs := []) T iC tI F1 hr hb hd hx hsz I .nil h)
/-- an own error at a, with its fields -/
def ErrAt (H : Hp) (a C : Addr) (fs : List (Str × V)) : Prop := ∃ d, H a = some (exo a C (some d)) ∧ H d = some (exd d fs)
theorem errInst {pins : List (Addr × Obj)} {s : Shared} {σ : L2.St} {H : Hp} {a : Addr} {fs : List (Str × V)} (I : Inv X pins σ H s) (h : ErrAt H a C fs) :
    ∃ (oe : Obj) (od : Obj) (mA : Str → Option Value), PySem.W.InstAt s.heap a oe C (some od) ∧ (∀ f, RelO (fs.lookup f) (mA f)) ∧ ∀ n, PySem.W.lookIn n od = some (mA n) := by
  obtain ⟨d, e1, e2⟩ := h
  obtain ⟨t1, ho⟩ := exo_at I.hok e1
  obtain ⟨mA, hns, rel⟩ := exd_at I.hok e2
  obtain ⟨od, hd, hl⟩ := lookIn_ns hns
  exact ⟨_, od, mA, ⟨ho, rfl, rfl, hd⟩, rel, hl⟩
/-- e.f -/
def tVf (K : PySem.W.Frag) (n : Str) (te : TE) : TE := fun σ H Q => te σ H fun x H1 => ∃ (a C : Addr) (fs : List (Str × V)) (v : V), x = .ref a ∧ ErrAt H1 a C fs ∧ XfC K C ∧ PySem.W.findIn K (.ref C) n = some none ∧ fs.lookup n = some v ∧ Q v H1
theorem pe_vf (he : PE X e te) (hb : attributeBase e n X.env (eval e X.env) = eval e X.env := by rfl) : PE X (.Attribute e n pos) (tVf X.K n te) := by
  refine ⟨fun pins s σ H Q I h => ?_⟩
  refine attr_of hb (thn (he.run pins s σ H _ I h) fun u s1 hh => ?_)
  obtain ⟨x, H1, I1, rx, a, D, fs, v, ex, er, T, hno, l, q⟩ := hh
  subst ex
  obtain rfl : u = Value.ref a := rx
  obtain ⟨oe, od, mA, J, hr, hl⟩ := errInst I1 er
  obtain ⟨u, hu, ru⟩ := RelO.some_of (v := v) (o := mA n) (by rw [← l]; exact hr n)
  exact HandSPX.exc_get I1.kIn J T.ga T.gg T.exC (PySem.W.findObj_own T.hdC hno rfl (by rw [hl, hu])) (handed_of ru) ⟨v, H1, I1.tok _, ru, q⟩
/-- isinstance(x, c), x such an error -/
def rIsV (K : PySem.W.Frag) : List V → Hp → VK → Prop := fun xs H Q => ∃ (a D : Addr) (fs : List (Str × V)) (c : V) (cv : Value) (b : Bool), xs = [.ref a, c] ∧ ErrAt H a D fs ∧ ExcC K D ∧ ClsV c cv ∧ PySem.W.kitOne K (.ref D) cv = some b ∧ Q (.bl b) H
theorem call_isV : CallR X (.builtin "isinstance") (rIsV X.K) := by
  rintro pins s σ H xs us Q I r ⟨a, D, fs, c, cv, b, rfl, er, C, hc, e, q⟩
  cases r with
  | cons rx rr => cases rr with
    | cons rt rr =>
      cases rr
      cases rx
      have ec := hc.eq rt
      subst ec
      obtain ⟨oe, od, mA, J, _, _⟩ := errInst I er
      have hcl : (PySem.W.clsIn X.K D).isSome = true := by
        obtain ⟨cd, h1, _⟩ := PySem.W.any_some C.hd
        rw [h1]; rfl
      exact PySem.W.kia_one (PySem.W.kitx_exc hcl C.hg C.hk C.hs C.ha C.hn C.ht C.hm) I.kIn J e (fun z => Value.noConfusion z) fun tk => ⟨.bl b, H, I.kept (t' := tk) fun _ _ z => z, rfl, q⟩
end
end OQ

/-! ### own errors: what is known of their classes -/
namespace OQ
open PySem L2 PySem.Spec PyProof.Rows
structure ErC (K : PySem.W.Frag) (W fI C : Addr) : Prop where
  oex : OexC K C
  ini : PySem.W.findIn K (.ref C) "__init__" = some (some (.ref fI))
  va : PySem.W.findIn K (.ref C) "value" = some none
  xf : XfC K C
  exi : ExcC K C
  mro : ∃ cd, PySem.W.clsIn K C = some cd ∧ cd.mro = [.ref C, .ref W, .type "ValueError", .type "Exception", .type "BaseException", .type "object"]
theorem kit_er {K : PySem.W.Frag} {W f g C D : Addr} (a : ErC K W f C) (b : ErC K W g D) (n : D ≠ W) : PySem.W.kitOne K (.ref C) (.ref D) = some (decide (C = D)) := by
  by_cases h : C = D
  · subst h
    unfold PySem.W.kitOne
    rw [if_pos (by simp), decide_eq_true rfl]
  · have hb : ((Value.ref C : Value) == Value.ref D) = false := Bool.eq_false_iff.mpr fun q => h (by cases beq_iff_eq.mp q; rfl)
    unfold PySem.W.kitOne
    rw [if_neg (by rw [hb]; decide), decide_eq_false h]
    obtain ⟨cd, e1, _⟩ := b.mro
    obtain ⟨cc, e2, e3⟩ := a.mro
    have t : ((PySem.W.clsIn K D).isSome && PySem.W.typeIn K (.ref D) == some (.type "type")) = true := by rw [e1, b.oex.tyC] <;> rfl
    show (if ((PySem.W.clsIn K D).isSome && PySem.W.typeIn K (.ref D) == some (.type "type")) = true then PySem.W.mroIn K C (.ref D) else none) = some false
    rw [if_pos t]
    unfold PySem.W.mroIn
    rw [e2]
    show (if cc.mro.isEmpty = true then none else some (cc.mro.contains (.ref D))) = some false
    rw [e3, if_neg (by simp)]
    congr 1
    refine Bool.eq_false_iff.mpr fun q => ?_
    have m := List.contains_iff_mem.mp q
    simp only [List.mem_cons, List.not_mem_nil, or_false] at m
    rcases m with m | m | m | m | m | m
    · cases m; exact h rfl
    · cases m; exact n rfl
    all_goals cases m
end OQ

/-! ### C.f(..), C an own class of the text: the def itself -/
namespace OQ
open PySem L2 PySem.Spec PyProof.Rows
/-- C.f read off the class: the def at g -/
structure CDef (K : PySem.W.Frag) (C g : Addr) (n : Str) : Prop where
  rd : PySem.W.readsIn K C (.type "type") = true
  ga : PySem.W.specialIn K (.ref C) "__getattribute__" = some (some (.builtin "type.__getattribute__"))
  val : PySem.W.findCls K (.ref C) (.type "type") n = some (.val (.ref g))
  kp : PySem.W.keepIn K (.ref g) = true
section
variable {X : Cx} {CX : CXT} {n : Str} {C g : Addr} {k : Nat} {fd : FuncData} {ps : List Str} {sp : Sp} {o e : Expr} {es : List Expr} {to : TE} {t : TA} {E : XK} {pos apos : Pos} {pl : Sem Bool}
def tCDef (C : Addr) (sp : Sp) (E : XK) (to : TE) (t : TA) : TE := fun σ H Q => to σ H fun x H1 => x = .ref C ∧ t σ H1 fun vs H2 => sp vs H2 Q E
theorem pe_cdef (ho : PE X o to) (c : CDef X.K C g n) (F : FnOk X.prog X.w X.K X.mg X.base CX k g fd ps sp) (hr : Room k X.A) (hb : Binds X.K fd ps []) (hx : Passes CX X E) (ha : PA X (e :: es) t)
    (ht : eval (.Call (.Attribute o n apos) (e :: es) [] pos) X.env = (do
      let ov ← eval o X.env
      standAt apos.atName
      let (f, first) ← holding [ov] (getMethod ov n pl)
      callWith pos f first (backTo pos (starEach (e :: es) X.env)) (backToKw pos (keywordEach [] X.env))) := by rfl)
    (he : starEach (e :: es) X.env = (false, eval e X.env) :: starEach es X.env := by rfl) (hpl : (backTo pos (starEach es X.env)).any (·.1) = false := by rfl) :
    PE X (.Call (.Attribute o n apos) (e :: es) [] pos) (tCDef C sp E to t) := by
  refine ⟨fun pins s σ H Q I h => ?_⟩
  refine PySem.W.methodCall_KW (pl := pl) (thn (ho.run pins s σ H _ I h) fun u s1 ⟨x, H1, I1, rx, ex, q⟩ => ?_) ht
  subst ex
  obtain rfl : u = Value.ref C := rx
  refine PySem.W.method_cls I1.kIn c.ga (PySem.W.cls_value I1.kIn c.rd c.val rfl ?_)
  show wpAny _ _ (callWith pos (Value.ref g) [] (backTo pos (starEach (e :: es) X.env)) []) _ _ _
  refine PySem.W.callWith_K (h₀ := X.base) I1.ok.mod.kin c.kp (thn (ha.run pos pins _ σ H1 _ (I1.tok _) q) fun us s2 ⟨vs, H2, I2, rv, q2⟩ => ⟨I2.kIn, ?_⟩) he hpl
  exact run_at (A := X.A) rfl hr F hb hx I2 rv q2
end
end OQ

/-! ### own errors: of which classes above -/
namespace OQ
open PySem L2 PySem.Spec PyProof.Rows
theorem mro_has {K : PySem.W.Frag} {W f C : Addr} (a : ErC K W f C) {B : Value} (h : B ∈ [Value.ref C, .ref W, .type "ValueError", .type "Exception", .type "BaseException", .type "object"]) : PySem.W.mroIn K C B = some true := by
  obtain ⟨cc, e1, e2⟩ := a.mro
  unfold PySem.W.mroIn
  rw [e1]
  show (if cc.mro.isEmpty = true then none else some (cc.mro.contains B)) = some true
  rw [e2, if_neg (by simp), List.contains_iff_mem.mpr h]
theorem kit_eV {K : PySem.W.Frag} {W f C : Addr} (a : ErC K W f C) : PySem.W.kitOne K (.ref C) (.type "ValueError") = some true := by
  unfold PySem.W.kitOne
  rw [if_neg (by simp)]
  show (if PySem.W.kitMeta "ValueError" = true then PySem.W.mroIn K C (.type "ValueError") else none) = some true
  rw [if_pos (by decide +kernel), mro_has a (by simp)]
theorem kit_eW {K : PySem.W.Frag} {W f C : Addr} (a : ErC K W f C) (hc : PySem.W.isClsIn K W = true) (ht : PySem.W.typeIn K (.ref W) = some (.type "type")) : PySem.W.kitOne K (.ref C) (.ref W) = some true := by
  by_cases n : (Value.ref C == Value.ref W) = true
  · unfold PySem.W.kitOne
    rw [if_pos n]
  · unfold PySem.W.kitOne
    rw [if_neg n]
    have h : ((PySem.W.clsIn K W).isSome && PySem.W.typeIn K (.ref W) == some (.type "type")) = true := by
      rw [show (PySem.W.clsIn K W).isSome = true from hc, ht]; rfl
    show (if ((PySem.W.clsIn K W).isSome && PySem.W.typeIn K (.ref W) == some (.type "type")) = true then PySem.W.mroIn K C (.ref W) else none) = some true
    rw [if_pos h, mro_has a (by simp)]
end OQ

/-! ### all that is asked of an own error's class, in one look -/
namespace OQ
open PySem L2 PySem.Spec PyProof.Rows
/-- the classes above such a one -/
def upVE (C W : Addr) : List Value := [.ref C, .ref W, .type "ValueError", .type "Exception", .type "BaseException", .type "object"]
def shpB (W C : Addr) : Option Obj → Bool
  | some ⟨.type "type", _, .cls k, z⟩ => k.hasDict && (!k.hasDel && (decide (k.mro = upVE C W) && decide (z.size = 6 ∧ z[4]? = some (some (.builtin "ValueError.__new__")))))
  | _ => false
theorem six {z : Array (Option Value)} {u : Option Value} (n : z.size = 6) (e : z[4]? = some u) : ∃ a b c d f, z = #[a, b, c, d, u, f] := by
  obtain ⟨l⟩ := z
  match l, n, e with
  | [a, b, c, d, v, f], _, e => exact ⟨a, b, c, d, f, by cases e; rfl⟩
def fndB (K : PySem.W.Frag) (C : Addr) (n : Str) (v : Option Value) : Bool := decide (PySem.W.findIn K (.ref C) n = some v)
def erB (K : PySem.W.Frag) (W f C : Addr) : Bool :=
  shpB W C (K.lookup C) && (fndB K C "__setattr__" (some (.builtin "object.__setattr__")) && (decide (PySem.W.subIn K (.ref C) (.type "BaseException") = some true) && (decide (PySem.W.typeIn K (.ref C) = some (.type "type")) &&
    (PySem.W.keepIn K (.ref C) && (fndB K C "__init__" (some (.ref f)) && (fndB K C "value" none && (fndB K C "__getattribute__" (some (.builtin "BaseException.__getattribute__")) && (fndB K C "__getattr__" none &&
      (PySem.W.hasDictIn K C && fndB K C "__class__" (some (.builtin "object.__class__")))))))))))
/-- f of all of them -/
def allB {α : Type} (f : α → Bool) : List α → Bool
  | [] => true
  | x :: r => f x && allB f r
theorem allB_at {α : Type} {f : α → Bool} : ∀ {l : List α}, allB f l = true → ∀ x ∈ l, f x = true
  | [], _, _, m => nomatch m
  | y :: r, h, x, m => by
    have q : (f y && allB f r) = true := h
    rw [Bool.and_eq_true] at q
    rcases List.mem_cons.mp m with e | m
    · rw [e]; exact q.1
    · exact allB_at q.2 x m
theorem two {a b : Bool} (h : (a && b) = true) : a = true ∧ b = true := by simpa using h
theorem erB_ok {K : PySem.W.Frag} {W f C : Addr} (hn : PySem.W.specialIn K (.builtin "object.__class__") "__get__" = some (some (.builtin "getset_descriptor.__get__"))) (ht : PySem.W.takesIn K (.builtin "object.__class__") = some true)
    (h : erB K W f C = true) : ErC K W f C := by
  obtain ⟨c1, h⟩ := two h
  obtain ⟨c2, h⟩ := two h
  obtain ⟨c3, h⟩ := two h
  obtain ⟨c4, h⟩ := two h
  obtain ⟨c5, h⟩ := two h
  obtain ⟨c6, h⟩ := two h
  obtain ⟨c7, h⟩ := two h
  obtain ⟨c8, h⟩ := two h
  obtain ⟨c9, h⟩ := two h
  obtain ⟨c10, c11⟩ := two h
  have F : ∀ {n : Str} {v : Option Value}, fndB K C n v = true → PySem.W.findIn K (.ref C) n = some v := fun q => of_decide_eq_true q
  have sub := of_decide_eq_true c3
  cases e : K.lookup C with
  | none => rw [e] at c1; cases c1
  | some o =>
    rw [e] at c1
    unfold shpB at c1
    split at c1
    · rename_i dd k z eo
      have eo' := Option.some.inj eo
      subst eo'
      obtain ⟨d1, c1⟩ := two c1
      obtain ⟨d2, c1⟩ := two c1
      obtain ⟨d3, d4⟩ := two c1
      obtain ⟨s1, s2⟩ := of_decide_eq_true d4
      obtain ⟨k0, k1, k2, k3, k5, rfl⟩ := six s1 s2
      have mr := of_decide_eq_true d3
      obtain ⟨nm, bs, mro, ns, qn, hdct, sn, sub2, ab, col, hdel⟩ := k
      simp only [Bool.not_eq_true'] at d1 d2 mr
      subst d1 d2 mr
      have cl : PySem.W.clsIn K C = some { name := nm, bases := bs, mro := upVE C W, ns := ns, qualname := qn, hasDict := true, slotNames := sn, subclasses := sub2, abstract := ab, collection := col, hasDel := false } := by
        unfold PySem.W.clsIn
        rw [e]
      have up : PySem.W.mroIn K C (.type "object") = some true := by
        unfold PySem.W.mroIn
        rw [cl]
        show (if (upVE C W).isEmpty = true then none else some ((upVE C W).contains (.type "object"))) = some true
        rw [if_neg (by simp [upVE]), List.contains_iff_mem.mpr (by simp [upVE])]
      exact ⟨⟨⟨nm, qn, ns, bs, [.ref W, .type "ValueError", .type "Exception", .type "BaseException", .type "object"], sn, sub2, ab, col, dd, k0, k1, k2, k3, k5, e, by rfl⟩, F c2, sub, of_decide_eq_true c4, c5⟩, F c6, F c7,
        ⟨F c8, F c9, sub, c10⟩, ⟨F c8, F c9, sub, c10, F c11, hn, ht, up⟩, ⟨_, cl, rfl⟩⟩
    · cases c1
end OQ
namespace OQ
open PySem L2 PySem.Spec PyProof.Rows
theorem ErC.cls {K : PySem.W.Frag} {W f C : Addr} (a : ErC K W f C) : PySem.W.isClsIn K C = true := by
  obtain ⟨cc, e, _⟩ := a.mro
  show (PySem.W.clsIn K C).isSome = true
  rw [e]; rfl
/-- what «except D» says of an error of C -/
theorem exm_is {K : PySem.W.Frag} {C D : Addr} {b : Bool} (h1 : PySem.W.subIn K (.ref D) (.type "BaseException") = some true) (h2 : PySem.W.isClsIn K D = true) (h3 : PySem.W.typeIn K (.ref D) = some (.type "type")) (h : PySem.W.mroIn K C (.ref D) = some b) :
    PySem.W.exmOne K (.ref C) (.ref D) = some b := by
  unfold PySem.W.exmOne
  rw [h1, if_pos (by rfl)]
  have q : ((PySem.W.clsIn K D).isSome && PySem.W.typeIn K (.ref D) == some (.type "type")) = true := by
    rw [show (PySem.W.clsIn K D).isSome = true from h2, h3]; rfl
  unfold PySem.W.kitCls
  exact (if_pos q).trans h
theorem mro_er {K : PySem.W.Frag} {W f C : Addr} (a : ErC K W f C) {D : Addr} (n : D ≠ W) : PySem.W.mroIn K C (.ref D) = some (decide (C = D)) := by
  by_cases h : C = D
  · subst h; rw [mro_has a (by simp), decide_eq_true rfl]
  · obtain ⟨cc, e1, e2⟩ := a.mro
    unfold PySem.W.mroIn
    rw [e1, decide_eq_false h]
    show (if cc.mro.isEmpty = true then none else some (cc.mro.contains (.ref D))) = some false
    rw [e2, if_neg (by simp)]
    refine congrArg some (Bool.eq_false_iff.mpr fun q => ?_)
    have m := List.contains_iff_mem.mp q
    simp only [List.mem_cons, Value.ref.injEq, reduceCtorEq, List.not_mem_nil, or_false] at m
    exact m.elim (fun z => h z.symm) n
theorem exm_er {K : PySem.W.Frag} {W f g C D : Addr} (a : ErC K W f C) (b : ErC K W g D) (n : D ≠ W) : PySem.W.exmOne K (.ref C) (.ref D) = some (decide (C = D)) := exm_is b.oex.exC b.cls b.oex.tyC (mro_er a n)
theorem exm_eW {K : PySem.W.Frag} {W f C : Addr} (a : ErC K W f C) (h1 : PySem.W.subIn K (.ref W) (.type "BaseException") = some true) (h2 : PySem.W.isClsIn K W = true) (h3 : PySem.W.typeIn K (.ref W) = some (.type "type")) :
    PySem.W.exmOne K (.ref C) (.ref W) = some true := exm_is h1 h2 h3 (mro_has a (by simp))
end OQ

/-! ### the head by one run: facts by names, and one more look -/
namespace OQ
open PySem L2 PySem.Spec PyProof.Rows
/-- what of the heap is looked at: what the module's names reach, and the host's own names -/
def frB (n : Nat) (g : Addr → Option Obj) : PySem.W.Frag := He.frG g (cStatics :: He.asD g n)
def hookB (n : Nat) (fa : List He.Fa) (fn : List He.DefD) (ex : PySem.W.Frag → Bool) : PySem.W.Hook where
  α := He.AlD × Bool
  obs := fun s => (He.obsD fa fn (frB n s.heap.get?), ex (frB n s.heap.get?))
  val := fun _ => (He.valD fn, true)
  says := fun _ h => ∃ K : PySem.W.Frag, K.In h ∧ He.SaysD fa fn K ∧ ex K = true
  of := fun _ _ e => ⟨_, He.frG_in, congrArg Prod.fst e, congrArg Prod.snd e⟩
  keeps := fun _ _ _ ⟨K, hK, c, x⟩ k => ⟨K, PySem.W.Frag.In.keeps hK k, c, x⟩
def obB (n : Nat) (fa : List He.Fa) (fn : List He.DefD) (ex : PySem.W.Frag → Bool) (s : PySem.W.SharedT) : He.AlD × Bool :=
  (He.obsD fa fn (frB n (HandSHeadRun.getT s)), ex (frB n (HandSHeadRun.getT s)))
theorem obB_eq (n : Nat) (fa : List He.Fa) (fn : List He.DefD) (ex : PySem.W.Frag → Bool) (s : PySem.W.SharedT) : obB n fa fn ex s = (hookB n fa fn ex).obs s.abs := by
  have e : HandSHeadRun.getT s = s.abs.heap.get? := funext (HandSHeadRun.getT_eq s)
  unfold obB
  rw [e]
  rfl
theorem fun_of {K : PySem.W.Frag} {x q : Str} {st : Stmt} {f : Addr} {fd : FuncData} (F : FunD K x q (defArgs st) (defBody st) (defScope st) [] [] f fd) : Fun K x q st f fd := by
  obtain ⟨oc, od, dV, kV, doc, pm, an, cd, ct, sl, e, look, code, df, _⟩ := F.ex
  rcases df with ⟨_, rfl⟩ | ⟨no, _⟩
  · exact ⟨⟨oc, od, kV, doc, pm, an, cd, ct, sl, e, look, code⟩, F.kp⟩
  · exact absurd rfl no
/-- v as an option's option -/
def isB (a : Option (Option Value)) (v : Option Value) : Bool := decide (a = some v)
theorem isB_ok {a : Option (Option Value)} {v : Option Value} (h : isB a v = true) : a = some v := of_decide_eq_true h
end OQ

open RD in
local macro_rules | `(tactic| walk_at "rd1") => `(tactic| with_reducible first
  | refine d_seq ?_ | refine d_asg ?_ | refine d_op ?_ | refine d_c ?_ | refine d_gname ?_ | refine d_ifS ?_ | refine d_test ?_ | refine d_bl ?_ | refine d_ret ?_ | refine d_next ?_ | refine d_drop ?_
  | refine d_and ?_ | refine d_or ?_ | refine d_not ?_ | refine d_andV ?_ | refine d_orV ?_ | refine d_notV ?_ | refine d_if ?_ | refine d_tB ?_
  | refine d_rI0 ?_ | refine d_rU ?_ | refine d_eqI ?_ | refine d_neI ?_ | refine d_eqS ?_ | refine d_neS ?_ | refine d_eqB ?_ | refine d_isN ?_ | refine d_notN ?_ | refine d_intB ?_ | refine d_un ?_ | refine d_cb ?_ | refine d_cons ?_ | refine d_nil ?_ | refine d_lst ?_ | refine d_tup ?_ | refine d_call ?_
  | refine d_iList ?_ | refine d_rng1 ?_ | refine d_lc ?_ | refine d_yes ?_ | refine d_iteT ?_ | refine d_iteF ?_ | refine d_sl ?_ | refine d_noPart ?_ | refine d_part ?_ | refine d_exI ?_ | refine d_fld ?_ | refine d_iteNF ?_ | refine d_iteNT ?_ | refine d_gcd ?_ | refine d_sfld ?_ | refine d_for ?_ | refine OQ.d_makeS ?_ | refine OQ.d_make ?_ | refine OQ.d_methS ?_ | refine OQ.d_meth ?_ | refine d_gsub ?_ | refine d_par ?_ | refine d_int ?_ | refine d_abs ?_)
local macro_rules | `(tactic| walk_at "rdH") => `(tactic| first | assumption | exact L2.upd_same | (simp only [L2.upd_same, L2.upd_ne, ne_eq, not_false_eq_true, *]; done))
local macro_rules | `(tactic| walk_at "rdC") => `(tactic| first | assumption | (refine Or.inr ⟨?_, ?_⟩ <;> first | decide | omega) | (refine Or.inl ⟨?_, ?_⟩ <;> first | decide | omega) | (show (0 : Int) < _; first | assumption | decide | omega) | exact ⟨by decide, by decide +kernel⟩ | exact ⟨by decide, by decide, by decide +kernel⟩ | exact ⟨by assumption, by assumption⟩)
local macro_rules | `(tactic| walk_at "rd2") => `(tactic| first
  | refine RD.d_var rfl ?_
  | ((with_reducible (refine' RD.d_ixL ?hs ?e ?k)); (case hs => exact L2.SqL.of (by walk_at "rdH")); (case e => rfl))
  | ((with_reducible (refine' RD.d_ixT ?hs ?e ?k)); (case hs => exact L2.SqT.of (by walk_at "rdH")); (case e => rfl))
  | ((with_reducible (refine' RD.d_lenL ?hs ?k)); (case hs => exact L2.SqL.of (by walk_at "rdH")))
  | ((with_reducible (refine' RD.d_wipe ?e ?k)); (case e => rfl))
  | ((with_reducible (refine' RD.d_refL ?hs ?k)); (case hs => exact L2.SqL.of (by walk_at "rdH")))
  | ((with_reducible (refine' RD.d_lenT ?hs ?k)); (case hs => exact L2.SqT.of (by walk_at "rdH")))
  | ((with_reducible (refine' RD.d_lenS ?hs ?k)); (case hs => first | assumption | omega))
  | ((with_reducible (refine' RD.d_rI ?c ?k)); (case c => walk_at "rdC"))
  | ((with_reducible (refine' RD.d_setL ?hs ?e ?k)); (case hs => walk_at "rdH"); (case e => rfl)))
local macro_rules | `(tactic| walk_at "rd") => `(tactic| repeat (first | walk_at "rd1" | walk_at "rd2"))

/-! ### a walk that knows what is None -/
namespace OQ
open PySem L2
theorem nonNon : decide (V.non = V.non) = true := rfl
theorem intNon {i : Int} : decide (V.int i = V.non) = false := rfl
theorem blNon {i : Bool} : decide (V.bl i = V.non) = false := rfl
end OQ

local macro_rules | `(tactic| walk_at "wz") => `(tactic| ((try walk_at "rd"); repeat ((first | rw [OQ.nonNon] | rw [OQ.intNon] | rw [OQ.blNon]); (try walk_at "rd"))))

namespace Toy
open PySem L2
def top (i : Nat) : Stmt := PySem.Challenge.pw_watchedways_k29_whole_lengths.main.body.getD i (.Pass ⟨0, 0, 0, 0⟩)
abbrev s_WayError__init : Stmt := inClass (top 6) 0
theorem sc_WayError__init : FnScope ["self", "value"] ["self", "value"] (defScope s_WayError__init) := ⟨rfl, rfl, rfl, by decide +kernel, rfl, by decide +kernel, by decide +kernel⟩
abbrev s_is_integer : Stmt := top 3
theorem sc_is_integer : FnScope ["thing"] ["thing"] (defScope s_is_integer) := ⟨rfl, rfl, rfl, by decide +kernel, rfl, by decide +kernel, by decide +kernel⟩
abbrev s_is_row : Stmt := top 4
theorem sc_is_row : FnScope ["thing"] ["thing"] (defScope s_is_row) := ⟨rfl, rfl, rfl, by decide +kernel, rfl, by decide +kernel, by decide +kernel⟩
abbrev s_check_worths : Stmt := top 12
theorem sc_check_worths : FnScope ["reckoning", "first", "second", "thing"] ["reckoning", "first", "second"] (defScope s_check_worths) := ⟨rfl, rfl, rfl, by decide +kernel, rfl, by decide +kernel, by decide +kernel⟩
abbrev s_Lengths__init : Stmt := inClass (top 14) 0
theorem sc_Lengths__init : FnScope ["self"] ["self"] (defScope s_Lengths__init) := ⟨rfl, rfl, rfl, by decide +kernel, rfl, by decide +kernel, by decide +kernel⟩
abbrev s_Lengths__eq : Stmt := inClass (top 14) 1
theorem sc_Lengths__eq : FnScope ["self", "other"] ["self", "other"] (defScope s_Lengths__eq) := ⟨rfl, rfl, rfl, by decide +kernel, rfl, by decide +kernel, by decide +kernel⟩
abbrev s_Lengths_is_worth : Stmt := inClass (top 14) 2
theorem sc_Lengths_is_worth : FnScope ["self", "thing"] ["self", "thing"] (defScope s_Lengths_is_worth) := ⟨rfl, rfl, rfl, by decide +kernel, rfl, by decide +kernel, by decide +kernel⟩
abbrev s_Lengths_beneath : Stmt := inClass (top 14) 3
theorem sc_Lengths_beneath : FnScope ["self", "a", "b"] ["self", "a", "b"] (defScope s_Lengths_beneath) := ⟨rfl, rfl, rfl, by decide +kernel, rfl, by decide +kernel, by decide +kernel⟩
abbrev s_Lengths_join : Stmt := inClass (top 14) 4
theorem sc_Lengths_join : FnScope ["self", "a", "b"] ["self", "a", "b"] (defScope s_Lengths_join) := ⟨rfl, rfl, rfl, by decide +kernel, rfl, by decide +kernel, by decide +kernel⟩
abbrev s_Lengths_times : Stmt := inClass (top 14) 5
theorem sc_Lengths_times : FnScope ["self", "a", "b"] ["self", "a", "b"] (defScope s_Lengths_times) := ⟨rfl, rfl, rfl, by decide +kernel, rfl, by decide +kernel, by decide +kernel⟩
abbrev s_Lengths_meet : Stmt := inClass (top 14) 6
theorem sc_Lengths_meet : FnScope ["self", "a", "b"] ["self", "a", "b"] (defScope s_Lengths_meet) := ⟨rfl, rfl, rfl, by decide +kernel, rfl, by decide +kernel, by decide +kernel⟩
abbrev s_Lengths_greatest : Stmt := inClass (top 14) 7
theorem sc_Lengths_greatest : FnScope ["self"] ["self"] (defScope s_Lengths_greatest) := ⟨rfl, rfl, rfl, by decide +kernel, rfl, by decide +kernel, by decide +kernel⟩
abbrev s_Lengths_left : Stmt := inClass (top 14) 8
theorem sc_Lengths_left : FnScope ["self", "a", "c"] ["self", "a", "c"] (defScope s_Lengths_left) := ⟨rfl, rfl, rfl, by decide +kernel, rfl, by decide +kernel, by decide +kernel⟩
abbrev s_Lengths_right : Stmt := inClass (top 14) 9
theorem sc_Lengths_right : FnScope ["self", "c", "a"] ["self", "c", "a"] (defScope s_Lengths_right) := ⟨rfl, rfl, rfl, by decide +kernel, rfl, by decide +kernel, by decide +kernel⟩
abbrev s_longer : Stmt := top 15
theorem sc_longer : FnScope ["one", "other"] ["one", "other"] (defScope s_longer) := ⟨rfl, rfl, rfl, by decide +kernel, rfl, by decide +kernel, by decide +kernel⟩
abbrev s_missing : Stmt := top 16
theorem sc_missing : FnScope ["length", "wanted"] ["length", "wanted"] (defScope s_missing) := ⟨rfl, rfl, rfl, by decide +kernel, rfl, by decide +kernel, by decide +kernel⟩
abbrev s_first_fault : Stmt := top 20
theorem sc_first_fault : FnScope ["joins", "products", "none", "one"] ["joins", "products", "none", "one"] (defScope s_first_fault) := ⟨rfl, rfl, rfl, by decide +kernel, rfl, by decide +kernel, by decide +kernel⟩
abbrev s_size_fault : Stmt := top 21
theorem sc_size_fault : FnScope ["joins", "products", "none", "one", "many"] ["joins", "products", "none", "one"] (defScope s_size_fault) := ⟨rfl, rfl, rfl, by decide +kernel, rfl, by decide +kernel, by decide +kernel⟩
abbrev s_is_square : Stmt := top 22
theorem sc_is_square : FnScope ["many", "thing", "row"] ["many", "thing"] (defScope s_is_square) := ⟨rfl, rfl, rfl, by decide +kernel, rfl, by decide +kernel, by decide +kernel⟩
abbrev s_is_side : Stmt := top 23
theorem sc_is_side : FnScope ["many", "thing", "item"] ["many", "thing"] (defScope s_is_side) := ⟨rfl, rfl, rfl, by decide +kernel, rfl, by decide +kernel, by decide +kernel⟩
abbrev s_is_below : Stmt := top 24
theorem sc_is_below : FnScope ["many", "thing"] ["many", "thing"] (defScope s_is_below) := ⟨rfl, rfl, rfl, by decide +kernel, rfl, by decide +kernel, by decide +kernel⟩
abbrev s_none_fault : Stmt := top 25
theorem sc_none_fault : FnScope ["joins", "products", "none", "a"] ["joins", "products", "none"] (defScope s_none_fault) := ⟨rfl, rfl, rfl, by decide +kernel, rfl, by decide +kernel, by decide +kernel⟩
abbrev s_one_fault : Stmt := top 26
theorem sc_one_fault : FnScope ["products", "one", "a"] ["products", "one"] (defScope s_one_fault) := ⟨rfl, rfl, rfl, by decide +kernel, rfl, by decide +kernel, by decide +kernel⟩
abbrev s_idle_fault : Stmt := top 27
theorem sc_idle_fault : FnScope ["joins", "a"] ["joins"] (defScope s_idle_fault) := ⟨rfl, rfl, rfl, by decide +kernel, rfl, by decide +kernel, by decide +kernel⟩
abbrev s_swap_fault : Stmt := top 28
theorem sc_swap_fault : FnScope ["joins", "a", "b"] ["joins"] (defScope s_swap_fault) := ⟨rfl, rfl, rfl, by decide +kernel, rfl, by decide +kernel, by decide +kernel⟩
abbrev s_grouping_fault : Stmt := top 29
theorem sc_grouping_fault : FnScope ["word", "table", "worths", "a", "b", "c"] ["word", "table"] (defScope s_grouping_fault) := ⟨rfl, rfl, rfl, by decide +kernel, rfl, by decide +kernel, by decide +kernel⟩
abbrev s_over_fault : Stmt := top 30
theorem sc_over_fault : FnScope ["joins", "products", "worths", "a", "b", "c", "joined"] ["joins", "products"] (defScope s_over_fault) := ⟨rfl, rfl, rfl, by decide +kernel, rfl, by decide +kernel, by decide +kernel⟩
abbrev s_same_fault : Stmt := top 31
theorem sc_same_fault : FnScope ["none", "one"] ["none", "one"] (defScope s_same_fault) := ⟨rfl, rfl, rfl, by decide +kernel, rfl, by decide +kernel, by decide +kernel⟩
abbrev s_Reckoning__init : Stmt := inClass (top 33) 0
theorem sc_Reckoning__init : FnScope ["self", "joins", "products", "none", "one", "fault", "row", "worths", "a", "b", "c"] ["self", "joins", "products", "none", "one"] (defScope s_Reckoning__init) := ⟨rfl, rfl, rfl, by decide +kernel, rfl, by decide +kernel, by decide +kernel⟩
abbrev s_Reckoning__eq : Stmt := inClass (top 33) 1
theorem sc_Reckoning__eq : FnScope ["self", "other"] ["self", "other"] (defScope s_Reckoning__eq) := ⟨rfl, rfl, rfl, by decide +kernel, rfl, by decide +kernel, by decide +kernel⟩
abbrev s_Reckoning_joined : Stmt := inClass (top 33) 10
theorem sc_Reckoning_joined : FnScope ["self", "worths", "found", "worth"] ["self", "worths"] (defScope s_Reckoning_joined) := ⟨rfl, rfl, rfl, by decide +kernel, rfl, by decide +kernel, by decide +kernel⟩
abbrev s_Reckoning_meet : Stmt := inClass (top 33) 11
theorem sc_Reckoning_meet : FnScope ["self", "a", "b", "below", "worth"] ["self", "a", "b"] (defScope s_Reckoning_meet) := ⟨rfl, rfl, rfl, by decide +kernel, rfl, by decide +kernel, by decide +kernel⟩
abbrev s_Reckoning_left : Stmt := inClass (top 33) 12
theorem sc_Reckoning_left : FnScope ["self", "a", "c", "row", "b"] ["self", "a", "c"] (defScope s_Reckoning_left) := ⟨rfl, rfl, rfl, by decide +kernel, rfl, by decide +kernel, by decide +kernel⟩
abbrev s_Reckoning_right : Stmt := inClass (top 33) 13
theorem sc_Reckoning_right : FnScope ["self", "c", "a", "column", "row", "b"] ["self", "c", "a"] (defScope s_Reckoning_right) := ⟨rfl, rfl, rfl, by decide +kernel, rfl, by decide +kernel, by decide +kernel⟩
abbrev s_yes_no : Stmt := top 36
theorem sc_yes_no : FnScope [] [] (defScope s_yes_no) := ⟨rfl, rfl, rfl, by decide +kernel, rfl, by decide +kernel, by decide +kernel⟩
abbrev s_widths : Stmt := top 37
theorem sc_widths : FnScope ["most", "worths", "a", "b"] ["most"] (defScope s_widths) := ⟨rfl, rfl, rfl, by decide +kernel, rfl, by decide +kernel, by decide +kernel⟩
abbrev s_greater_ones : Stmt := top 38
theorem sc_greater_ones : FnScope ["size", "a", "b"] ["size"] (defScope s_greater_ones) := ⟨rfl, rfl, rfl, by decide +kernel, rfl, by decide +kernel, by decide +kernel⟩
abbrev s_Ratio__init : Stmt := inClass (top 40) 0
theorem sc_Ratio__init : FnScope ["self", "top", "bottom", "shared"] ["self", "top", "bottom"] (defScope s_Ratio__init) := ⟨rfl, rfl, rfl, by decide +kernel, rfl, by decide +kernel, by decide +kernel⟩
abbrev s_Numbers__init : Stmt := inClass (top 46) 0
theorem sc_Numbers__init : FnScope ["self"] ["self"] (defScope s_Numbers__init) := ⟨rfl, rfl, rfl, by decide +kernel, rfl, by decide +kernel, by decide +kernel⟩
abbrev s_Numbers__eq : Stmt := inClass (top 46) 1
theorem sc_Numbers__eq : FnScope ["self", "other"] ["self", "other"] (defScope s_Numbers__eq) := ⟨rfl, rfl, rfl, by decide +kernel, rfl, by decide +kernel, by decide +kernel⟩
abbrev s_law_hand : Stmt := top 48
theorem sc_law_hand : FnScope ["script", "cells", "cell"] ["script"] (defScope s_law_hand) := ⟨rfl, rfl, rfl, by decide +kernel, rfl, by decide +kernel, by decide +kernel⟩
abbrev s_law_draw : Stmt := top 49
theorem sc_law_draw : FnScope ["hand", "many", "cell", "digit", "number"] ["hand", "many"] (defScope s_law_draw) := ⟨rfl, rfl, rfl, by decide +kernel, rfl, by decide +kernel, by decide +kernel⟩
abbrev s_law_length : Stmt := top 50
theorem sc_law_length : FnScope ["hand", "far"] ["hand"] (defScope s_law_length) := ⟨rfl, rfl, rfl, by decide +kernel, rfl, by decide +kernel, by decide +kernel⟩
abbrev s_law_shorter : Stmt := top 51
theorem sc_law_shorter : FnScope ["a", "b"] ["a", "b"] (defScope s_law_shorter) := ⟨rfl, rfl, rfl, by decide +kernel, rfl, by decide +kernel, by decide +kernel⟩
abbrev s_law_join : Stmt := top 52
theorem sc_law_join : FnScope ["a", "b"] ["a", "b"] (defScope s_law_join) := ⟨rfl, rfl, rfl, by decide +kernel, rfl, by decide +kernel, by decide +kernel⟩
abbrev s_law_meet : Stmt := top 53
theorem sc_law_meet : FnScope ["a", "b"] ["a", "b"] (defScope s_law_meet) := ⟨rfl, rfl, rfl, by decide +kernel, rfl, by decide +kernel, by decide +kernel⟩
abbrev s_law_times : Stmt := top 54
theorem sc_law_times : FnScope ["a", "b"] ["a", "b"] (defScope s_law_times) := ⟨rfl, rfl, rfl, by decide +kernel, rfl, by decide +kernel, by decide +kernel⟩
abbrev s_law_is : Stmt := top 55
theorem sc_law_is : FnScope ["told", "due"] ["told", "due"] (defScope s_law_is) := ⟨rfl, rfl, rfl, by decide +kernel, rfl, by decide +kernel, by decide +kernel⟩
abbrev s_law_leaving_right : Stmt := top 56
theorem sc_law_leaving_right : FnScope ["told", "a", "c"] ["told", "a", "c"] (defScope s_law_leaving_right) := ⟨rfl, rfl, rfl, by decide +kernel, rfl, by decide +kernel, by decide +kernel⟩
abbrev s_law : Stmt := top 57
theorem sc_law : FnScope ["script", "hand", "lengths", "turn", "a", "b", "c", "whole", "one", "thing"] ["script"] (defScope s_law) := ⟨rfl, rfl, rfl, by decide +kernel, rfl, by decide +kernel, by decide +kernel⟩
structure Top (K : PySem.W.Frag) (mg : Str → Option Value) where
  C_Ratio : Addr
  cl_Ratio : Cls K C_Ratio
  g_Ratio : mg "Ratio" = some (.ref C_Ratio)
  na_Ratio_top : NoAttr K C_Ratio "top"
  na_Ratio_bottom : NoAttr K C_Ratio "bottom"
  C_Numbers : Addr
  cl_Numbers : Cls K C_Numbers
  g_Numbers : mg "Numbers" = some (.ref C_Numbers)
  na_Numbers_none : NoAttr K C_Numbers "none"
  na_Numbers_one : NoAttr K C_Numbers "one"
  C_Lengths : Addr
  cl_Lengths : Cls K C_Lengths
  g_Lengths : mg "Lengths" = some (.ref C_Lengths)
  na_Lengths_none : NoAttr K C_Lengths "none"
  na_Lengths_one : NoAttr K C_Lengths "one"
  C_Reckoning : Addr
  cl_Reckoning : Cls K C_Reckoning
  g_Reckoning : mg "Reckoning" = some (.ref C_Reckoning)
  na_Reckoning_joins : NoAttr K C_Reckoning "joins"
  na_Reckoning_products : NoAttr K C_Reckoning "products"
  na_Reckoning_none : NoAttr K C_Reckoning "none"
  na_Reckoning_one : NoAttr K C_Reckoning "one"
  na_Reckoning__meets : NoAttr K C_Reckoning "_meets"
  na_Reckoning__lefts : NoAttr K C_Reckoning "_lefts"
  na_Reckoning__rights : NoAttr K C_Reckoning "_rights"
  f_WayError__init : Addr
  fd_WayError__init : FuncData
  F_WayError__init : Fun K "__init__" "WayError.__init__" s_WayError__init f_WayError__init fd_WayError__init
  b_WayError__init : Binds K fd_WayError__init ["self", "value"] []
  f_is_integer : Addr
  fd_is_integer : FuncData
  F_is_integer : Fun K "is_integer" "is_integer" s_is_integer f_is_integer fd_is_integer
  b_is_integer : Binds K fd_is_integer ["thing"] []
  g_is_integer : mg "is_integer" = some (.ref f_is_integer)
  f_is_row : Addr
  fd_is_row : FuncData
  F_is_row : Fun K "is_row" "is_row" s_is_row f_is_row fd_is_row
  b_is_row : Binds K fd_is_row ["thing"] []
  g_is_row : mg "is_row" = some (.ref f_is_row)
  f_check_worths : Addr
  fd_check_worths : FuncData
  F_check_worths : Fun K "check_worths" "check_worths" s_check_worths f_check_worths fd_check_worths
  b_check_worths : Binds K fd_check_worths ["reckoning", "first", "second"] []
  g_check_worths : mg "check_worths" = some (.ref f_check_worths)
  f_Lengths__init : Addr
  fd_Lengths__init : FuncData
  F_Lengths__init : Fun K "__init__" "Lengths.__init__" s_Lengths__init f_Lengths__init fd_Lengths__init
  b_Lengths__init : Binds K fd_Lengths__init ["self"] []
  M_Lengths : Mk K C_Lengths f_Lengths__init
  f_Lengths__eq : Addr
  fd_Lengths__eq : FuncData
  F_Lengths__eq : Fun K "__eq__" "Lengths.__eq__" s_Lengths__eq f_Lengths__eq fd_Lengths__eq
  b_Lengths__eq : Binds K fd_Lengths__eq ["self", "other"] []
  m_Lengths__eq : Meth K C_Lengths "__eq__" f_Lengths__eq
  f_Lengths_is_worth : Addr
  fd_Lengths_is_worth : FuncData
  F_Lengths_is_worth : Fun K "is_worth" "Lengths.is_worth" s_Lengths_is_worth f_Lengths_is_worth fd_Lengths_is_worth
  b_Lengths_is_worth : Binds K fd_Lengths_is_worth ["self", "thing"] []
  m_Lengths_is_worth : Meth K C_Lengths "is_worth" f_Lengths_is_worth
  f_Lengths_beneath : Addr
  fd_Lengths_beneath : FuncData
  F_Lengths_beneath : Fun K "beneath" "Lengths.beneath" s_Lengths_beneath f_Lengths_beneath fd_Lengths_beneath
  b_Lengths_beneath : Binds K fd_Lengths_beneath ["self", "a", "b"] []
  m_Lengths_beneath : Meth K C_Lengths "beneath" f_Lengths_beneath
  f_Lengths_join : Addr
  fd_Lengths_join : FuncData
  F_Lengths_join : Fun K "join" "Lengths.join" s_Lengths_join f_Lengths_join fd_Lengths_join
  b_Lengths_join : Binds K fd_Lengths_join ["self", "a", "b"] []
  m_Lengths_join : Meth K C_Lengths "join" f_Lengths_join
  f_Lengths_times : Addr
  fd_Lengths_times : FuncData
  F_Lengths_times : Fun K "times" "Lengths.times" s_Lengths_times f_Lengths_times fd_Lengths_times
  b_Lengths_times : Binds K fd_Lengths_times ["self", "a", "b"] []
  m_Lengths_times : Meth K C_Lengths "times" f_Lengths_times
  f_Lengths_meet : Addr
  fd_Lengths_meet : FuncData
  F_Lengths_meet : Fun K "meet" "Lengths.meet" s_Lengths_meet f_Lengths_meet fd_Lengths_meet
  b_Lengths_meet : Binds K fd_Lengths_meet ["self", "a", "b"] []
  m_Lengths_meet : Meth K C_Lengths "meet" f_Lengths_meet
  f_Lengths_greatest : Addr
  fd_Lengths_greatest : FuncData
  F_Lengths_greatest : Fun K "greatest" "Lengths.greatest" s_Lengths_greatest f_Lengths_greatest fd_Lengths_greatest
  b_Lengths_greatest : Binds K fd_Lengths_greatest ["self"] []
  m_Lengths_greatest : Meth K C_Lengths "greatest" f_Lengths_greatest
  f_Lengths_left : Addr
  fd_Lengths_left : FuncData
  F_Lengths_left : Fun K "left" "Lengths.left" s_Lengths_left f_Lengths_left fd_Lengths_left
  b_Lengths_left : Binds K fd_Lengths_left ["self", "a", "c"] []
  m_Lengths_left : Meth K C_Lengths "left" f_Lengths_left
  f_Lengths_right : Addr
  fd_Lengths_right : FuncData
  F_Lengths_right : Fun K "right" "Lengths.right" s_Lengths_right f_Lengths_right fd_Lengths_right
  b_Lengths_right : Binds K fd_Lengths_right ["self", "c", "a"] []
  m_Lengths_right : Meth K C_Lengths "right" f_Lengths_right
  f_longer : Addr
  fd_longer : FuncData
  F_longer : Fun K "longer" "longer" s_longer f_longer fd_longer
  b_longer : Binds K fd_longer ["one", "other"] []
  g_longer : mg "longer" = some (.ref f_longer)
  f_missing : Addr
  fd_missing : FuncData
  F_missing : Fun K "missing" "missing" s_missing f_missing fd_missing
  b_missing : Binds K fd_missing ["length", "wanted"] []
  g_missing : mg "missing" = some (.ref f_missing)
  f_first_fault : Addr
  fd_first_fault : FuncData
  F_first_fault : Fun K "first_fault" "first_fault" s_first_fault f_first_fault fd_first_fault
  b_first_fault : Binds K fd_first_fault ["joins", "products", "none", "one"] []
  g_first_fault : mg "first_fault" = some (.ref f_first_fault)
  f_size_fault : Addr
  fd_size_fault : FuncData
  F_size_fault : Fun K "size_fault" "size_fault" s_size_fault f_size_fault fd_size_fault
  b_size_fault : Binds K fd_size_fault ["joins", "products", "none", "one"] []
  g_size_fault : mg "size_fault" = some (.ref f_size_fault)
  f_is_square : Addr
  fd_is_square : FuncData
  F_is_square : Fun K "is_square" "is_square" s_is_square f_is_square fd_is_square
  b_is_square : Binds K fd_is_square ["many", "thing"] []
  g_is_square : mg "is_square" = some (.ref f_is_square)
  f_is_side : Addr
  fd_is_side : FuncData
  F_is_side : Fun K "is_side" "is_side" s_is_side f_is_side fd_is_side
  b_is_side : Binds K fd_is_side ["many", "thing"] []
  g_is_side : mg "is_side" = some (.ref f_is_side)
  f_is_below : Addr
  fd_is_below : FuncData
  F_is_below : Fun K "is_below" "is_below" s_is_below f_is_below fd_is_below
  b_is_below : Binds K fd_is_below ["many", "thing"] []
  g_is_below : mg "is_below" = some (.ref f_is_below)
  f_none_fault : Addr
  fd_none_fault : FuncData
  F_none_fault : Fun K "none_fault" "none_fault" s_none_fault f_none_fault fd_none_fault
  b_none_fault : Binds K fd_none_fault ["joins", "products", "none"] []
  g_none_fault : mg "none_fault" = some (.ref f_none_fault)
  f_one_fault : Addr
  fd_one_fault : FuncData
  F_one_fault : Fun K "one_fault" "one_fault" s_one_fault f_one_fault fd_one_fault
  b_one_fault : Binds K fd_one_fault ["products", "one"] []
  g_one_fault : mg "one_fault" = some (.ref f_one_fault)
  f_idle_fault : Addr
  fd_idle_fault : FuncData
  F_idle_fault : Fun K "idle_fault" "idle_fault" s_idle_fault f_idle_fault fd_idle_fault
  b_idle_fault : Binds K fd_idle_fault ["joins"] []
  g_idle_fault : mg "idle_fault" = some (.ref f_idle_fault)
  f_swap_fault : Addr
  fd_swap_fault : FuncData
  F_swap_fault : Fun K "swap_fault" "swap_fault" s_swap_fault f_swap_fault fd_swap_fault
  b_swap_fault : Binds K fd_swap_fault ["joins"] []
  g_swap_fault : mg "swap_fault" = some (.ref f_swap_fault)
  f_grouping_fault : Addr
  fd_grouping_fault : FuncData
  F_grouping_fault : Fun K "grouping_fault" "grouping_fault" s_grouping_fault f_grouping_fault fd_grouping_fault
  b_grouping_fault : Binds K fd_grouping_fault ["word", "table"] []
  g_grouping_fault : mg "grouping_fault" = some (.ref f_grouping_fault)
  f_over_fault : Addr
  fd_over_fault : FuncData
  F_over_fault : Fun K "over_fault" "over_fault" s_over_fault f_over_fault fd_over_fault
  b_over_fault : Binds K fd_over_fault ["joins", "products"] []
  g_over_fault : mg "over_fault" = some (.ref f_over_fault)
  f_same_fault : Addr
  fd_same_fault : FuncData
  F_same_fault : Fun K "same_fault" "same_fault" s_same_fault f_same_fault fd_same_fault
  b_same_fault : Binds K fd_same_fault ["none", "one"] []
  g_same_fault : mg "same_fault" = some (.ref f_same_fault)
  f_Reckoning__init : Addr
  fd_Reckoning__init : FuncData
  F_Reckoning__init : Fun K "__init__" "Reckoning.__init__" s_Reckoning__init f_Reckoning__init fd_Reckoning__init
  b_Reckoning__init : Binds K fd_Reckoning__init ["self", "joins", "products", "none", "one"] []
  M_Reckoning : Mk K C_Reckoning f_Reckoning__init
  f_Reckoning__eq : Addr
  fd_Reckoning__eq : FuncData
  F_Reckoning__eq : Fun K "__eq__" "Reckoning.__eq__" s_Reckoning__eq f_Reckoning__eq fd_Reckoning__eq
  b_Reckoning__eq : Binds K fd_Reckoning__eq ["self", "other"] []
  m_Reckoning__eq : Meth K C_Reckoning "__eq__" f_Reckoning__eq
  f_Reckoning_joined : Addr
  fd_Reckoning_joined : FuncData
  F_Reckoning_joined : Fun K "_joined" "Reckoning._joined" s_Reckoning_joined f_Reckoning_joined fd_Reckoning_joined
  b_Reckoning_joined : Binds K fd_Reckoning_joined ["self", "worths"] []
  m_Reckoning_joined : Meth K C_Reckoning "_joined" f_Reckoning_joined
  f_Reckoning_meet : Addr
  fd_Reckoning_meet : FuncData
  F_Reckoning_meet : Fun K "_meet" "Reckoning._meet" s_Reckoning_meet f_Reckoning_meet fd_Reckoning_meet
  b_Reckoning_meet : Binds K fd_Reckoning_meet ["self", "a", "b"] []
  m_Reckoning_meet : Meth K C_Reckoning "_meet" f_Reckoning_meet
  f_Reckoning_left : Addr
  fd_Reckoning_left : FuncData
  F_Reckoning_left : Fun K "_left" "Reckoning._left" s_Reckoning_left f_Reckoning_left fd_Reckoning_left
  b_Reckoning_left : Binds K fd_Reckoning_left ["self", "a", "c"] []
  m_Reckoning_left : Meth K C_Reckoning "_left" f_Reckoning_left
  f_Reckoning_right : Addr
  fd_Reckoning_right : FuncData
  F_Reckoning_right : Fun K "_right" "Reckoning._right" s_Reckoning_right f_Reckoning_right fd_Reckoning_right
  b_Reckoning_right : Binds K fd_Reckoning_right ["self", "c", "a"] []
  m_Reckoning_right : Meth K C_Reckoning "_right" f_Reckoning_right
  f_yes_no : Addr
  fd_yes_no : FuncData
  F_yes_no : Fun K "yes_no" "yes_no" s_yes_no f_yes_no fd_yes_no
  b_yes_no : Binds K fd_yes_no [] []
  g_yes_no : mg "yes_no" = some (.ref f_yes_no)
  f_widths : Addr
  fd_widths : FuncData
  F_widths : Fun K "widths" "widths" s_widths f_widths fd_widths
  b_widths : Binds K fd_widths ["most"] []
  g_widths : mg "widths" = some (.ref f_widths)
  f_greater_ones : Addr
  fd_greater_ones : FuncData
  F_greater_ones : Fun K "greater_ones" "greater_ones" s_greater_ones f_greater_ones fd_greater_ones
  b_greater_ones : Binds K fd_greater_ones ["size"] []
  g_greater_ones : mg "greater_ones" = some (.ref f_greater_ones)
  f_Ratio__init : Addr
  fd_Ratio__init : FuncData
  F_Ratio__init : FunD K "__init__" "Ratio.__init__" (defArgs s_Ratio__init) (defBody s_Ratio__init) (defScope s_Ratio__init) [V.int 1] [] f_Ratio__init fd_Ratio__init
  b1_Ratio__init : ∃ ds, Vals [V.int 1] ds ∧ Binds K fd_Ratio__init ["self", "top", "bottom"] ds
  b_Ratio__init : Binds K fd_Ratio__init ["self", "top", "bottom"] []
  M_Ratio : Mk K C_Ratio f_Ratio__init
  f_Numbers__init : Addr
  fd_Numbers__init : FuncData
  F_Numbers__init : Fun K "__init__" "Numbers.__init__" s_Numbers__init f_Numbers__init fd_Numbers__init
  b_Numbers__init : Binds K fd_Numbers__init ["self"] []
  M_Numbers : Mk K C_Numbers f_Numbers__init
  f_Numbers__eq : Addr
  fd_Numbers__eq : FuncData
  F_Numbers__eq : Fun K "__eq__" "Numbers.__eq__" s_Numbers__eq f_Numbers__eq fd_Numbers__eq
  b_Numbers__eq : Binds K fd_Numbers__eq ["self", "other"] []
  m_Numbers__eq : Meth K C_Numbers "__eq__" f_Numbers__eq
  f_law_hand : Addr
  fd_law_hand : FuncData
  F_law_hand : Fun K "_law_hand" "_law_hand" s_law_hand f_law_hand fd_law_hand
  b_law_hand : Binds K fd_law_hand ["script"] []
  g_law_hand : mg "_law_hand" = some (.ref f_law_hand)
  f_law_draw : Addr
  fd_law_draw : FuncData
  F_law_draw : Fun K "_law_draw" "_law_draw" s_law_draw f_law_draw fd_law_draw
  b_law_draw : Binds K fd_law_draw ["hand", "many"] []
  g_law_draw : mg "_law_draw" = some (.ref f_law_draw)
  f_law_length : Addr
  fd_law_length : FuncData
  F_law_length : Fun K "_law_length" "_law_length" s_law_length f_law_length fd_law_length
  b_law_length : Binds K fd_law_length ["hand"] []
  g_law_length : mg "_law_length" = some (.ref f_law_length)
  f_law_shorter : Addr
  fd_law_shorter : FuncData
  F_law_shorter : Fun K "_law_shorter" "_law_shorter" s_law_shorter f_law_shorter fd_law_shorter
  b_law_shorter : Binds K fd_law_shorter ["a", "b"] []
  g_law_shorter : mg "_law_shorter" = some (.ref f_law_shorter)
  f_law_join : Addr
  fd_law_join : FuncData
  F_law_join : Fun K "_law_join" "_law_join" s_law_join f_law_join fd_law_join
  b_law_join : Binds K fd_law_join ["a", "b"] []
  g_law_join : mg "_law_join" = some (.ref f_law_join)
  f_law_meet : Addr
  fd_law_meet : FuncData
  F_law_meet : Fun K "_law_meet" "_law_meet" s_law_meet f_law_meet fd_law_meet
  b_law_meet : Binds K fd_law_meet ["a", "b"] []
  g_law_meet : mg "_law_meet" = some (.ref f_law_meet)
  f_law_times : Addr
  fd_law_times : FuncData
  F_law_times : Fun K "_law_times" "_law_times" s_law_times f_law_times fd_law_times
  b_law_times : Binds K fd_law_times ["a", "b"] []
  g_law_times : mg "_law_times" = some (.ref f_law_times)
  f_law_is : Addr
  fd_law_is : FuncData
  F_law_is : Fun K "_law_is" "_law_is" s_law_is f_law_is fd_law_is
  b_law_is : Binds K fd_law_is ["told", "due"] []
  g_law_is : mg "_law_is" = some (.ref f_law_is)
  f_law_leaving_right : Addr
  fd_law_leaving_right : FuncData
  F_law_leaving_right : Fun K "_law_leaving_right" "_law_leaving_right" s_law_leaving_right f_law_leaving_right fd_law_leaving_right
  b_law_leaving_right : Binds K fd_law_leaving_right ["told", "a", "c"] []
  g_law_leaving_right : mg "_law_leaving_right" = some (.ref f_law_leaving_right)
  f_law : Addr
  fd_law : FuncData
  F_law : Fun K "law" "law" s_law f_law fd_law
  b_law : Binds K fd_law ["script"] []
  g_law : mg "law" = some (.ref f_law)
  n_abs : mg "abs" = none
  n_bool : mg "bool" = none
  n_int : mg "int" = none
  n_isinstance : mg "isinstance" = none
  n_len : mg "len" = none
  n_list : mg "list" = none
  n_max : mg "max" = none
  n_min : mg "min" = none
  n_range : mg "range" = none
  n_tuple : mg "tuple" = none
  n_all : mg "all" = none
  C_BN : Addr
  g_BadNumber : mg "BadNumber" = some (.ref C_BN)
  g_gcd : mg "gcd" = some (.builtin "math.gcd")
  hnO : PySem.W.specialIn K (.builtin "object.__class__") "__get__" = some (some (.builtin "getset_descriptor.__get__"))
  htO : PySem.W.takesIn K (.builtin "object.__class__") = some true
  oex_BadNumber : OexC K C_BN
  i_BadNumber : PySem.W.findIn K (.ref C_BN) "__init__" = some (some (.ref f_WayError__init))
  tI : PySem.W.typeIn K (.ref f_WayError__init) = some (.type "function")
  v_BadNumber : PySem.W.findIn K (.ref C_BN) "value" = some none
  xf_BadNumber : XfC K C_BN
  exI_BadNumber : ExcC K C_BN
  exm : PySem.W.exmOne K (.ref C_BN) (.ref C_BN) = some true
  kBN : PySem.W.kitOne K (.ref C_BN) (.ref C_BN) = some true
  k_FEWEST_WORTHS : PySem.Tok
  g_FEWEST_WORTHS : mg "FEWEST_WORTHS" = some (.int 2 k_FEWEST_WORTHS)
  k_MOST_WORTHS : PySem.Tok
  g_MOST_WORTHS : mg "MOST_WORTHS" = some (.int 16 k_MOST_WORTHS)
  k_MOST_WIDTH : PySem.Tok
  g_MOST_WIDTH : mg "MOST_WIDTH" = some (.int 15 k_MOST_WIDTH)
  ha_Numbers : PySem.W.findIn K (.ref C_Numbers) "__class__" = some (some (.builtin "object.__class__"))
  hm_Numbers : PySem.W.mroIn K C_Numbers (.type "object") = some true
  ha_Lengths : PySem.W.findIn K (.ref C_Lengths) "__class__" = some (some (.builtin "object.__class__"))
  hm_Lengths : PySem.W.mroIn K C_Lengths (.type "object") = some true
  ha_Reckoning : PySem.W.findIn K (.ref C_Reckoning) "__class__" = some (some (.builtin "object.__class__"))
  hm_Reckoning : PySem.W.mroIn K C_Reckoning (.type "object") = some true
  ne_Lengths : PySem.W.findIn K (.ref C_Lengths) "__ne__" = some (some (.builtin "object.__ne__"))
  kLL : PySem.W.kitOne K (.ref C_Lengths) (.ref C_Lengths) = some true
  kT_Lengths : ∀ t : String, t ∈ ["NoneType", "bool", "int", "str", "list", "tuple", "dict"] → PySem.W.kitOne K (.type t) (.ref C_Lengths) = some false ∧ PySem.W.notFirst K C_Lengths (.type t) = true
  sb_Lengths : ∀ t : String, t ∈ ["NoneType", "int", "str", "list"] → PySem.W.subIn K (.ref C_Lengths) (.type t) = some false
  kP_Reckoning_Lengths : PySem.W.kitOne K (.ref C_Reckoning) (.ref C_Lengths) = some false ∧ PySem.W.notFirst K C_Lengths (.ref C_Reckoning) = true
  kP_Numbers_Lengths : PySem.W.kitOne K (.ref C_Numbers) (.ref C_Lengths) = some false ∧ PySem.W.notFirst K C_Lengths (.ref C_Numbers) = true
  kP_Lengths_Reckoning : PySem.W.kitOne K (.ref C_Lengths) (.ref C_Reckoning) = some false ∧ PySem.W.notFirst K C_Reckoning (.ref C_Lengths) = true
  kP_Lengths_Numbers : PySem.W.kitOne K (.ref C_Lengths) (.ref C_Numbers) = some false ∧ PySem.W.notFirst K C_Numbers (.ref C_Lengths) = true
/-! ### the head -/
theorem dn_add : PySem.dunder Operator.Add.info.2 = ("__add__" : Str) := by decide +kernel
theorem dn_radd : dunderR Operator.Add.info.2 = ("__radd__" : Str) := by decide +kernel
theorem dn_sub : PySem.dunder Operator.Sub.info.2 = ("__sub__" : Str) := by decide +kernel
theorem dn_rsub : dunderR Operator.Sub.info.2 = ("__rsub__" : Str) := by decide +kernel
theorem dn_mul : PySem.dunder Operator.Mult.info.2 = ("__mul__" : Str) := by decide +kernel
theorem dn_rmul : dunderR Operator.Mult.info.2 = ("__rmul__" : Str) := by decide +kernel
def faH0 : List He.Fa := [.glo "WayError", .glo "BadNumber", .glo "Ratio", .glo "Numbers", .glo "Lengths", .glo "Reckoning", .glo "is_integer", .glo "is_row", .glo "check_worths", .glo "longer", .glo "missing", .glo "first_fault", .glo "size_fault", .glo "is_square", .glo "is_side", .glo "is_below", .glo "none_fault", .glo "one_fault", .glo "idle_fault", .glo "swap_fault", .glo "grouping_fault", .glo "over_fault", .glo "same_fault", .glo "yes_no", .glo "widths", .glo "greater_ones", .glo "_law_hand", .glo "_law_draw", .glo "_law_length", .glo "_law_shorter"]
def faH1 : List He.Fa := [.glo "_law_join", .glo "_law_meet", .glo "_law_times", .glo "_law_is", .glo "_law_leaving_right", .glo "law", .free "abs", .free "bool", .free "int", .free "isinstance", .free "len", .free "list", .free "max", .free "min", .free "range", .free "tuple", .free "all", .int "FEWEST_WORTHS" 2, .int "MOST_WORTHS" 16, .int "MOST_WIDTH" 15, .cls "Ratio", .cls "Numbers", .cls "Lengths", .cls "Reckoning", .noat "Ratio" "top", .noat "Ratio" "bottom", .noat "Numbers" "none", .noat "Numbers" "one", .noat "Lengths" "none", .noat "Lengths" "one"]
def faH2 : List He.Fa := [.noat "Reckoning" "joins", .noat "Reckoning" "products", .noat "Reckoning" "none", .noat "Reckoning" "one", .noat "Reckoning" "_meets", .noat "Reckoning" "_lefts", .noat "Reckoning" "_rights", .meth "Lengths" "__eq__", .meth "Lengths" "is_worth", .meth "Lengths" "beneath", .meth "Lengths" "join", .meth "Lengths" "times", .meth "Lengths" "meet", .meth "Lengths" "greatest", .meth "Lengths" "left", .meth "Lengths" "right", .meth "Reckoning" "__eq__", .meth "Reckoning" "_joined", .meth "Reckoning" "_meet", .meth "Reckoning" "_left", .meth "Reckoning" "_right", .meth "Numbers" "__eq__", .mkr "Lengths", .mkr "Reckoning", .mkr "Ratio", .mkr "Numbers"]
def faH : List He.Fa := faH0 ++ faH1 ++ faH2
def dH_WayError__init : He.DefD := ⟨("WayError", some "__init__"), "__init__", "WayError.__init__", defArgs s_WayError__init, defBody s_WayError__init, defScope s_WayError__init, [], []⟩
def dH_is_integer : He.DefD := ⟨("is_integer", none), "is_integer", "is_integer", defArgs s_is_integer, defBody s_is_integer, defScope s_is_integer, [], []⟩
def dH_is_row : He.DefD := ⟨("is_row", none), "is_row", "is_row", defArgs s_is_row, defBody s_is_row, defScope s_is_row, [], []⟩
def dH_check_worths : He.DefD := ⟨("check_worths", none), "check_worths", "check_worths", defArgs s_check_worths, defBody s_check_worths, defScope s_check_worths, [], []⟩
def dH_Lengths__init : He.DefD := ⟨("Lengths", some "__init__"), "__init__", "Lengths.__init__", defArgs s_Lengths__init, defBody s_Lengths__init, defScope s_Lengths__init, [], []⟩
def dH_Lengths__eq : He.DefD := ⟨("Lengths", some "__eq__"), "__eq__", "Lengths.__eq__", defArgs s_Lengths__eq, defBody s_Lengths__eq, defScope s_Lengths__eq, [], []⟩
def dH_Lengths_is_worth : He.DefD := ⟨("Lengths", some "is_worth"), "is_worth", "Lengths.is_worth", defArgs s_Lengths_is_worth, defBody s_Lengths_is_worth, defScope s_Lengths_is_worth, [], []⟩
def dH_Lengths_beneath : He.DefD := ⟨("Lengths", some "beneath"), "beneath", "Lengths.beneath", defArgs s_Lengths_beneath, defBody s_Lengths_beneath, defScope s_Lengths_beneath, [], []⟩
def dH_Lengths_join : He.DefD := ⟨("Lengths", some "join"), "join", "Lengths.join", defArgs s_Lengths_join, defBody s_Lengths_join, defScope s_Lengths_join, [], []⟩
def dH_Lengths_times : He.DefD := ⟨("Lengths", some "times"), "times", "Lengths.times", defArgs s_Lengths_times, defBody s_Lengths_times, defScope s_Lengths_times, [], []⟩
def dH_Lengths_meet : He.DefD := ⟨("Lengths", some "meet"), "meet", "Lengths.meet", defArgs s_Lengths_meet, defBody s_Lengths_meet, defScope s_Lengths_meet, [], []⟩
def dH_Lengths_greatest : He.DefD := ⟨("Lengths", some "greatest"), "greatest", "Lengths.greatest", defArgs s_Lengths_greatest, defBody s_Lengths_greatest, defScope s_Lengths_greatest, [], []⟩
def dH_Lengths_left : He.DefD := ⟨("Lengths", some "left"), "left", "Lengths.left", defArgs s_Lengths_left, defBody s_Lengths_left, defScope s_Lengths_left, [], []⟩
def dH_Lengths_right : He.DefD := ⟨("Lengths", some "right"), "right", "Lengths.right", defArgs s_Lengths_right, defBody s_Lengths_right, defScope s_Lengths_right, [], []⟩
def dH_longer : He.DefD := ⟨("longer", none), "longer", "longer", defArgs s_longer, defBody s_longer, defScope s_longer, [], []⟩
def dH_missing : He.DefD := ⟨("missing", none), "missing", "missing", defArgs s_missing, defBody s_missing, defScope s_missing, [], []⟩
def dH_first_fault : He.DefD := ⟨("first_fault", none), "first_fault", "first_fault", defArgs s_first_fault, defBody s_first_fault, defScope s_first_fault, [], []⟩
def dH_size_fault : He.DefD := ⟨("size_fault", none), "size_fault", "size_fault", defArgs s_size_fault, defBody s_size_fault, defScope s_size_fault, [], []⟩
def dH_is_square : He.DefD := ⟨("is_square", none), "is_square", "is_square", defArgs s_is_square, defBody s_is_square, defScope s_is_square, [], []⟩
def dH_is_side : He.DefD := ⟨("is_side", none), "is_side", "is_side", defArgs s_is_side, defBody s_is_side, defScope s_is_side, [], []⟩
def dH_is_below : He.DefD := ⟨("is_below", none), "is_below", "is_below", defArgs s_is_below, defBody s_is_below, defScope s_is_below, [], []⟩
def dH_none_fault : He.DefD := ⟨("none_fault", none), "none_fault", "none_fault", defArgs s_none_fault, defBody s_none_fault, defScope s_none_fault, [], []⟩
def dH_one_fault : He.DefD := ⟨("one_fault", none), "one_fault", "one_fault", defArgs s_one_fault, defBody s_one_fault, defScope s_one_fault, [], []⟩
def dH_idle_fault : He.DefD := ⟨("idle_fault", none), "idle_fault", "idle_fault", defArgs s_idle_fault, defBody s_idle_fault, defScope s_idle_fault, [], []⟩
def dH_swap_fault : He.DefD := ⟨("swap_fault", none), "swap_fault", "swap_fault", defArgs s_swap_fault, defBody s_swap_fault, defScope s_swap_fault, [], []⟩
def dH_grouping_fault : He.DefD := ⟨("grouping_fault", none), "grouping_fault", "grouping_fault", defArgs s_grouping_fault, defBody s_grouping_fault, defScope s_grouping_fault, [], []⟩
def dH_over_fault : He.DefD := ⟨("over_fault", none), "over_fault", "over_fault", defArgs s_over_fault, defBody s_over_fault, defScope s_over_fault, [], []⟩
def dH_same_fault : He.DefD := ⟨("same_fault", none), "same_fault", "same_fault", defArgs s_same_fault, defBody s_same_fault, defScope s_same_fault, [], []⟩
def dH_Reckoning__init : He.DefD := ⟨("Reckoning", some "__init__"), "__init__", "Reckoning.__init__", defArgs s_Reckoning__init, defBody s_Reckoning__init, defScope s_Reckoning__init, [], []⟩
def dH_Reckoning__eq : He.DefD := ⟨("Reckoning", some "__eq__"), "__eq__", "Reckoning.__eq__", defArgs s_Reckoning__eq, defBody s_Reckoning__eq, defScope s_Reckoning__eq, [], []⟩
def dH_Reckoning_joined : He.DefD := ⟨("Reckoning", some "_joined"), "_joined", "Reckoning._joined", defArgs s_Reckoning_joined, defBody s_Reckoning_joined, defScope s_Reckoning_joined, [], []⟩
def dH_Reckoning_meet : He.DefD := ⟨("Reckoning", some "_meet"), "_meet", "Reckoning._meet", defArgs s_Reckoning_meet, defBody s_Reckoning_meet, defScope s_Reckoning_meet, [], []⟩
def dH_Reckoning_left : He.DefD := ⟨("Reckoning", some "_left"), "_left", "Reckoning._left", defArgs s_Reckoning_left, defBody s_Reckoning_left, defScope s_Reckoning_left, [], []⟩
def dH_Reckoning_right : He.DefD := ⟨("Reckoning", some "_right"), "_right", "Reckoning._right", defArgs s_Reckoning_right, defBody s_Reckoning_right, defScope s_Reckoning_right, [], []⟩
def dH_yes_no : He.DefD := ⟨("yes_no", none), "yes_no", "yes_no", defArgs s_yes_no, defBody s_yes_no, defScope s_yes_no, [], []⟩
def dH_widths : He.DefD := ⟨("widths", none), "widths", "widths", defArgs s_widths, defBody s_widths, defScope s_widths, [], []⟩
def dH_greater_ones : He.DefD := ⟨("greater_ones", none), "greater_ones", "greater_ones", defArgs s_greater_ones, defBody s_greater_ones, defScope s_greater_ones, [], []⟩
def dH_Ratio__init : He.DefD := ⟨("Ratio", some "__init__"), "__init__", "Ratio.__init__", defArgs s_Ratio__init, defBody s_Ratio__init, defScope s_Ratio__init, [.int 1], []⟩
def dH_Numbers__init : He.DefD := ⟨("Numbers", some "__init__"), "__init__", "Numbers.__init__", defArgs s_Numbers__init, defBody s_Numbers__init, defScope s_Numbers__init, [], []⟩
def dH_Numbers__eq : He.DefD := ⟨("Numbers", some "__eq__"), "__eq__", "Numbers.__eq__", defArgs s_Numbers__eq, defBody s_Numbers__eq, defScope s_Numbers__eq, [], []⟩
def dH_law_hand : He.DefD := ⟨("_law_hand", none), "_law_hand", "_law_hand", defArgs s_law_hand, defBody s_law_hand, defScope s_law_hand, [], []⟩
def dH_law_draw : He.DefD := ⟨("_law_draw", none), "_law_draw", "_law_draw", defArgs s_law_draw, defBody s_law_draw, defScope s_law_draw, [], []⟩
def dH_law_length : He.DefD := ⟨("_law_length", none), "_law_length", "_law_length", defArgs s_law_length, defBody s_law_length, defScope s_law_length, [], []⟩
def dH_law_shorter : He.DefD := ⟨("_law_shorter", none), "_law_shorter", "_law_shorter", defArgs s_law_shorter, defBody s_law_shorter, defScope s_law_shorter, [], []⟩
def dH_law_join : He.DefD := ⟨("_law_join", none), "_law_join", "_law_join", defArgs s_law_join, defBody s_law_join, defScope s_law_join, [], []⟩
def dH_law_meet : He.DefD := ⟨("_law_meet", none), "_law_meet", "_law_meet", defArgs s_law_meet, defBody s_law_meet, defScope s_law_meet, [], []⟩
def dH_law_times : He.DefD := ⟨("_law_times", none), "_law_times", "_law_times", defArgs s_law_times, defBody s_law_times, defScope s_law_times, [], []⟩
def dH_law_is : He.DefD := ⟨("_law_is", none), "_law_is", "_law_is", defArgs s_law_is, defBody s_law_is, defScope s_law_is, [], []⟩
def dH_law_leaving_right : He.DefD := ⟨("_law_leaving_right", none), "_law_leaving_right", "_law_leaving_right", defArgs s_law_leaving_right, defBody s_law_leaving_right, defScope s_law_leaving_right, [], []⟩
def dH_law : He.DefD := ⟨("law", none), "law", "law", defArgs s_law, defBody s_law, defScope s_law, [], []⟩
def fnH0 : List He.DefD := [dH_WayError__init, dH_is_integer, dH_is_row, dH_check_worths, dH_Lengths__init, dH_Lengths__eq, dH_Lengths_is_worth, dH_Lengths_beneath, dH_Lengths_join, dH_Lengths_times, dH_Lengths_meet, dH_Lengths_greatest, dH_Lengths_left, dH_Lengths_right, dH_longer, dH_missing, dH_first_fault, dH_size_fault, dH_is_square, dH_is_side, dH_is_below, dH_none_fault, dH_one_fault, dH_idle_fault, dH_swap_fault]
def fnH1 : List He.DefD := [dH_grouping_fault, dH_over_fault, dH_same_fault, dH_Reckoning__init, dH_Reckoning__eq, dH_Reckoning_joined, dH_Reckoning_meet, dH_Reckoning_left, dH_Reckoning_right, dH_yes_no, dH_widths, dH_greater_ones, dH_Ratio__init, dH_Numbers__init, dH_Numbers__eq, dH_law_hand, dH_law_draw, dH_law_length, dH_law_shorter, dH_law_join, dH_law_meet, dH_law_times, dH_law_is, dH_law_leaving_right, dH_law]
def fnH : List He.DefD := fnH0 ++ fnH1
def x_eBN (K : PySem.W.Frag) : Bool := OQ.erB K (He.ga K "WayError") (He.fAd K ("WayError", some "__init__")) (He.ga K "BadNumber")
def x_gcd (K : PySem.W.Frag) : Bool := OQ.isB (PySem.W.nsIn K mainGlobals "gcd") (some (.builtin "math.gcd"))
def x_hnO (K : PySem.W.Frag) : Bool := OQ.isB (PySem.W.specialIn K (.builtin "object.__class__") "__get__") (some (.builtin "getset_descriptor.__get__"))
def x_htO (K : PySem.W.Frag) : Bool := decide (PySem.W.takesIn K (.builtin "object.__class__") = some true)
def x_tI (K : PySem.W.Frag) : Bool := decide (PySem.W.typeIn K (.ref (He.fAd K ("WayError", some "__init__"))) = some (.type "function"))
def x_haRatio (K : PySem.W.Frag) : Bool := OQ.isB (PySem.W.findIn K (.ref (He.ga K "Ratio")) "__class__") (some (.builtin "object.__class__"))
def x_hmRatio (K : PySem.W.Frag) : Bool := decide (PySem.W.mroIn K (He.ga K "Ratio") (.type "object") = some true)
def x_haNumbers (K : PySem.W.Frag) : Bool := OQ.isB (PySem.W.findIn K (.ref (He.ga K "Numbers")) "__class__") (some (.builtin "object.__class__"))
def x_hmNumbers (K : PySem.W.Frag) : Bool := decide (PySem.W.mroIn K (He.ga K "Numbers") (.type "object") = some true)
def x_haLengths (K : PySem.W.Frag) : Bool := OQ.isB (PySem.W.findIn K (.ref (He.ga K "Lengths")) "__class__") (some (.builtin "object.__class__"))
def x_hmLengths (K : PySem.W.Frag) : Bool := decide (PySem.W.mroIn K (He.ga K "Lengths") (.type "object") = some true)
def x_haReckoning (K : PySem.W.Frag) : Bool := OQ.isB (PySem.W.findIn K (.ref (He.ga K "Reckoning")) "__class__") (some (.builtin "object.__class__"))
def x_hmReckoning (K : PySem.W.Frag) : Bool := decide (PySem.W.mroIn K (He.ga K "Reckoning") (.type "object") = some true)
def x_neLengths (K : PySem.W.Frag) : Bool := OQ.isB (PySem.W.findIn K (.ref (He.ga K "Lengths")) "__ne__") (some (.builtin "object.__ne__"))
def x_kILengths (K : PySem.W.Frag) : Bool := decide (PySem.W.kitOne K (.ref (He.ga K "Lengths")) (.type "int") = some false)
def x_kBLengths (K : PySem.W.Frag) : Bool := decide (PySem.W.kitOne K (.ref (He.ga K "Lengths")) (.type "bool") = some false)
def x_kTLengths (K : PySem.W.Frag) : Bool := (["NoneType", "bool", "int", "str", "list", "tuple", "dict"] : List String).all fun t => decide (PySem.W.kitOne K (.type t) (.ref (He.ga K "Lengths")) = some false) && PySem.W.notFirst K (He.ga K "Lengths") (.type t)
def x_kPReckoningLengths (K : PySem.W.Frag) : Bool := decide (PySem.W.kitOne K (.ref (He.ga K "Reckoning")) (.ref (He.ga K "Lengths")) = some false) && PySem.W.notFirst K (He.ga K "Lengths") (.ref (He.ga K "Reckoning"))
def x_kPNumbersLengths (K : PySem.W.Frag) : Bool := decide (PySem.W.kitOne K (.ref (He.ga K "Numbers")) (.ref (He.ga K "Lengths")) = some false) && PySem.W.notFirst K (He.ga K "Lengths") (.ref (He.ga K "Numbers"))
def x_kPLengthsReckoning (K : PySem.W.Frag) : Bool := decide (PySem.W.kitOne K (.ref (He.ga K "Lengths")) (.ref (He.ga K "Reckoning")) = some false) && PySem.W.notFirst K (He.ga K "Reckoning") (.ref (He.ga K "Lengths"))
def x_kPLengthsNumbers (K : PySem.W.Frag) : Bool := decide (PySem.W.kitOne K (.ref (He.ga K "Lengths")) (.ref (He.ga K "Numbers")) = some false) && PySem.W.notFirst K (He.ga K "Numbers") (.ref (He.ga K "Lengths"))
def x_sb (K : PySem.W.Frag) : Bool := (["NoneType", "int", "str", "list"] : List String).all fun t => decide (PySem.W.subIn K (.ref (He.ga K "Lengths")) (.type t) = some false)
def exH (K : PySem.W.Frag) : Bool := x_eBN K && (x_gcd K && (x_hnO K && (x_htO K && (x_tI K && (x_haRatio K && (x_hmRatio K && (x_haNumbers K && (x_hmNumbers K && (x_haLengths K && (x_hmLengths K && (x_haReckoning K && (x_hmReckoning K && (x_neLengths K && (x_kILengths K && (x_kBLengths K && (x_kTLengths K && (x_kPReckoningLengths K && (x_kPNumbersLengths K && (x_kPLengthsReckoning K && (x_kPLengthsNumbers K && (x_sb K)))))))))))))))))))))
abbrev hk : PySem.W.Hook := OQ.hookB 5 faH fnH exH
def ob : PySem.W.SharedT → He.AlD × Bool := OQ.obB 5 faH fnH exH
theorem all7 {K : PySem.W.Frag} {C : Addr} {ts : List String} (h : (ts.all fun t => decide (PySem.W.kitOne K (.type t) (.ref C) = some false) && PySem.W.notFirst K C (.type t)) = true) : ∀ t : String, t ∈ ts → PySem.W.kitOne K (.type t) (.ref C) = some false ∧ PySem.W.notFirst K C (.type t) = true := fun t ht => by
  obtain ⟨a, b⟩ := OQ.two (List.all_eq_true.mp h t ht)
  exact ⟨of_decide_eq_true a, b⟩
theorem pairP {K : PySem.W.Frag} {A C : Addr} (h : (decide (PySem.W.kitOne K (.ref A) (.ref C) = some false) && PySem.W.notFirst K C (.ref A)) = true) : PySem.W.kitOne K (.ref A) (.ref C) = some false ∧ PySem.W.notFirst K C (.ref A) = true := by
  obtain ⟨a, b⟩ := OQ.two h
  exact ⟨of_decide_eq_true a, b⟩
theorem someO {α : Type} {o : Option α} (h : o.isSome = true) : ∃ v, o = some v := Option.isSome_iff_exists.mp h

/-! ### the run -/
def looseH0 : List Str := ["_wall", "is_integer", "is_row", "WayError", "BadReckoning", "BadWorth", "BadMost", "BadNumber", "check_worths", "Lengths", "longer", "missing", "FEWEST_WORTHS", "MOST_WORTHS", "first_fault", "size_fault", "is_square", "is_side", "is_below", "none_fault", "one_fault", "idle_fault", "swap_fault", "grouping_fault", "over_fault", "same_fault", "Reckoning", "MOST_WIDTH", "yes_no", "widths"]
def looseH1 : List Str := ["greater_ones", "Ratio", "is_number", "as_ratio", "sum_of", "product_of", "Numbers", "_law_hand", "_law_draw", "_law_length", "_law_shorter", "_law_join", "_law_meet", "_law_times", "_law_is", "_law_leaving_right"]
def looseH : List Str := looseH0 ++ looseH1
abbrev Rw : PySem.W.OpenRow := PySem.W.OpenLaw.row PySem.Challenge.rw_watchedways_k29_whole_lengths
set_option maxHeartbeats 0 in
theorem run (w : World) : HandSHeadRun.RunEqI Rw (PySem.W.view Rw.prog [0, 57]) hk ob 30000 looseH w := by
  unfold HandSHeadRun.RunEqI
  kernel_rfl

/-! ### the law's draws -/
def handV (c : Addr) (p q m n : Int) : List V := [.ref c, .int p, .int q, .int m, .int n]
/-- the hand at h -/
def HandAt (H : Hp) (h c : Addr) : Prop := ∃ (cs : List Int) (p q m n : Int), H h = some (.lst (handV c p q m n)) ∧ H c = some (.lst (cs.map V.int)) ∧ c ≠ h ∧ 0 ≤ p
/-- all but what stands at h is as it was -/
def But (h : Addr) (H H' : Hp) : Prop := ∀ b, b ≠ h → H' b = H b
def spDraw : Sp := fun vs H Q _ => ∃ (h c : Addr) (many : Int), vs = [.ref h, .int many] ∧ HandAt H h c ∧ 0 < many ∧ many.natAbs.log2 < 9000 ∧
  ∀ (r : Int) (H' : Hp), 0 ≤ r → r < many → HandAt H' h c → But h H H' → Q (.int r) H'
def spHand (K : PySem.W.Frag) : Sp := fun vs H Q _ => ∃ (a : Addr) (ns : List Int), vs = [.ref a] ∧ SqL K H a (ns.map V.int) ∧ ns.length ≤ 63 ∧
  ∀ (h c : Addr) (H' : Hp), HandAt H' h c → Same H H' → H h = none → Q (.ref h) H'
theorem upd_upd {H : Hp} {p : Addr} {o u : HO} : upd (upd H p o) p u = upd H p u := by
  funext b
  by_cases e : b = p
  · subst e; rw [upd_same, upd_same]
  · rw [upd_ne e, upd_ne e, upd_ne e]
theorem upd_id {H : Hp} {p : Addr} {o : HO} (e : H p = some o) : upd H p o = H := by
  funext b
  by_cases h : b = p
  · subst h; rw [upd_same, e]
  · rw [upd_ne h]
theorem upd_none {H : Hp} {p q : Addr} {o : HO} (e : upd H p o q = none) : q ≠ p ∧ H q = none := by
  by_cases h : q = p
  · subst h; rw [upd_same] at e; cases e
  · rw [upd_ne h] at e; exact ⟨h, e⟩
theorem ne_of_free {H : Hp} {p q : Addr} {o : HO} (e : upd H p o q = none) : q ≠ p := (upd_none e).1

/-! ### integers -/
/-- whether x is an integer (a flag is none) -/
def IsI (K : PySem.W.Frag) (H : Hp) (x : V) (b : Bool) : Prop := ∃ (t : Value) (b1 b2 : Bool), TyX K H x t ∧ PySem.W.kitOne K t (.type "int") = some b1 ∧ PySem.W.kitOne K t (.type "bool") = some b2 ∧ b = (b1 && !b2)
theorem isI_int {K : PySem.W.Frag} {H : Hp} (i : Int) : IsI K H (.int i) true := ⟨.type "int", true, false, .base (.int i), kit_ty (by decide +kernel), kit_ty (by decide +kernel), rfl⟩
theorem isI_bl {K : PySem.W.Frag} {H : Hp} (i : Bool) : IsI K H (.bl i) false := ⟨.type "bool", true, true, .base (.bl i), kit_ty (by decide +kernel), kit_ty (by decide +kernel), rfl⟩
theorem isI_non {K : PySem.W.Frag} {H : Hp} : IsI K H .non false := ⟨.type "NoneType", false, false, .base .non, kit_ty (by decide +kernel), kit_ty (by decide +kernel), rfl⟩
theorem isI_str {K : PySem.W.Frag} {H : Hp} (z : Str) : IsI K H (.str z) false := ⟨.type "str", false, false, .base (.str z), kit_ty (by decide +kernel), kit_ty (by decide +kernel), rfl⟩
theorem isI_lst {K : PySem.W.Frag} {H : Hp} {a : Addr} {xs : List V} (e : H a = some (.lst xs)) : IsI K H (.ref a) false := ⟨.type "list", false, false, .base (.lst e), kit_ty (by decide +kernel), kit_ty (by decide +kernel), rfl⟩
theorem isI_tup {K : PySem.W.Frag} {H : Hp} {a : Addr} {xs : List V} (e : H a = some (.tup xs)) : IsI K H (.ref a) false := ⟨.type "tuple", false, false, .base (.tup e), kit_ty (by decide +kernel), kit_ty (by decide +kernel), rfl⟩
theorem isI_dK {K : PySem.W.Frag} {H : Hp} {a : Addr} {xs : List (Key × V)} (e : H a = some (.dK xs)) : IsI K H (.ref a) false := ⟨.type "dict", false, false, .base (.dK e), kit_ty (by decide +kernel), kit_ty (by decide +kernel), rfl⟩
def spIsInt (K : PySem.W.Frag) : Sp := fun vs H Q _ => ∃ (x : V) (b : Bool), vs = [x] ∧ IsI K H x b ∧ Q (.bl b) H
section
variable {P : Program} {w : World} {K : PySem.W.Frag} {mg : Str → Option Value} {base : Heap}
theorem ok_is_integer (T : Top K mg) : FnOk P w K mg base CX0 1 T.f_is_integer T.fd_is_integer ["thing"] (spIsInt K) := by
  refine T.F_is_integer.ok sc_is_integer (fun vs H Q E h => ?_) (fun cdv A outer s H vs Q E hr h => ?_)
  · obtain ⟨x, b, rfl, _⟩ := h; rfl
  · obtain ⟨x, b, rfl, ⟨t, b1, b2, ty, e1, e2, eb⟩, q⟩ := h
    refine ⟨_, (pss_one (ps_ret (pe_and (pe_callB call_isi (by rfl) T.n_isinstance (by decide +kernel) (pa_cons (pv 0) (pa_cons (pe_bltn (v := V.ty "int") (by rfl) T.n_int (by decide +kernel) rfl) pa_nil))) (pe_one (pe_not (pe_callB call_isi (by rfl) T.n_isinstance (by decide +kernel) (pa_cons (pv 0) (pa_cons (pe_bltn (v := V.ty "bool") (by rfl) T.n_bool (by decide +kernel) rfl) pa_nil)))))))), ?_⟩
    walk_at "rd"
    refine RD.d_isi (.ty _) ty e1 ?_
    walk_at "rd"
    cases b1 with
    | false =>
      walk_at "rd"
      rw [eb] at q; exact q
    | true =>
      walk_at "rd"
      refine RD.d_isi (.ty _) ty e2 ?_
      walk_at "rd"
      rw [eb] at q
      simpa using q
end

/-! ### errors with a value -/
def spWE (K : PySem.W.Frag) : Sp := fun vs H Q _ => ∃ (a C : Addr) (v : V), vs = [.ref a, v] ∧ OexC K C ∧ PySem.W.findIn K (.ref C) "value" = some none ∧ H a = some (exo a C none) ∧
  ∀ d, H d = none → d ≠ a → Q .non (upd (upd H d (exd d [("value", v)])) a (exo a C (some d)))
/-- an error's own dict, with its value -/
def ErrD (v : V) : HO := .xd [(("value" : Str), v)]
theorem errD_v (v : V) : List.lookup ("value" : Str) [(("value" : Str), v)] = some v := by simp [List.lookup]
section
variable {P : Program} {w : World} {K : PySem.W.Frag} {mg : Str → Option Value} {base : Heap}
theorem ok_WayError__init (T : Top K mg) : FnOk P w K mg base CX0 1 T.f_WayError__init T.fd_WayError__init ["self", "value"] (spWE K) := by
  refine T.F_WayError__init.ok sc_WayError__init (fun vs H Q E h => ?_) (fun cdv A outer s H vs Q E hr h => ?_)
  · obtain ⟨a, C, v, rfl, _⟩ := h; rfl
  · obtain ⟨a, C, v, rfl, oc, nv, ha, q⟩ := h
    refine ⟨_, (pss_one (ps_ost (pv 0) (pv 1))), ?_⟩
    exact ⟨_, rfl, _, rfl, a, C, rfl, oc, nv, .inl ⟨ha, fun d hd ne => q d hd ne⟩⟩
end
/-- what is asked where such an error is raised -/
theorem d_mkO {K : PySem.W.Frag} {H : Hp} {C : Addr} {v : V} {R : XK} (oc : OexC K C) (nv : PySem.W.findIn K (.ref C) "value" = some none) (k : ∀ d, H d = none → R (.ref C) (some d) (upd H d (ErrD v))) :
    [v].length ≤ 1000 ∧ ∀ a, H a = none → spWE K (.ref a :: ([v] ++ [])) (upd H a (exo a C none))
      (fun u H2 => u = .non ∧ ∃ (d : Addr) (fs : List (Str × V)), H2 a = some (exo a C (some d)) ∧ H2 d = some (exd d fs) ∧ H d = none ∧ R (.ref C) (some d) (upd (del H2 a) d (.xd fs))) (fun _ _ _ => False) := by
  refine ⟨by simp, fun a ha => ⟨a, C, v, rfl, oc, nv, upd_same, fun d hd ne => ⟨rfl, d, [(("value" : Str), v)], upd_same, ?_, ?_, ?_⟩⟩⟩
  · rw [upd_ne ne, upd_same]
  · rw [upd_ne ne] at hd; exact hd
  · have hd0 : H d = none := by rw [upd_ne ne] at hd; exact hd
    have e : upd (del (upd (upd (upd H a (exo a C none)) d (exd d [("value", v)])) a (exo a C (some d))) a) d (.xd [("value", v)]) = upd H d (ErrD v) := by
      funext b
      by_cases hb : b = d
      · subst hb; rw [upd_same, upd_same]; rfl
      · rw [upd_ne hb, upd_ne hb]
        by_cases hba : b = a
        · subst hba; rw [del_same, ha]
        · rw [del_ne hba, upd_ne hba, upd_ne hb, upd_ne hba]
    rw [e]; exact k d hd0
theorem d_raise {K : PySem.W.Frag} {σ : L2.St} {H : Hp} {C : Addr} {ta : TA} {R : XK} (h : ta σ H fun vs H1 => vs.length ≤ 1000 ∧ ∀ a, H1 a = none → spWE K (.ref a :: (vs ++ [])) (upd H1 a (exo a C none))
      (fun u H2 => u = .non ∧ ∃ (d : Addr) (fs : List (Str × V)), H2 a = some (exo a C (some d)) ∧ H2 d = some (exd d fs) ∧ H1 d = none ∧ R (.ref C) (some d) (upd (del H2 a) d (.xd fs))) (fun _ _ _ => False)) :
    tMkO C (spWE K) [] ta σ H R := h

/-! ### the class Ratio -/
def ratF (q : Rat) : List (Str × V) := [(("top" : Str), V.int q.num), (("bottom" : Str), V.int (q.den : Int))]
def RatAt (C : Addr) (H : Hp) (a : Addr) (q : Rat) : Prop := ∃ dx, H a = some (.ins C dx (ratF q))
def spRat (K : PySem.W.Frag) (C BN : Addr) : Sp := fun vs H Q E => ∃ (x dx : Addr) (t b : V), vs = [.ref x, t, b] ∧ H x = some (.ins C dx []) ∧
  ((IsI K H t false ∧ ∀ d, H d = none → E (.ref BN) (some d) (upd H d (ErrD t))) ∨
   (∃ i : Int, t = .int i ∧ (IsI K H b false ∨ b = .int 0) ∧ ∀ d, H d = none → E (.ref BN) (some d) (upd H d (ErrD b))) ∨
   ∃ i j : Int, t = .int i ∧ b = .int j ∧ j ≠ 0 ∧ j.natAbs.log2 < 9000 ∧ Q .non (upd H x (.ins C dx (ratF (Rat.divInt i j)))))
theorem ratF_put (u v : V) : putF "bottom" v (putF "top" u []) = [(("top" : Str), u), (("bottom" : Str), v)] := by
  show (if ("top" : Str) = "bottom" then [(("top" : Str), v)] else (("top" : Str), u) :: putF "bottom" v []) = _
  rw [if_neg (by decide +kernel)]; rfl
theorem ratF_top (q : Rat) : (ratF q).lookup ("top" : Str) = some (.int q.num) := by unfold ratF; simp [List.lookup]
theorem tb_ne : (("bottom" : Str) == ("top" : Str)) = false := by decide +kernel
theorem ratF_bottom (q : Rat) : (ratF q).lookup ("bottom" : Str) = some (.int (q.den : Int)) := by unfold ratF; simp [List.lookup, tb_ne]
theorem log2_mono {a b : Nat} (h : a ≤ b) : a.log2 ≤ b.log2 := by
  by_cases ha : a = 0
  · subst ha; simp
  · exact (Nat.le_log2 (by omega)).mpr (Nat.le_trans (Nat.log2_self_le ha) h)
section
variable {P : Program} {w : World} {K : PySem.W.Frag} {mg : Str → Option Value} {base : Heap}
theorem ok_Ratio__init (T : Top K mg) : FnOk P w K mg base (L2.CX P w) 3 T.f_Ratio__init T.fd_Ratio__init ["self", "top", "bottom"] (spRat K T.C_Ratio T.C_BN) := by
  refine T.F_Ratio__init.ok sc_Ratio__init (fun vs H Q E h => ?_) (fun cdv A outer s H vs Q E hr h => ?_)
  · obtain ⟨x, dx, t, b, rfl, _⟩ := h; rfl
  · obtain ⟨x, dx, t, b, rfl, hx, h⟩ := h
    refine ⟨_, (pss_cons (ps_if (pt_not (pt_val (pe_call (ok_is_integer T) (hr.mono (by decide)) (by rfl) T.g_is_integer T.F_is_integer.kp T.b_is_integer .nil pass0 (pa_cons (pv 1) pa_nil))))
 (pss_one (ps_raise rfl (takes_of rfl rfl rfl rfl) (pmk_oex T.oex_BadNumber T.i_BadNumber T.tI (ok_WayError__init T) (hr.mono (by decide)) T.b_WayError__init .nil pass0 (by rfl) T.g_BadNumber (pa_cons (pv 1) pa_nil))))
 pss_nil)
 (pss_cons (ps_if (PW.pt (pw_or (pt_not (pt_val (pe_call (ok_is_integer T) (hr.mono (by decide)) (by rfl) T.g_is_integer T.F_is_integer.kp T.b_is_integer .nil pass0 (pa_cons (pv 2) pa_nil)))) (pw_or1 (pt_cmpR op_eq (pv 2) pe_int (nomark _)))))
 (pss_one (ps_raise rfl (takes_of rfl rfl rfl rfl) (pmk_oex T.oex_BadNumber T.i_BadNumber T.tI (ok_WayError__init T) (hr.mono (by decide)) T.b_WayError__init .nil pass0 (by rfl) T.g_BadNumber (pa_cons (pv 2) pa_nil))))
 pss_nil)
 (pss_cons (ps_set (i := 3) sc_Ratio__init.nd rfl (Or.inl rfl) (pe_callBfun cr_gcd (by rfl) T.g_gcd (pa_cons (pv 1) (pa_cons (pv 2) pa_nil))))
 (C8.pss_cut (ps_if (pt_cmpR op_lt (pv 2) pe_int (nomark _))
 (pss_one (ps_set (i := 3) sc_Ratio__init.nd rfl (Or.inl rfl) (pe_un un_neg (pv 3))))
 pss_nil)
 (pss_cons (ps_fld (pv 0) (pe_op OQ.op_fdivX (pv 1) (pv 3)) rfl)
 (pss_one (ps_fld (pv 0) (pe_op OQ.op_fdivX (pv 2) (pv 3)) rfl))))))), ?_⟩
    walk_at "rd"
    rcases h with ⟨ni, k⟩ | ⟨i, rfl, nb, k⟩ | ⟨i, j, rfl, rfl, nz, hl, k⟩
    · refine ⟨t, false, rfl, ni, ?_⟩
      walk_at "rd"
      exact d_mkO T.oex_BadNumber T.v_BadNumber k
    · refine ⟨.int i, true, rfl, isI_int i, ?_⟩
      walk_at "rd"
      rcases nb with nb | rfl
      · refine ⟨b, false, rfl, nb, ?_⟩
        walk_at "rd"
        exact d_mkO T.oex_BadNumber T.v_BadNumber k
      · refine ⟨.int 0, true, rfl, isI_int 0, ?_⟩
        walk_at "rd"
        exact d_mkO T.oex_BadNumber T.v_BadNumber k
    · refine ⟨.int i, true, rfl, isI_int i, ?_⟩
      walk_at "rd"
      refine ⟨.int j, true, rfl, isI_int j, ?_⟩
      walk_at "rd"
      refine RD.d_iteDF nz ?_
      walk_at "rd"
      have hs := RM.shr_ne (i := i) nz
      have hb : (RM.shr i j).natAbs.log2 < 9000 := Nat.lt_of_le_of_lt (log2_mono (RM.shr_le nz)) hl
      refine RD.d_cut (fun σ' H' => σ' = [some (.ref x), some (.int i), some (.int j), some (.int (RM.shr i j))] ∧ H' = H) ?_ ?_
      · walk_at "rd"
        refine RD.iteD (fun c => ?_) (fun c => ?_)
        · walk_at "rd"
          exact ⟨by unfold RM.shr; rw [if_pos c]; rfl, rfl⟩
        · walk_at "rd"
          exact ⟨by unfold RM.shr; rw [if_neg c]; rfl, rfl⟩
      · rintro σ' H' ⟨rfl, rfl⟩
        walk_at "rd"
        refine ⟨x, T.C_Ratio, dx, [], rfl, hx, T.cl_Ratio, T.na_Ratio_top, by show 0 < 1000; decide, ?_⟩
        walk_at "rd"
        refine ⟨x, T.C_Ratio, dx, _, rfl, upd_same, T.cl_Ratio, T.na_Ratio_bottom, by show 1 < 1000; decide, ?_⟩
        rw [upd_upd, RM.num_eq nz, RM.den_eq nz, ratF_put]
        exact k
end

/-! ### what the law asks of a Ratio, and of refusals -/
theorem tyX_same {K : PySem.W.Frag} {H H' : Hp} {x : V} {t : Value} (h : TyX K H x t) (s : Same H H') : TyX K H' x t := by
  cases h with
  | base b =>
    refine .base ?_
    cases b with
    | non => exact .non
    | bl x => exact .bl x
    | int i => exact .int i
    | str x => exact .str x
    | flt x => exact .flt x
    | lst e => exact .lst (s _ _ e)
    | frz e => exact .frz (s _ _ e)
    | tup e => exact .tup (s _ _ e)
    | dK e => exact .dK (s _ _ e)
    | dT e => exact .dT (s _ _ e)
    | ins e cl a n k m => exact .ins (s _ _ e) cl a n k m
  | byt b => exact .byt b
  | set e => exact .set (s _ _ e)
  | kList e c => exact .kList e c
  | kTuple e c => exact .kTuple e c
  | kDict e c => exact .kDict e c
  | fTuple e => exact .fTuple (s _ _ e)
  | fDict e => exact .fDict (s _ _ e)
theorem IsI.same {K : PySem.W.Frag} {H H' : Hp} {x : V} {b : Bool} (h : IsI K H x b) (s : Same H H') : IsI K H' x b := by
  obtain ⟨t, b1, b2, ty, e1, e2, e⟩ := h
  exact ⟨t, b1, b2, tyX_same ty s, e1, e2, e⟩
theorem RatAt.same {C : Addr} {H H' : Hp} {a : Addr} {q : Rat} (h : RatAt C H a q) (s : Same H H') : RatAt C H' a q := by
  obtain ⟨dx, e⟩ := h
  exact ⟨dx, s _ _ e⟩
theorem HandAt.same {H H' : Hp} {h c : Addr} (x : HandAt H h c) (s : Same H H') : HandAt H' h c := by
  obtain ⟨cs, p, q, m, n, e1, e2, ne, hp⟩ := x
  exact ⟨cs, p, q, m, n, s _ _ e1, s _ _ e2, ne, hp⟩
theorem same_upd {H : Hp} {p : Addr} {o : HO} (h : H p = none) : Same H (upd H p o) := fun b u e => by
  rw [upd_ne (ne_of_none e h)]; exact e
theorem same_made {H : Hp} {x dx C : Addr} (nx : H x = none) (ndx : H dx = none) (ne : dx ≠ x) : Same H (upd (upd H dx (.own x)) x (.ins C dx [])) := fun b u e => by
  rw [upd_ne (ne_of_none e nx), upd_ne (ne_of_none e ndx)]; exact e

/-! ### rows and tables of worths -/
def RowL (H : Hp) (r : Addr) (n : Nat) (g : Nat → Int) : Prop := H r = some (.lst ((List.range n).map fun j => V.int (g j)))
def TabL (H : Hp) (a : Addr) (n : Nat) (f : Nat → Nat → Int) : Prop := ∃ rs : List Addr, rs.length = n ∧ H a = some (.lst (rs.map V.ref)) ∧ ∀ (i : Nat) (r : Addr), rs[i]? = some r → RowL H r n (f i)
/-- all of f is below n -/
def Wth (n : Nat) (f : Nat → Nat → Int) : Prop := ∀ i j, i < n → j < n → 0 ≤ f i j ∧ f i j < n
theorem RowL.same {H H' : Hp} {r : Addr} {n : Nat} {g : Nat → Int} (h : RowL H r n g) (s : Same H H') : RowL H' r n g := s _ _ h
theorem TabL.same {H H' : Hp} {a : Addr} {n : Nat} {f : Nat → Nat → Int} (h : TabL H a n f) (s : Same H H') : TabL H' a n f := by
  obtain ⟨rs, l, e, q⟩ := h
  exact ⟨rs, l, s _ _ e, fun i r z => s _ _ (q i r z)⟩
theorem kitA_list {K : PySem.W.Frag} : PySem.W.kitAny K (.type "list") [.type "list", .type "tuple"] = some true := by
  unfold PySem.W.kitAny
  rw [kit_ty (r := true) (by decide +kernel)]
def spIsRow (K : PySem.W.Frag) : Sp := fun vs H Q _ => ∃ (x : V) (t : Value) (b : Bool), vs = [x] ∧ TyX K H x t ∧ PySem.W.kitAny K t [.type "list", .type "tuple"] = some b ∧ ∀ H', Same H H' → Q (.bl b) H'
def spBelow : Sp := fun vs H Q _ => ∃ n i : Int, vs = [.int n, .int i] ∧ 0 ≤ i ∧ i < n ∧ Q (.bl true) H
def spSide : Sp := fun vs H Q _ => ∃ (n : Nat) (r : Addr) (g : Nat → Int), vs = [.int n, .ref r] ∧ n ≤ 16 ∧ RowL H r n g ∧ (∀ j, j < n → 0 ≤ g j ∧ g j < n) ∧ ∀ H', Same H H' → Q (.bl true) H'
def spSquare : Sp := fun vs H Q _ => ∃ (n : Nat) (a : Addr) (f : Nat → Nat → Int), vs = [.int n, .ref a] ∧ n ≤ 16 ∧ TabL H a n f ∧ Wth n f ∧ ∀ H', Same H H' → Q (.bl true) H'
section
variable {P : Program} {w : World} {K : PySem.W.Frag} {mg : Str → Option Value} {base : Heap}
theorem ok_is_row (T : Top K mg) : FnOk P w K mg base CX0 1 T.f_is_row T.fd_is_row ["thing"] (spIsRow K) := by
  refine T.F_is_row.ok sc_is_row (fun vs H Q E h => ?_) (fun cdv A outer s H vs Q E hr h => ?_)
  · obtain ⟨x, t, b, rfl, _⟩ := h; rfl
  · obtain ⟨x, t, b, rfl, ty, e, k⟩ := h
    refine ⟨_, (pss_one (ps_ret (pe_callB call_isiT (by rfl) T.n_isinstance (by decide +kernel) (pa_cons (pv 0) (pa_cons (pe_tup (pa_cons (pe_bltn (v := V.ty "list") (by rfl) T.n_list (by decide +kernel) rfl) (pa_cons (pe_bltn (v := V.ty "tuple") (by rfl) T.n_tuple (by decide +kernel) rfl) pa_nil))) pa_nil))))), ?_⟩
    walk_at "rd"
    refine ⟨by show 2 ≤ sizeLine; decide, fun tp htp => ?_⟩
    walk_at "rd"
    exact ⟨x, tp, _, t, _, b, rfl, upd_same, .cons (.ty _) (.cons (.ty _) .nil), tyX_same ty (same_upd htp), e, k _ (same_upd htp)⟩
theorem ok_is_below (T : Top K mg) : FnOk P w K mg base CX0 2 T.f_is_below T.fd_is_below ["many", "thing"] spBelow := by
  refine T.F_is_below.ok sc_is_below (fun vs H Q E h => ?_) (fun cdv A outer s H vs Q E hr h => ?_)
  · obtain ⟨n, i, rfl, _⟩ := h; rfl
  · obtain ⟨n, i, rfl, h0, h1, k⟩ := h
    refine ⟨_, (pss_one (ps_ret (pe_and (pe_call (ok_is_integer T) (hr.mono (by decide)) (by rfl) T.g_is_integer T.F_is_integer.kp T.b_is_integer .nil pass0 (pa_cons (pv 1) pa_nil)) (pe_one (pe_chain op_le op_lt pe_int (pv 1) (pv 0)))))), ?_⟩
    walk_at "rd"
    refine ⟨.int i, true, rfl, isI_int i, ?_⟩
    walk_at "rd"
    refine RD.d_chain ?_
    walk_at "rd"
    rw [decide_eq_true h0]
    walk_at "rd"
    rw [decide_eq_true h1]
    exact k
theorem ok_is_side (T : Top K mg) : FnOk P w K mg base CX0 4 T.f_is_side T.fd_is_side ["many", "thing"] spSide := by
  refine T.F_is_side.ok sc_is_side (fun vs H Q E h => ?_) (fun cdv A outer s H vs Q E hr h => ?_)
  · obtain ⟨n, r, g, rfl, _⟩ := h; rfl
  · obtain ⟨n, r, g, rfl, n16, hR, hg, k⟩ := h
    refine ⟨_, (pss_one (ps_ret (pe_and (pe_call (ok_is_row T) (hr.mono (by decide)) (by rfl) T.g_is_row T.F_is_row.kp T.b_is_row .nil pass0 (pa_cons (pv 1) pa_nil)) (pe_and (pe_cmpR op_eq (pe_callB RD.c_len (by rfl) T.n_len (by decide +kernel) (pa_cons (pv 1) pa_nil)) (pv 0) (nomark _)) (pe_one (pe_callB (cr_all rfl) (by rfl) T.n_all (by decide +kernel) (pa_cons (pe_lc (own := [("item", 2)]) (g := (gName 2)) (tt := tYes) rfl sc_is_side.nd (pi_list (pv 1)) (blkOk_by (own := [("item", 2)]) (N := ["many", "thing", "item"]) (sc := defScope s_is_side) (by decide +kernel)) (fun _ _ _ _ _ => (pg_name (i := 2) sc_is_side.nd rfl (Or.inl rfl))) (fun _ _ _ _ _ => pts_nil) (fun _ _ _ _ _ => (pe_call (ok_is_below T) (hr.mono (by decide)) (by rfl) T.g_is_below T.F_is_below.kp T.b_is_below .nil pass0 (pa_cons (pv 0) (pa_cons (pv 2) pa_nil))))) pa_nil))))))), ?_⟩
    walk_at "rd"
    refine ⟨.ref r, .type "list", true, rfl, .base (.lst hR), kitA_list, fun H1 s1 => ?_⟩
    replace hR := hR.same s1
    have hR' : H1 r = some (.lst ((List.range n).map fun j => V.int (g j))) := hR
    walk_at "rd"
    rw [List.length_map, List.length_range, decide_eq_true rfl]
    walk_at "rd"
    intro D hD
    have sD := same_upd (o := HO.lst []) hD
    refine lc_list (K := K) (a := r) (xs := (List.range n).map fun j => V.int (g j)) (fun i H' => Same H1 H' ∧ H' D = some (.lst ((List.replicate i true).map V.bl))) ⟨sD, upd_same⟩ ?_ ?_ ?_
    · rintro i H' _ ⟨s2, _⟩
      exact SqL.of (hR.same s2)
    · rintro i x H' hi ⟨s2, eD⟩
      have il : i < n := by have := (List.getElem?_eq_some_iff.mp hi).1; simpa using this
      rw [List.getElem?_map, List.getElem?_range il] at hi
      cases hi
      walk_at "rd"
      refine ⟨n, g i, rfl, (hg i il).1, (hg i il).2, ?_⟩
      refine ⟨_, eD, by rw [List.length_map, List.length_replicate]; exact Nat.lt_of_lt_of_le il (Nat.le_trans n16 (by decide)), fun b u e => ?_, ?_⟩
      · rw [upd_ne (ne_of_none e hD)]; exact s2 _ _ e
      · rw [upd_same, List.replicate_succ', List.map_append]; rfl
    · rintro H' ⟨s2, eD⟩
      rw [List.length_map, List.length_range] at eD
      walk_at "rd"
      refine ⟨D, _, rfl, SqL.of eD, ?_⟩
      rw [show (List.replicate n true).all id = true from List.all_eq_true.mpr fun x hx => by rw [(List.mem_replicate.mp hx).2]; rfl]
      exact k _ (s1.trans s2)
theorem ok_is_square (T : Top K mg) : FnOk P w K mg base CX0 6 T.f_is_square T.fd_is_square ["many", "thing"] spSquare := by
  refine T.F_is_square.ok sc_is_square (fun vs H Q E h => ?_) (fun cdv A outer s H vs Q E hr h => ?_)
  · obtain ⟨n, a, f, rfl, _⟩ := h; rfl
  · obtain ⟨n, a, f, rfl, n16, hT, hf, k⟩ := h
    refine ⟨_, (pss_one (ps_ret (pe_and (pe_call (ok_is_row T) (hr.mono (by decide)) (by rfl) T.g_is_row T.F_is_row.kp T.b_is_row .nil pass0 (pa_cons (pv 1) pa_nil)) (pe_and (pe_cmpR op_eq (pe_callB RD.c_len (by rfl) T.n_len (by decide +kernel) (pa_cons (pv 1) pa_nil)) (pv 0) (nomark _)) (pe_one (pe_callB (cr_all rfl) (by rfl) T.n_all (by decide +kernel) (pa_cons (pe_lc (own := [("row", 2)]) (g := (gName 2)) (tt := tYes) rfl sc_is_square.nd (pi_list (pv 1)) (blkOk_by (own := [("row", 2)]) (N := ["many", "thing", "row"]) (sc := defScope s_is_square) (by decide +kernel)) (fun _ _ _ _ _ => (pg_name (i := 2) sc_is_square.nd rfl (Or.inl rfl))) (fun _ _ _ _ _ => pts_nil) (fun _ _ _ _ _ => (pe_call (ok_is_side T) (hr.mono (by decide)) (by rfl) T.g_is_side T.F_is_side.kp T.b_is_side .nil pass0 (pa_cons (pv 0) (pa_cons (pv 2) pa_nil))))) pa_nil))))))), ?_⟩
    walk_at "rd"
    obtain ⟨rs, len, ea, rows⟩ := id hT
    refine ⟨.ref a, .type "list", true, rfl, .base (.lst ea), kitA_list, fun H1 s1 => ?_⟩
    replace ea := s1 _ _ ea
    walk_at "rd"
    rw [List.length_map, len, decide_eq_true rfl]
    walk_at "rd"
    intro D hD
    have sD := same_upd (o := HO.lst []) hD
    refine lc_list (K := K) (a := a) (xs := rs.map V.ref) (fun i H' => Same H1 H' ∧ H' D = some (.lst ((List.replicate i true).map V.bl))) ⟨sD, upd_same⟩ ?_ ?_ ?_
    · rintro i H' _ ⟨s2, _⟩
      exact SqL.of (s2 _ _ ea)
    · rintro i x H' hi ⟨s2, eD⟩
      have il : i < n := by have := (List.getElem?_eq_some_iff.mp hi).1; rw [List.length_map, len] at this; exact this
      have il' : i < rs.length := by rw [len]; exact il
      rw [List.getElem?_map, List.getElem?_eq_getElem il'] at hi
      cases hi
      walk_at "rd"
      refine ⟨n, rs[i], f i, rfl, n16, ((rows i _ (List.getElem?_eq_getElem il')).same s1).same s2, fun j hj => hf i j il hj, fun H'' s3 => ?_⟩
      refine ⟨_, s3 _ _ eD, by rw [List.length_map, List.length_replicate]; exact Nat.lt_of_lt_of_le il (Nat.le_trans n16 (by decide)), fun b u e => ?_, ?_⟩
      · rw [upd_ne (ne_of_none e hD)]; exact s3 _ _ (s2 _ _ e)
      · rw [upd_same, List.replicate_succ', List.map_append]; rfl
    · rintro H' ⟨s2, eD⟩
      rw [List.length_map, len] at eD
      walk_at "rd"
      refine ⟨D, _, rfl, SqL.of eD, ?_⟩
      rw [show (List.replicate n true).all id = true from List.all_eq_true.mpr fun x hx => by rw [(List.mem_replicate.mp hx).2]; rfl]
      exact k _ (s1.trans s2)
end

/-! ### the faults of a reckoning that has none -/
def TabN (H : Hp) (a : Addr) (n : Nat) (f : Nat → Nat → Nat) : Prop := TabL H a n fun i j => (f i j : Int)
structure Good (n : Nat) (J P : Nat → Nat → Nat) (z o : Nat) : Prop where
  n2 : 2 ≤ n
  n16 : n ≤ 16
  zn : z < n
  on : o < n
  wj : ∀ a b, a < n → b < n → J a b < n
  wp : ∀ a b, a < n → b < n → P a b < n
  none : ∀ a, a < n → J z a = a ∧ J a z = a ∧ P z a = z ∧ P a z = z
  one : ∀ a, a < n → P o a = a ∧ P a o = a
  idle : ∀ a, a < n → J a a = a
  swap : ∀ a b, a < n → b < n → J a b = J b a
  gj : ∀ a b c, a < n → b < n → c < n → J (J a b) c = J a (J b c)
  gp : ∀ a b c, a < n → b < n → c < n → P (P a b) c = P a (P b c)
  over : ∀ a b c, a < n → b < n → c < n → P a (J b c) = J (P a b) (P a c) ∧ P (J b c) a = J (P b a) (P c a)
  same : z ≠ o
section
variable {K : PySem.W.Frag} {H : Hp} {a : Addr} {n : Nat} {Q : VK}
theorem ixT {f : Nat → Nat → Nat} {i : Int} {m : Nat} (h : TabN H a n f) (e : i = m) (hn : m < n) (k : ∀ r, RowL H r n (fun j => (f m j : Int)) → Q (.ref r) H) : rIxL K (.ref a) (.int i) H Q := by
  obtain ⟨rs, len, ea, rows⟩ := h
  have hm : m < rs.length := by rw [len]; exact hn
  subst e
  exact RD.d_ixL (SqL.of ea) (atI_nat (by rw [List.getElem?_map, List.getElem?_eq_getElem hm]; rfl)) (k _ (rows m _ (List.getElem?_eq_getElem hm)))
theorem ixR {g : Nat → Int} {i : Int} {m : Nat} (h : RowL H a n g) (e : i = m) (hn : m < n) (k : Q (.int (g m)) H) : rIxL K (.ref a) (.int i) H Q := by
  subst e
  exact RD.d_ixL (SqL.of h) (atI_nat (by rw [List.getElem?_map, List.getElem?_range hn]; rfl)) k
end
/-- what comes to None, the objects that were there as they were -/
def spNo (C : List V → Hp → Prop) : Sp := fun vs H Q _ => C vs H ∧ ∀ H', Same H H' → Q .non H'
section
variable {P : Program} {w : World} {K : PySem.W.Frag} {mg : Str → Option Value} {base : Heap}
theorem ok_none_fault (T : Top K mg) : FnOk P w K mg base CX0 1 T.f_none_fault T.fd_none_fault ["joins", "products", "none"] (spNo fun vs H => ∃ a b n J M z o, vs = [.ref a, .ref b, .int (z : Nat)] ∧ TabN H a n J ∧ TabN H b n M ∧ Good n J M z o) := by
  refine T.F_none_fault.ok sc_none_fault (fun vs H Q E h => ?_) (fun cdv A outer s H vs Q E hr h => ?_)
  · obtain ⟨⟨a, b, n, J, M, z, o, rfl, _⟩, _⟩ := h; rfl
  · obtain ⟨⟨a, b, n, J, M, z, o, rfl, tj, tp, G⟩, k⟩ := h
    obtain ⟨rs, len, ea, rows⟩ := id tj
    have n16 := G.n16
    refine ⟨_, (pss_cons (ps_for PassesOwn.never rfl (pi_range1 (by rfl) T.n_range (pa_cons (pe_callB RD.c_len (by rfl) T.n_len (by decide +kernel) (pa_cons (pv 0) pa_nil)) pa_nil)) (pg_name (i := 3) sc_none_fault.nd rfl (Or.inl rfl))
 (pss_cons (ps_if (PW.pt (pw_or (pt_cmpR op_ne (pe_ix ix_list (pe_ix ix_list (pv 0) (pv 2) (fun _ _ => rfl)) (pv 3) (fun _ _ => rfl)) (pv 3) (nomark _)) (pw_or1 (pt_cmpR op_ne (pe_ix ix_list (pe_ix ix_list (pv 0) (pv 3) (fun _ _ => rfl)) (pv 2) (fun _ _ => rfl)) (pv 3) (nomark _)))))
 (pss_one (ps_ret (pe_tup (pa_cons pe_str (pa_cons (pv 3) (pa_cons (pe_un un_neg pe_int) (pa_cons (pe_un un_neg pe_int) pa_nil)))))))
 pss_nil)
 (pss_one (ps_if (PW.pt (pw_or (pt_cmpR op_ne (pe_ix ix_list (pe_ix ix_list (pv 1) (pv 2) (fun _ _ => rfl)) (pv 3) (fun _ _ => rfl)) (pv 2) (nomark _)) (pw_or1 (pt_cmpR op_ne (pe_ix ix_list (pe_ix ix_list (pv 1) (pv 3) (fun _ _ => rfl)) (pv 2) (fun _ _ => rfl)) (pv 2) (nomark _)))))
 (pss_one (ps_ret (pe_tup (pa_cons pe_str (pa_cons (pv 3) (pa_cons (pe_un un_neg pe_int) (pa_cons (pe_un un_neg pe_int) pa_nil)))))))
 pss_nil))))
 (pss_one (ps_ret pe_non))), ?_⟩
    walk_at "rd"
    refine ⟨n, by rw [List.length_map, len], by omega, by omega, ?_⟩
    refine RD.f_range (lo := 0) (n := n) (fun t σ' H' => ∃ v : Option V, σ' = [some (.ref a), some (.ref b), some (.int z), v] ∧ H' = H) ⟨none, rfl, rfl⟩ ?_ ?_
    · rintro t σ' H' ht ⟨v, rfl, rfl⟩
      obtain ⟨g1, g2, g3, g4⟩ := G.none t ht
      walk_at "rd"
      refine ixT (m := z) tj (by omega) G.zn (fun r hr => ?_)
      walk_at "rd"
      refine ixR (m := t) hr (by omega) ht ?_
      walk_at "rd"
      rw [decide_eq_true (by rw [g1]; omega : ((J z t : Nat) : Int) = 0 + t)]
      walk_at "rd"
      refine ixT (m := t) tj (by omega) ht (fun r hr => ?_)
      walk_at "rd"
      refine ixR (m := z) hr (by omega) G.zn ?_
      walk_at "rd"
      rw [decide_eq_true (by rw [g2]; omega : ((J t z : Nat) : Int) = 0 + t)]
      walk_at "rd"
      refine ixT (m := z) tp (by omega) G.zn (fun r hr => ?_)
      walk_at "rd"
      refine ixR (m := t) hr (by omega) ht ?_
      walk_at "rd"
      rw [decide_eq_true (by rw [g3] : ((M z t : Nat) : Int) = (z : Int))]
      walk_at "rd"
      refine ixT (m := t) tp (by omega) ht (fun r hr => ?_)
      walk_at "rd"
      refine ixR (m := z) hr (by omega) G.zn ?_
      walk_at "rd"
      rw [decide_eq_true (by rw [g4] : ((M t z : Nat) : Int) = (z : Int))]
      walk_at "rd"
      exact ⟨_, rfl, rfl⟩
    · rintro σ' H' ⟨v, rfl, rfl⟩
      walk_at "rd"
      exact k _ (Same.refl _)
theorem ok_one_fault (T : Top K mg) : FnOk P w K mg base CX0 1 T.f_one_fault T.fd_one_fault ["products", "one"] (spNo fun vs H => ∃ b n J M z o, vs = [.ref b, .int (o : Nat)] ∧ TabN H b n M ∧ Good n J M z o) := by
  refine T.F_one_fault.ok sc_one_fault (fun vs H Q E h => ?_) (fun cdv A outer s H vs Q E hr h => ?_)
  · obtain ⟨⟨b, n, J, M, z, o, rfl, _⟩, _⟩ := h; rfl
  · obtain ⟨⟨b, n, J, M, z, o, rfl, tp, G⟩, k⟩ := h
    obtain ⟨rs, len, ea, rows⟩ := id tp
    have n16 := G.n16
    refine ⟨_, (pss_cons (ps_for PassesOwn.never rfl (pi_range1 (by rfl) T.n_range (pa_cons (pe_callB RD.c_len (by rfl) T.n_len (by decide +kernel) (pa_cons (pv 0) pa_nil)) pa_nil)) (pg_name (i := 2) sc_one_fault.nd rfl (Or.inl rfl))
 (pss_one (ps_if (PW.pt (pw_or (pt_cmpR op_ne (pe_ix ix_list (pe_ix ix_list (pv 0) (pv 1) (fun _ _ => rfl)) (pv 2) (fun _ _ => rfl)) (pv 2) (nomark _)) (pw_or1 (pt_cmpR op_ne (pe_ix ix_list (pe_ix ix_list (pv 0) (pv 2) (fun _ _ => rfl)) (pv 1) (fun _ _ => rfl)) (pv 2) (nomark _)))))
 (pss_one (ps_ret (pe_tup (pa_cons pe_str (pa_cons (pv 2) (pa_cons (pe_un un_neg pe_int) (pa_cons (pe_un un_neg pe_int) pa_nil)))))))
 pss_nil)))
 (pss_one (ps_ret pe_non))), ?_⟩
    walk_at "rd"
    refine ⟨n, by rw [List.length_map, len], by omega, by omega, ?_⟩
    refine RD.f_range (lo := 0) (n := n) (fun t σ' H' => ∃ v : Option V, σ' = [some (.ref b), some (.int o), v] ∧ H' = H) ⟨none, rfl, rfl⟩ ?_ ?_
    · rintro t σ' H' ht ⟨v, rfl, rfl⟩
      obtain ⟨g1, g2⟩ := G.one t ht
      walk_at "rd"
      refine ixT (m := o) tp (by omega) G.on (fun r hr => ?_)
      walk_at "rd"
      refine ixR (m := t) hr (by omega) ht ?_
      walk_at "rd"
      rw [decide_eq_true (by rw [g1]; omega : ((M o t : Nat) : Int) = 0 + t)]
      walk_at "rd"
      refine ixT (m := t) tp (by omega) ht (fun r hr => ?_)
      walk_at "rd"
      refine ixR (m := o) hr (by omega) G.on ?_
      walk_at "rd"
      rw [decide_eq_true (by rw [g2]; omega : ((M t o : Nat) : Int) = 0 + t)]
      walk_at "rd"
      exact ⟨_, rfl, rfl⟩
    · rintro σ' H' ⟨v, rfl, rfl⟩
      walk_at "rd"
      exact k _ (Same.refl _)
theorem ok_idle_fault (T : Top K mg) : FnOk P w K mg base CX0 1 T.f_idle_fault T.fd_idle_fault ["joins"] (spNo fun vs H => ∃ a n J M z o, vs = [.ref a] ∧ TabN H a n J ∧ Good n J M z o) := by
  refine T.F_idle_fault.ok sc_idle_fault (fun vs H Q E h => ?_) (fun cdv A outer s H vs Q E hr h => ?_)
  · obtain ⟨⟨a, n, J, M, z, o, rfl, _⟩, _⟩ := h; rfl
  · obtain ⟨⟨a, n, J, M, z, o, rfl, tj, G⟩, k⟩ := h
    obtain ⟨rs, len, ea, rows⟩ := id tj
    have n16 := G.n16
    refine ⟨_, (pss_cons (ps_for PassesOwn.never rfl (pi_range1 (by rfl) T.n_range (pa_cons (pe_callB RD.c_len (by rfl) T.n_len (by decide +kernel) (pa_cons (pv 0) pa_nil)) pa_nil)) (pg_name (i := 1) sc_idle_fault.nd rfl (Or.inl rfl))
 (pss_one (ps_if (pt_cmpR op_ne (pe_ix ix_list (pe_ix ix_list (pv 0) (pv 1) (fun _ _ => rfl)) (pv 1) (fun _ _ => rfl)) (pv 1) (nomark _))
 (pss_one (ps_ret (pe_tup (pa_cons pe_str (pa_cons (pv 1) (pa_cons (pe_un un_neg pe_int) (pa_cons (pe_un un_neg pe_int) pa_nil)))))))
 pss_nil)))
 (pss_one (ps_ret pe_non))), ?_⟩
    walk_at "rd"
    refine ⟨n, by rw [List.length_map, len], by omega, by omega, ?_⟩
    refine RD.f_range (lo := 0) (n := n) (fun t σ' H' => ∃ v : Option V, σ' = [some (.ref a), v] ∧ H' = H) ⟨none, rfl, rfl⟩ ?_ ?_
    · rintro t σ' H' ht ⟨v, rfl, rfl⟩
      have g1 := G.idle t ht
      walk_at "rd"
      refine ixT (m := t) tj (by omega) ht (fun r hr => ?_)
      walk_at "rd"
      refine ixR (m := t) hr (by omega) ht ?_
      walk_at "rd"
      rw [decide_eq_true (by rw [g1]; omega : ((J t t : Nat) : Int) = 0 + t)]
      walk_at "rd"
      exact ⟨_, rfl, rfl⟩
    · rintro σ' H' ⟨v, rfl, rfl⟩
      walk_at "rd"
      exact k _ (Same.refl _)
theorem ok_swap_fault (T : Top K mg) : FnOk P w K mg base CX0 1 T.f_swap_fault T.fd_swap_fault ["joins"] (spNo fun vs H => ∃ a n J M z o, vs = [.ref a] ∧ TabN H a n J ∧ Good n J M z o) := by
  refine T.F_swap_fault.ok sc_swap_fault (fun vs H Q E h => ?_) (fun cdv A outer s H vs Q E hr h => ?_)
  · obtain ⟨⟨a, n, J, M, z, o, rfl, _⟩, _⟩ := h; rfl
  · obtain ⟨⟨a, n, J, M, z, o, rfl, tj, G⟩, k⟩ := h
    obtain ⟨rs, len, ea, rows⟩ := id tj
    have n16 := G.n16
    refine ⟨_, (pss_cons (ps_for PassesOwn.never rfl (pi_range1 (by rfl) T.n_range (pa_cons (pe_callB RD.c_len (by rfl) T.n_len (by decide +kernel) (pa_cons (pv 0) pa_nil)) pa_nil)) (pg_name (i := 1) sc_swap_fault.nd rfl (Or.inl rfl))
 (pss_one (ps_for PassesOwn.never rfl (pi_range1 (by rfl) T.n_range (pa_cons (pe_callB RD.c_len (by rfl) T.n_len (by decide +kernel) (pa_cons (pv 0) pa_nil)) pa_nil)) (pg_name (i := 2) sc_swap_fault.nd rfl (Or.inl rfl))
 (pss_one (ps_if (pt_cmpR op_ne (pe_ix ix_list (pe_ix ix_list (pv 0) (pv 1) (fun _ _ => rfl)) (pv 2) (fun _ _ => rfl)) (pe_ix ix_list (pe_ix ix_list (pv 0) (pv 2) (fun _ _ => rfl)) (pv 1) (fun _ _ => rfl)) (nomark _))
 (pss_one (ps_ret (pe_tup (pa_cons pe_str (pa_cons (pv 1) (pa_cons (pv 2) (pa_cons (pe_un un_neg pe_int) pa_nil)))))))
 pss_nil)))))
 (pss_one (ps_ret pe_non))), ?_⟩
    walk_at "rd"
    refine ⟨n, by rw [List.length_map, len], by omega, by omega, ?_⟩
    refine RD.f_range (lo := 0) (n := n) (fun t σ' H' => ∃ v v2 : Option V, σ' = [some (.ref a), v, v2] ∧ H' = H) ⟨none, none, rfl, rfl⟩ ?_ ?_
    · rintro t σ' H' ht ⟨v, v2, rfl, rfl⟩
      walk_at "rd"
      refine ⟨n, by rw [List.length_map, len], by omega, by omega, ?_⟩
      refine RD.f_range (lo := 0) (n := n) (fun u σ' H'' => ∃ v2 : Option V, σ' = [some (.ref a), some (.int (0 + t)), v2] ∧ H'' = H') ⟨v2, rfl, rfl⟩ ?_ ?_
      · rintro u σ' H'' hu ⟨v2, rfl, rfl⟩
        have g1 := G.swap t u ht hu
        walk_at "rd"
        refine ixT (m := t) tj (by omega) ht (fun r hr => ?_)
        walk_at "rd"
        refine ixR (m := u) hr (by omega) hu ?_
        walk_at "rd"
        refine ixT (m := u) tj (by omega) hu (fun r hr => ?_)
        walk_at "rd"
        refine ixR (m := t) hr (by omega) ht ?_
        walk_at "rd"
        rw [decide_eq_true (by rw [g1] : ((J t u : Nat) : Int) = ((J u t : Nat) : Int))]
        walk_at "rd"
        exact ⟨_, rfl, rfl⟩
      · rintro σ' H'' ⟨v2, rfl, rfl⟩
        exact ⟨_, _, rfl, rfl⟩
    · rintro σ' H' ⟨v, v2, rfl, rfl⟩
      walk_at "rd"
      exact k _ (Same.refl _)
theorem ok_grouping_fault (T : Top K mg) : FnOk P w K mg base CX0 1 T.f_grouping_fault T.fd_grouping_fault ["word", "table"] (spNo fun vs H => ∃ (q : V) (a : Addr) (n : Nat) (J : Nat → Nat → Nat), vs = [q, .ref a] ∧ TabN H a n J ∧ n ≤ 16 ∧ (∀ a b, a < n → b < n → J a b < n) ∧ (∀ a b c, a < n → b < n → c < n → J (J a b) c = J a (J b c))) := by
  refine T.F_grouping_fault.ok sc_grouping_fault (fun vs H Q E h => ?_) (fun cdv A outer s H vs Q E hr h => ?_)
  · obtain ⟨⟨q, a, n, J, rfl, _⟩, _⟩ := h; rfl
  · obtain ⟨⟨q, a, n, J, rfl, tj, n16, wj, gj⟩, k⟩ := h
    obtain ⟨rs, len, ea, rows⟩ := id tj
    refine ⟨_, (pss_cons (ps_set (i := 2) sc_grouping_fault.nd rfl (Or.inl rfl) (pe_callTy OQ.cr_range1 (by rfl) T.n_range (by decide +kernel) (pa_cons (pe_callB RD.c_len (by rfl) T.n_len (by decide +kernel) (pa_cons (pv 1) pa_nil)) pa_nil)))
 (pss_cons (ps_for PassesOwn.never rfl (OQ.pi_rngV (pv 2)) (pg_name (i := 3) sc_grouping_fault.nd rfl (Or.inl rfl))
 (pss_one (ps_for PassesOwn.never rfl (OQ.pi_rngV (pv 2)) (pg_name (i := 4) sc_grouping_fault.nd rfl (Or.inl rfl))
 (pss_one (ps_for PassesOwn.never rfl (OQ.pi_rngV (pv 2)) (pg_name (i := 5) sc_grouping_fault.nd rfl (Or.inl rfl))
 (pss_one (ps_if (pt_cmpR op_ne (pe_ix ix_list (pe_ix ix_list (pv 1) (pe_ix ix_list (pe_ix ix_list (pv 1) (pv 3) (fun _ _ => rfl)) (pv 4) (fun _ _ => rfl)) (fun _ _ => rfl)) (pv 5) (fun _ _ => rfl)) (pe_ix ix_list (pe_ix ix_list (pv 1) (pv 3) (fun _ _ => rfl)) (pe_ix ix_list (pe_ix ix_list (pv 1) (pv 4) (fun _ _ => rfl)) (pv 5) (fun _ _ => rfl)) (fun _ _ => rfl)) (nomark _))
 (pss_one (ps_ret (pe_tup (pa_cons (pv 0) (pa_cons (pv 3) (pa_cons (pv 4) (pa_cons (pv 5) pa_nil)))))))
 pss_nil)))))))
 (pss_one (ps_ret pe_non)))), ?_⟩
    walk_at "rd"
    refine ⟨n, by rw [List.length_map, len], fun p hp => ?_⟩
    have sp := same_upd (o := HO.rng 0 n) hp
    have ep : upd H p (.rng 0 n) p = some (.rng 0 n) := upd_same
    replace tj := TabL.same tj sp
    generalize upd H p (.rng 0 n) = H0 at *
    walk_at "rd"
    refine ⟨p, 0, n, rfl, ep, by omega, ?_⟩
    refine RD.f_range (lo := 0) (n := ((n : Int) - 0).toNat) (fun t σ' H' => ∃ v v2 v3 : Option V, σ' = [some q, some (.ref a), some (.ref p), v, v2, v3] ∧ H' = H0) ⟨none, none, none, rfl, rfl⟩ ?_ ?_
    · rintro t σ' H' ht' ⟨v, v2, v3, rfl, rfl⟩
      have ht : t < n := by omega
      walk_at "rd"
      refine ⟨p, 0, n, rfl, ep, by omega, ?_⟩
      refine RD.f_range (lo := 0) (n := ((n : Int) - 0).toNat) (fun u σ' H'' => ∃ v2 v3 : Option V, σ' = [some q, some (.ref a), some (.ref p), some (.int (0 + t)), v2, v3] ∧ H'' = H') ⟨v2, v3, rfl, rfl⟩ ?_ ?_
      · rintro u σ' H'' hu' ⟨v2, v3, rfl, rfl⟩
        have hu : u < n := by omega
        walk_at "rd"
        refine ⟨p, 0, n, rfl, ep, by omega, ?_⟩
        refine RD.f_range (lo := 0) (n := ((n : Int) - 0).toNat) (fun c σ' H' => ∃ v3 : Option V, σ' = [some q, some (.ref a), some (.ref p), some (.int (0 + t)), some (.int (0 + u)), v3] ∧ H' = H'') ⟨v3, rfl, rfl⟩ ?_ ?_
        · rintro c σ' H' hc' ⟨v3, rfl, rfl⟩
          have hc : c < n := by omega
          have w1 := wj t u ht hu
          have w2 := wj u c hu hc
          have g1 := gj t u c ht hu hc
          walk_at "rd"
          refine ixT (m := t) tj (by omega) ht (fun r hr => ?_)
          walk_at "rd"
          refine ixR (m := u) hr (by omega) hu ?_
          walk_at "rd"
          refine ixT (m := J t u) tj (by omega) w1 (fun r hr => ?_)
          walk_at "rd"
          refine ixR (m := c) hr (by omega) hc ?_
          walk_at "rd"
          refine ixT (m := t) tj (by omega) ht (fun r0 hr0 => ?_)
          walk_at "rd"
          refine ixT (m := u) tj (by omega) hu (fun r hr => ?_)
          walk_at "rd"
          refine ixR (m := c) hr (by omega) hc ?_
          walk_at "rd"
          refine ixR (m := J u c) hr0 rfl w2 ?_
          walk_at "rd"
          rw [decide_eq_true (by rw [g1] : ((J (J t u) c : Nat) : Int) = ((J t (J u c) : Nat) : Int))]
          walk_at "rd"
          exact ⟨_, rfl, rfl⟩
        · rintro σ' H' ⟨v3, rfl, rfl⟩
          exact ⟨_, _, rfl, rfl⟩
      · rintro σ' H'' ⟨v2, v3, rfl, rfl⟩
        exact ⟨_, _, _, rfl, rfl⟩
    · rintro σ' H' ⟨v, v2, v3, rfl, rfl⟩
      walk_at "rd"
      exact k _ sp
end

/-! ### the first fault, where there is none -/
section
variable {P : Program} {w : World} {K : PySem.W.Frag} {mg : Str → Option Value} {base : Heap}
theorem ok_over_fault (T : Top K mg) : FnOk P w K mg base CX0 1 T.f_over_fault T.fd_over_fault ["joins", "products"] (spNo fun vs H => ∃ a b n J M z o, vs = [.ref a, .ref b] ∧ TabN H a n J ∧ TabN H b n M ∧ Good n J M z o) := by
  refine T.F_over_fault.ok sc_over_fault (fun vs H Q E h => ?_) (fun cdv A outer s H vs Q E hr h => ?_)
  · obtain ⟨⟨a, b, n, J, M, z, o, rfl, _⟩, _⟩ := h; rfl
  · obtain ⟨⟨a, b, n, J, M, z, o, rfl, tj, tp, G⟩, k⟩ := h
    obtain ⟨rs, len, ea, rows⟩ := id tj
    have n16 := G.n16
    refine ⟨_, (pss_cons (ps_set (i := 2) sc_over_fault.nd rfl (Or.inl rfl) (pe_callTy OQ.cr_range1 (by rfl) T.n_range (by decide +kernel) (pa_cons (pe_callB RD.c_len (by rfl) T.n_len (by decide +kernel) (pa_cons (pv 0) pa_nil)) pa_nil)))
 (pss_cons (ps_for PassesOwn.never rfl (OQ.pi_rngV (pv 2)) (pg_name (i := 3) sc_over_fault.nd rfl (Or.inl rfl))
 (pss_one (ps_for PassesOwn.never rfl (OQ.pi_rngV (pv 2)) (pg_name (i := 4) sc_over_fault.nd rfl (Or.inl rfl))
 (pss_one (ps_for PassesOwn.never rfl (OQ.pi_rngV (pv 2)) (pg_name (i := 5) sc_over_fault.nd rfl (Or.inl rfl))
 (pss_cons (ps_set (i := 6) sc_over_fault.nd rfl (Or.inl rfl) (pe_ix ix_list (pe_ix ix_list (pv 0) (pv 4) (fun _ _ => rfl)) (pv 5) (fun _ _ => rfl)))
 (pss_cons (ps_if (pt_cmpR op_ne (pe_ix ix_list (pe_ix ix_list (pv 1) (pv 3) (fun _ _ => rfl)) (pv 6) (fun _ _ => rfl)) (pe_ix ix_list (pe_ix ix_list (pv 0) (pe_ix ix_list (pe_ix ix_list (pv 1) (pv 3) (fun _ _ => rfl)) (pv 4) (fun _ _ => rfl)) (fun _ _ => rfl)) (pe_ix ix_list (pe_ix ix_list (pv 1) (pv 3) (fun _ _ => rfl)) (pv 5) (fun _ _ => rfl)) (fun _ _ => rfl)) (nomark _))
 (pss_one (ps_ret (pe_tup (pa_cons pe_str (pa_cons (pv 3) (pa_cons (pv 4) (pa_cons (pv 5) pa_nil)))))))
 pss_nil)
 (pss_one (ps_if (pt_cmpR op_ne (pe_ix ix_list (pe_ix ix_list (pv 1) (pv 6) (fun _ _ => rfl)) (pv 3) (fun _ _ => rfl)) (pe_ix ix_list (pe_ix ix_list (pv 0) (pe_ix ix_list (pe_ix ix_list (pv 1) (pv 4) (fun _ _ => rfl)) (pv 3) (fun _ _ => rfl)) (fun _ _ => rfl)) (pe_ix ix_list (pe_ix ix_list (pv 1) (pv 5) (fun _ _ => rfl)) (pv 3) (fun _ _ => rfl)) (fun _ _ => rfl)) (nomark _))
 (pss_one (ps_ret (pe_tup (pa_cons pe_str (pa_cons (pv 3) (pa_cons (pv 4) (pa_cons (pv 5) pa_nil)))))))
 pss_nil)))))))))
 (pss_one (ps_ret pe_non)))), ?_⟩
    walk_at "rd"
    refine ⟨n, by rw [List.length_map, len], fun p hp => ?_⟩
    have sp := same_upd (o := HO.rng 0 n) hp
    have ep : upd H p (.rng 0 n) p = some (.rng 0 n) := upd_same
    replace tj := TabL.same tj sp
    replace tp := TabL.same tp sp
    generalize upd H p (.rng 0 n) = H0 at *
    walk_at "rd"
    refine ⟨p, 0, n, rfl, ep, by omega, ?_⟩
    refine RD.f_range (lo := 0) (n := ((n : Int) - 0).toNat) (fun t σ' H' => ∃ v v2 v3 v4 : Option V, σ' = [some (.ref a), some (.ref b), some (.ref p), v, v2, v3, v4] ∧ H' = H0) ⟨none, none, none, none, rfl, rfl⟩ ?_ ?_
    · rintro t σ' H' ht' ⟨v, v2, v3, v4, rfl, rfl⟩
      have ht : t < n := by omega
      walk_at "rd"
      refine ⟨p, 0, n, rfl, ep, by omega, ?_⟩
      refine RD.f_range (lo := 0) (n := ((n : Int) - 0).toNat) (fun u σ' H'' => ∃ v2 v3 v4 : Option V, σ' = [some (.ref a), some (.ref b), some (.ref p), some (.int (0 + t)), v2, v3, v4] ∧ H'' = H') ⟨v2, v3, v4, rfl, rfl⟩ ?_ ?_
      · rintro u σ' H'' hu' ⟨v2, v3, v4, rfl, rfl⟩
        have hu : u < n := by omega
        walk_at "rd"
        refine ⟨p, 0, n, rfl, ep, by omega, ?_⟩
        refine RD.f_range (lo := 0) (n := ((n : Int) - 0).toNat) (fun c σ' H' => ∃ v3 v4 : Option V, σ' = [some (.ref a), some (.ref b), some (.ref p), some (.int (0 + t)), some (.int (0 + u)), v3, v4] ∧ H' = H'') ⟨v3, v4, rfl, rfl⟩ ?_ ?_
        · rintro c σ' H' hc' ⟨v3, v4, rfl, rfl⟩
          have hc : c < n := by omega
          have w1 := G.wj u c hu hc
          obtain ⟨g1, g2⟩ := G.over t u c ht hu hc
          walk_at "rd"
          refine ixT (m := u) tj (by omega) hu (fun r hr => ?_)
          walk_at "rd"
          refine ixR (m := c) hr (by omega) hc ?_
          walk_at "rd"
          refine ixT (m := t) tp (by omega) ht (fun r hr => ?_)
          walk_at "rd"
          refine ixR (m := J u c) hr (by omega) w1 ?_
          walk_at "rd"
          refine ixT (m := t) tp (by omega) ht (fun r hr => ?_)
          walk_at "rd"
          refine ixR (m := u) hr (by omega) hu ?_
          walk_at "rd"
          refine ixT (m := M t u) tj rfl (G.wp t u ht hu) (fun r0 hr0 => ?_)
          walk_at "rd"
          refine ixT (m := t) tp (by omega) ht (fun r hr => ?_)
          walk_at "rd"
          refine ixR (m := c) hr (by omega) hc ?_
          walk_at "rd"
          refine ixR (m := M t c) hr0 rfl (G.wp t c ht hc) ?_
          walk_at "rd"
          rw [decide_eq_true (by rw [g1] : ((M t (J u c) : Nat) : Int) = ((J (M t u) (M t c) : Nat) : Int))]
          walk_at "rd"
          refine ixT (m := J u c) tp (by omega) w1 (fun r hr => ?_)
          walk_at "rd"
          refine ixR (m := t) hr (by omega) ht ?_
          walk_at "rd"
          refine ixT (m := u) tp (by omega) hu (fun r hr => ?_)
          walk_at "rd"
          refine ixR (m := t) hr (by omega) ht ?_
          walk_at "rd"
          refine ixT (m := M u t) tj rfl (G.wp u t hu ht) (fun r0 hr0 => ?_)
          walk_at "rd"
          refine ixT (m := c) tp (by omega) hc (fun r hr => ?_)
          walk_at "rd"
          refine ixR (m := t) hr (by omega) ht ?_
          walk_at "rd"
          refine ixR (m := M c t) hr0 rfl (G.wp c t hc ht) ?_
          walk_at "rd"
          rw [decide_eq_true (by rw [g2] : ((M (J u c) t : Nat) : Int) = ((J (M u t) (M c t) : Nat) : Int))]
          walk_at "rd"
          exact ⟨_, _, rfl, rfl⟩
        · rintro σ' H' ⟨v3, v4, rfl, rfl⟩
          exact ⟨_, _, _, rfl, rfl⟩
      · rintro σ' H'' ⟨v2, v3, v4, rfl, rfl⟩
        exact ⟨_, _, _, _, rfl, rfl⟩
    · rintro σ' H' ⟨v, v2, v3, v4, rfl, rfl⟩
      walk_at "rd"
      exact k _ sp
theorem ok_same_fault (T : Top K mg) : FnOk P w K mg base CX0 1 T.f_same_fault T.fd_same_fault ["none", "one"] (spNo fun vs _ => ∃ z o : Nat, vs = [.int z, .int o] ∧ z ≠ o) := by
  refine T.F_same_fault.ok sc_same_fault (fun vs H Q E h => ?_) (fun cdv A outer s H vs Q E hr h => ?_)
  · obtain ⟨⟨z, o, rfl, _⟩, _⟩ := h; rfl
  · obtain ⟨⟨z, o, rfl, ne⟩, k⟩ := h
    refine ⟨_, (pss_one (ps_ret (pe_ifExp (pt_cmpR op_eq (pv 0) (pv 1) (nomark _)) (pe_tup (pa_cons pe_str (pa_cons (pe_un un_neg pe_int) (pa_cons (pe_un un_neg pe_int) (pa_cons (pe_un un_neg pe_int) pa_nil))))) pe_non))), ?_⟩
    walk_at "rd"
    refine RD.iteD (fun c => absurd c (by omega)) (fun c => ?_)
    walk_at "rd"
    exact k _ (Same.refl _)
theorem ok_size_fault (T : Top K mg) : FnOk P w K mg base CX0 8 T.f_size_fault T.fd_size_fault ["joins", "products", "none", "one"] (spNo fun vs H => ∃ a b n J M z o, vs = [.ref a, .ref b, .int (z : Nat), .int (o : Nat)] ∧ TabN H a n J ∧ TabN H b n M ∧ Good n J M z o) := by
  refine T.F_size_fault.ok sc_size_fault (fun vs H Q E h => ?_) (fun cdv A outer s H vs Q E hr h => ?_)
  · obtain ⟨⟨a, b, n, J, M, z, o, rfl, _⟩, _⟩ := h; rfl
  · obtain ⟨⟨a, b, n, J, M, z, o, rfl, tj, tp, G⟩, k⟩ := h
    obtain ⟨rs, len, ea, rows⟩ := id tj
    have n16 := G.n16
    have n2 := G.n2
    have wj : Wth n fun i j => (J i j : Int) := fun i j hi hj => by have := G.wj i j hi hj; show (0 : Int) ≤ ((J i j : Nat) : Int) ∧ ((J i j : Nat) : Int) < n; omega
    have wp : Wth n fun i j => (M i j : Int) := fun i j hi hj => by have := G.wp i j hi hj; show (0 : Int) ≤ ((M i j : Nat) : Int) ∧ ((M i j : Nat) : Int) < n; omega
    refine ⟨_, (pss_cons (ps_if (PW.pt (pw_or (pt_not (pt_val (pe_call (ok_is_row T) (hr.mono (by decide)) (by rfl) T.g_is_row T.F_is_row.kp T.b_is_row .nil pass0 (pa_cons (pv 0) pa_nil)))) (pw_or1 (pt_not (pt_chain op_le op_le (pe_glob (v := V.int 2) (by rfl) T.g_FEWEST_WORTHS ⟨_, rfl⟩) (pe_callB RD.c_len (by rfl) T.n_len (by decide +kernel) (pa_cons (pv 0) pa_nil)) (pe_glob (v := V.int 16) (by rfl) T.g_MOST_WORTHS ⟨_, rfl⟩))))))
 (pss_one (ps_ret (pe_tup (pa_cons pe_str (pa_cons (pe_un un_neg pe_int) (pa_cons (pe_un un_neg pe_int) (pa_cons (pe_un un_neg pe_int) pa_nil)))))))
 pss_nil)
 (pss_cons (ps_set (i := 4) sc_size_fault.nd rfl (Or.inl rfl) (pe_callB RD.c_len (by rfl) T.n_len (by decide +kernel) (pa_cons (pv 0) pa_nil)))
 (pss_cons (ps_if (PW.pt (pw_or (pt_not (pt_val (pe_call (ok_is_square T) (hr.mono (by decide)) (by rfl) T.g_is_square T.F_is_square.kp T.b_is_square .nil pass0 (pa_cons (pv 4) (pa_cons (pv 0) pa_nil))))) (pw_or1 (pt_not (pt_val (pe_call (ok_is_square T) (hr.mono (by decide)) (by rfl) T.g_is_square T.F_is_square.kp T.b_is_square .nil pass0 (pa_cons (pv 4) (pa_cons (pv 1) pa_nil))))))))
 (pss_one (ps_ret (pe_tup (pa_cons pe_str (pa_cons (pe_un un_neg pe_int) (pa_cons (pe_un un_neg pe_int) (pa_cons (pe_un un_neg pe_int) pa_nil)))))))
 pss_nil)
 (pss_cons (ps_if (PW.pt (pw_or (pt_not (pt_val (pe_call (ok_is_below T) (hr.mono (by decide)) (by rfl) T.g_is_below T.F_is_below.kp T.b_is_below .nil pass0 (pa_cons (pv 4) (pa_cons (pv 2) pa_nil))))) (pw_or1 (pt_not (pt_val (pe_call (ok_is_below T) (hr.mono (by decide)) (by rfl) T.g_is_below T.F_is_below.kp T.b_is_below .nil pass0 (pa_cons (pv 4) (pa_cons (pv 3) pa_nil))))))))
 (pss_one (ps_ret (pe_tup (pa_cons pe_str (pa_cons (pe_un un_neg pe_int) (pa_cons (pe_un un_neg pe_int) (pa_cons (pe_un un_neg pe_int) pa_nil)))))))
 pss_nil)
 (pss_one (ps_ret pe_non)))))), ?_⟩
    walk_at "rd"
    refine ⟨.ref a, .type "list", true, rfl, .base (.lst ea), kitA_list, fun H1 s1 => ?_⟩
    have ea1 := s1 _ _ ea
    replace tj := TabL.same tj s1
    replace tp := TabL.same tp s1
    walk_at "rd"
    rw [List.length_map, len, decide_eq_true (by omega : (2 : Int) ≤ n)]
    walk_at "rd"
    rw [decide_eq_true (by omega : (n : Int) ≤ 16)]
    walk_at "rd"
    rw [List.length_map, len]
    refine ⟨n, a, _, rfl, n16, tj, wj, fun H2 s2 => ?_⟩
    replace tj := TabL.same tj s2
    replace tp := TabL.same tp s2
    walk_at "rd"
    refine ⟨n, b, _, rfl, n16, tp, wp, fun H3 s3 => ?_⟩
    walk_at "rd"
    refine ⟨n, z, rfl, by omega, by have := G.zn; omega, ?_⟩
    walk_at "rd"
    refine ⟨n, o, rfl, by omega, by have := G.on; omega, ?_⟩
    walk_at "rd"
    exact k _ ((s1.trans s2).trans s3)
theorem d_orT {K : PySem.W.Frag} {ta tb : TE} {σ : L2.St} {H : Hp} {Q : VK} (h : ta σ H fun x H1 => ∃ k, TruV K x H1 k ∧ if k = true then Q x H1 else tb σ H1 Q) : tOrT K ta tb σ H Q := h
theorem ok_first_fault (T : Top K mg) : FnOk P w K mg base CX0 10 T.f_first_fault T.fd_first_fault ["joins", "products", "none", "one"] (spNo fun vs H => ∃ a b n J M z o, vs = [.ref a, .ref b, .int (z : Nat), .int (o : Nat)] ∧ TabN H a n J ∧ TabN H b n M ∧ Good n J M z o) := by
  refine T.F_first_fault.ok sc_first_fault (fun vs H Q E h => ?_) (fun cdv A outer s H vs Q E hr h => ?_)
  · obtain ⟨⟨a, b, n, J, M, z, o, rfl, _⟩, _⟩ := h; rfl
  · obtain ⟨⟨a, b, n, J, M, z, o, rfl, tj, tp, G⟩, k⟩ := h
    refine ⟨_, (pss_one (ps_ret (pe_orT (pe_call (ok_size_fault T) (hr.mono (by decide)) (by rfl) T.g_size_fault T.F_size_fault.kp T.b_size_fault .nil pass0 (pa_cons (pv 0) (pa_cons (pv 1) (pa_cons (pv 2) (pa_cons (pv 3) pa_nil))))) (pe_orT (pe_call (ok_none_fault T) (hr.mono (by decide)) (by rfl) T.g_none_fault T.F_none_fault.kp T.b_none_fault .nil pass0 (pa_cons (pv 0) (pa_cons (pv 1) (pa_cons (pv 2) pa_nil)))) (pe_orT (pe_call (ok_one_fault T) (hr.mono (by decide)) (by rfl) T.g_one_fault T.F_one_fault.kp T.b_one_fault .nil pass0 (pa_cons (pv 1) (pa_cons (pv 3) pa_nil))) (pe_orT (pe_call (ok_idle_fault T) (hr.mono (by decide)) (by rfl) T.g_idle_fault T.F_idle_fault.kp T.b_idle_fault .nil pass0 (pa_cons (pv 0) pa_nil)) (pe_orT (pe_call (ok_swap_fault T) (hr.mono (by decide)) (by rfl) T.g_swap_fault T.F_swap_fault.kp T.b_swap_fault .nil pass0 (pa_cons (pv 0) pa_nil)) (pe_orT (pe_call (ok_grouping_fault T) (hr.mono (by decide)) (by rfl) T.g_grouping_fault T.F_grouping_fault.kp T.b_grouping_fault .nil pass0 (pa_cons pe_str (pa_cons (pv 0) pa_nil))) (pe_orT (pe_call (ok_grouping_fault T) (hr.mono (by decide)) (by rfl) T.g_grouping_fault T.F_grouping_fault.kp T.b_grouping_fault .nil pass0 (pa_cons pe_str (pa_cons (pv 1) pa_nil))) (pe_orT (pe_call (ok_over_fault T) (hr.mono (by decide)) (by rfl) T.g_over_fault T.F_over_fault.kp T.b_over_fault .nil pass0 (pa_cons (pv 0) (pa_cons (pv 1) pa_nil))) (pe_one (pe_call (ok_same_fault T) (hr.mono (by decide)) (by rfl) T.g_same_fault T.F_same_fault.kp T.b_same_fault .nil pass0 (pa_cons (pv 2) (pa_cons (pv 3) pa_nil)))))))))))))), ?_⟩
    walk_at "rd"
    refine d_orT ?_
    walk_at "rd"
    refine ⟨⟨a, b, n, J, M, z, o, rfl, tj, tp, G⟩, fun H1 s1 => ?_⟩
    replace tj := TabL.same tj s1
    replace tp := TabL.same tp s1
    refine ⟨false, rfl, ?_⟩
    walk_at "rd"
    try refine d_orT ?_
    walk_at "rd"
    refine ⟨⟨a, b, n, J, M, z, o, rfl, tj, tp, G⟩, fun H2 s2 => ?_⟩
    replace tj := TabL.same tj s2
    replace tp := TabL.same tp s2
    refine ⟨false, rfl, ?_⟩
    walk_at "rd"
    try refine d_orT ?_
    walk_at "rd"
    refine ⟨⟨b, n, J, M, z, o, rfl, tp, G⟩, fun H3 s3 => ?_⟩
    replace tj := TabL.same tj s3
    replace tp := TabL.same tp s3
    refine ⟨false, rfl, ?_⟩
    walk_at "rd"
    try refine d_orT ?_
    walk_at "rd"
    refine ⟨⟨a, n, J, M, z, o, rfl, tj, G⟩, fun H4 s4 => ?_⟩
    replace tj := TabL.same tj s4
    replace tp := TabL.same tp s4
    refine ⟨false, rfl, ?_⟩
    walk_at "rd"
    try refine d_orT ?_
    walk_at "rd"
    refine ⟨⟨a, n, J, M, z, o, rfl, tj, G⟩, fun H5 s5 => ?_⟩
    replace tj := TabL.same tj s5
    replace tp := TabL.same tp s5
    refine ⟨false, rfl, ?_⟩
    walk_at "rd"
    try refine d_orT ?_
    walk_at "rd"
    refine ⟨⟨_, a, n, J, rfl, tj, G.n16, G.wj, G.gj⟩, fun H6 s6 => ?_⟩
    replace tj := TabL.same tj s6
    replace tp := TabL.same tp s6
    refine ⟨false, rfl, ?_⟩
    walk_at "rd"
    try refine d_orT ?_
    walk_at "rd"
    refine ⟨⟨_, b, n, M, rfl, tp, G.n16, G.wp, G.gp⟩, fun H7 s7 => ?_⟩
    replace tj := TabL.same tj s7
    replace tp := TabL.same tp s7
    refine ⟨false, rfl, ?_⟩
    walk_at "rd"
    try refine d_orT ?_
    walk_at "rd"
    refine ⟨⟨a, b, n, J, M, z, o, rfl, tj, tp, G⟩, fun H8 s8 => ?_⟩
    replace tj := TabL.same tj s8
    replace tp := TabL.same tp s8
    refine ⟨false, rfl, ?_⟩
    walk_at "rd"
    try refine d_orT ?_
    walk_at "rd"
    exact ⟨⟨z, o, rfl, G.same⟩, fun H9 s9 => k _ ((((((((s1.trans s2).trans s3).trans s4).trans s5).trans s6).trans s7).trans s8).trans s9)⟩
end

/-! ### a reckoning's own tables, its inner methods -/
def RowT (H : Hp) (r : Addr) (n : Nat) (g : Nat → Nat) : Prop := H r = some (.tup ((List.range n).map fun j => V.int (g j : Nat)))
def TabT (H : Hp) (a : Addr) (n : Nat) (f : Nat → Nat → Nat) : Prop := ∃ rs : List Addr, rs.length = n ∧ H a = some (.tup (rs.map V.ref)) ∧ ∀ (i : Nat) (r : Addr), rs[i]? = some r → RowT H r n (f i)
theorem TabT.same {H H' : Hp} {a : Addr} {n : Nat} {f : Nat → Nat → Nat} (h : TabT H a n f) (s : Same H H') : TabT H' a n f := by
  obtain ⟨rs, l, e, q⟩ := h
  exact ⟨rs, l, s _ _ e, fun i r z => s _ _ (q i r z)⟩
section
variable {K : PySem.W.Frag} {H : Hp} {a : Addr} {n : Nat} {Q : VK}
theorem iyT {f : Nat → Nat → Nat} {i : Int} {m : Nat} (h : TabT H a n f) (e : i = m) (hn : m < n) (k : ∀ r, RowT H r n (f m) → Q (.ref r) H) : rIxT K (.ref a) (.int i) H Q := by
  obtain ⟨rs, len, ea, rows⟩ := h
  have hm : m < rs.length := by rw [len]; exact hn
  subst e
  exact RD.d_ixT (SqT.of ea) (atI_nat (by rw [List.getElem?_map, List.getElem?_eq_getElem hm]; rfl)) (k _ (rows m _ (List.getElem?_eq_getElem hm)))
theorem iyR {g : Nat → Nat} {i : Int} {m : Nat} (h : RowT H a n g) (e : i = m) (hn : m < n) (k : Q (.int (g m : Nat)) H) : rIxT K (.ref a) (.int i) H Q := by
  subst e
  exact RD.d_ixT (SqT.of h) (atI_nat (by rw [List.getElem?_map, List.getElem?_range hn]; rfl)) k
end
/-- the object at x has these tables, and none -/
structure Rek (C : Addr) (H : Hp) (x : Addr) (n : Nat) (J M : Nat → Nat → Nat) (z : Nat) : Prop where
  zn : z < n
  n16 : n ≤ 16
  wj : ∀ a b, a < n → b < n → J a b < n
  wp : ∀ a b, a < n → b < n → M a b < n
  has : ∃ (dx jt pt : Addr) (fs : List (Str × V)), H x = some (.ins C dx fs) ∧ fs.lookup ("joins" : Str) = some (.ref jt) ∧ TabT H jt n J ∧ fs.lookup ("products" : Str) = some (.ref pt) ∧ TabT H pt n M ∧ fs.lookup ("none" : Str) = some (.int z) ∧
    fs.lookup ("_joined" : Str) = none ∧ fs.lookup ("_meet" : Str) = none ∧ fs.lookup ("_left" : Str) = none ∧ fs.lookup ("_right" : Str) = none
theorem Rek.same {C : Addr} {H H' : Hp} {x : Addr} {n : Nat} {J M : Nat → Nat → Nat} {z : Nat} (h : Rek C H x n J M z) (s : Same H H') : Rek C H' x n J M z := by
  obtain ⟨dx, jt, pt, fs, e, l1, t1, l2, t2, r⟩ := h.has
  exact ⟨h.zn, h.n16, h.wj, h.wp, dx, jt, pt, fs, s _ _ e, l1, t1.same s, l2, t2.same s, r⟩
def spJoined (C : Addr) : Sp := fun vs H Q _ => ∃ (x l : Addr) (n : Nat) (J M : Nat → Nat → Nat) (z : Nat) (ws : List Nat), vs = [.ref x, .ref l] ∧ Rek C H x n J M z ∧ H l = some (.lst (ws.map fun j => V.int (j : Nat))) ∧ (∀ j ∈ ws, j < n) ∧ ∀ r : Nat, r < n → Q (.int r) H
def spTwoW (C : Addr) : Sp := fun vs H Q _ => ∃ (x : Addr) (n : Nat) (J M : Nat → Nat → Nat) (z a b : Nat), vs = [.ref x, .int a, .int b] ∧ Rek C H x n J M z ∧ a < n ∧ b < n ∧ ∀ (r : Nat) (H' : Hp), Same H H' → r < n → Q (.int r) H'
section
variable {P : Program} {w : World} {K : PySem.W.Frag} {mg : Str → Option Value} {base : Heap} {H : Hp} {R : V → Prop}
theorem rekJ (T : Top K mg) {x : Addr} {n : Nat} {J M : Nat → Nat → Nat} {z : Nat} (h : Rek T.C_Reckoning H x n J M z) (k : ∀ jt, TabT H jt n J → R (.ref jt)) : ∃ a' C dx fs v, V.ref x = .ref a' ∧ H a' = some (.ins C dx fs) ∧ Cls K C ∧ NoAttr K C "joins" ∧ fs.lookup ("joins" : Str) = some v ∧ R v := by
  obtain ⟨dx, jt, pt, fs, e, l1, t1, _⟩ := h.has
  exact ⟨x, _, dx, fs, _, rfl, e, T.cl_Reckoning, T.na_Reckoning_joins, l1, k jt t1⟩
theorem rekP (T : Top K mg) {x : Addr} {n : Nat} {J M : Nat → Nat → Nat} {z : Nat} (h : Rek T.C_Reckoning H x n J M z) (k : ∀ pt, TabT H pt n M → R (.ref pt)) : ∃ a' C dx fs v, V.ref x = .ref a' ∧ H a' = some (.ins C dx fs) ∧ Cls K C ∧ NoAttr K C "products" ∧ fs.lookup ("products" : Str) = some v ∧ R v := by
  obtain ⟨dx, jt, pt, fs, e, l1, t1, l2, t2, _⟩ := h.has
  exact ⟨x, _, dx, fs, _, rfl, e, T.cl_Reckoning, T.na_Reckoning_products, l2, k pt t2⟩
theorem rekN (T : Top K mg) {x : Addr} {n : Nat} {J M : Nat → Nat → Nat} {z : Nat} (h : Rek T.C_Reckoning H x n J M z) (k : R (.int z)) : ∃ a' C dx fs v, V.ref x = .ref a' ∧ H a' = some (.ins C dx fs) ∧ Cls K C ∧ NoAttr K C "none" ∧ fs.lookup ("none" : Str) = some v ∧ R v := by
  obtain ⟨dx, jt, pt, fs, e, l1, t1, l2, t2, l3, _⟩ := h.has
  exact ⟨x, _, dx, fs, _, rfl, e, T.cl_Reckoning, T.na_Reckoning_none, l3, k⟩
theorem rekM {C : Addr} {x : Addr} {n : Nat} {J M : Nat → Nat → Nat} {z : Nat} {m : Str} {R : Prop} (h : Rek C H x n J M z) (hm : m = "_joined" ∨ m = "_meet" ∨ m = "_left" ∨ m = "_right") (k : R) : ∃ a' dx fs, V.ref x = .ref a' ∧ H a' = some (.ins C dx fs) ∧ fs.lookup m = none ∧ R := by
  obtain ⟨dx, jt, pt, fs, e, l1, t1, l2, t2, l3, m1, m2, m3, m4⟩ := h.has
  refine ⟨x, dx, fs, rfl, e, ?_, k⟩
  rcases hm with rfl | rfl | rfl | rfl
  · exact m1
  · exact m2
  · exact m3
  · exact m4
theorem ok_Reckoning_joined (T : Top K mg) : FnOk P w K mg base CX0 1 T.f_Reckoning_joined T.fd_Reckoning_joined ["self", "worths"] (spJoined T.C_Reckoning) := by
  refine T.F_Reckoning_joined.ok sc_Reckoning_joined (fun vs H Q E h => ?_) (fun cdv A outer s H vs Q E hr h => ?_)
  · obtain ⟨x, l, n, J, M, z, ws, rfl, _⟩ := h; rfl
  · obtain ⟨x, l, n, J, M, z, ws, rfl, re, el, all, k⟩ := h
    refine ⟨_, (pss_cons (ps_set (i := 2) sc_Reckoning_joined.nd rfl (Or.inl rfl) (pe_fld (pv 0) (by rfl)))
 (pss_cons (ps_for PassesOwn.never rfl (pi_list (pv 1)) (pg_name (i := 3) sc_Reckoning_joined.nd rfl (Or.inl rfl))
 (pss_one (ps_set (i := 2) sc_Reckoning_joined.nd rfl (Or.inl rfl) (pe_ix ix_tup (pe_ix ix_tup (pe_fld (pv 0) (by rfl)) (pv 2) (fun _ _ => rfl)) (pv 3) (fun _ _ => rfl)))))
 (pss_one (ps_ret (pv 2))))), ?_⟩
    walk_at "rd"
    refine rekN T re ?_
    walk_at "rd"
    refine RD.f_list (K := K) (a := l) (xs := ws.map fun j => V.int (j : Nat)) (fun i σ' H' => ∃ (r : Nat) (v : Option V), r < n ∧ σ' = [some (.ref x), some (.ref l), some (.int r), v] ∧ H' = H) ⟨z, none, re.zn, rfl, rfl⟩ ?_ ?_ ?_
    · rintro i σ' H' _ ⟨r, v, _, _, rfl⟩
      exact SqL.of el
    · rintro i y σ' H' hi ⟨r, v, hr2, rfl, rfl⟩
      rw [List.getElem?_map] at hi
      obtain ⟨j, ej, rfl⟩ := Option.map_eq_some_iff.mp hi
      have hj := all j (List.mem_of_getElem? ej)
      walk_at "rd"
      refine rekJ T re (fun jt tt => ?_)
      walk_at "rd"
      refine iyT (m := r) tt rfl hr2 (fun q hq => ?_)
      walk_at "rd"
      refine iyR (m := j) hq rfl hj ?_
      walk_at "rd"
      exact ⟨J r j, _, re.wj r j hr2 hj, rfl, rfl⟩
    · rintro σ' H' ⟨r, v, hr2, rfl, rfl⟩
      walk_at "rd"
      exact k r hr2
/-- one more worth behind the others -/
theorem lcPut {H H' : Hp} {D : Addr} {ws : List Nat} {n i k : Nat} (hD : H D = none) (s1 : Same H H') (hi : i < n) (lw : ws.length ≤ k) (k16 : k < 17) (eD : H' D = some (.lst (ws.map fun j => V.int (j : Nat)))) (all : ∀ j ∈ ws, j < n) :
    ∃ acc, H' D = some (.lst acc) ∧ acc.length < sizeLine ∧ ∃ ws' : List Nat, Same H (upd H' D (.lst (acc ++ [V.int (0 + (i : Int))]))) ∧ upd H' D (.lst (acc ++ [V.int (0 + (i : Int))])) D = some (.lst (ws'.map fun j => V.int (j : Nat))) ∧ ws'.length ≤ k + 1 ∧ ∀ j ∈ ws', j < n := by
  refine ⟨_, eD, by rw [List.length_map]; exact Nat.lt_of_le_of_lt lw (Nat.lt_of_lt_of_le k16 (by decide)), ws ++ [i], fun b u e => ?_, ?_, by rw [List.length_append]; simpa using lw, fun j hj => ?_⟩
  · rw [upd_ne (ne_of_none e hD)]; exact s1 _ _ e
  · rw [upd_same, List.map_append, Int.zero_add]; rfl
  · rcases List.mem_append.mp hj with hj | hj
    · exact all j hj
    · rw [List.mem_singleton.mp hj]; exact hi
theorem ok_Reckoning_meet (T : Top K mg) : FnOk P w K mg base CX0 3 T.f_Reckoning_meet T.fd_Reckoning_meet ["self", "a", "b"] (spTwoW T.C_Reckoning) := by
  refine T.F_Reckoning_meet.ok sc_Reckoning_meet (fun vs H Q E h => ?_) (fun cdv A outer s H vs Q E hr h => ?_)
  · obtain ⟨x, n, J, M, z, a, b, rfl, _⟩ := h; rfl
  · obtain ⟨x, n, J, M, z, a, b, rfl, re, ha, hb, k⟩ := h
    refine ⟨_, (pss_cons (ps_setLc (i := 3) (own := [("worth", 4)]) (g := (gName 4)) (tt := _) rfl sc_Reckoning_meet.nd rfl rfl (sw_true rfl rfl rfl (by decide +kernel)) (pi_range1 (by rfl) T.n_range (pa_cons (pe_callB RD.c_len (by rfl) T.n_len (by decide +kernel) (pa_cons (pe_fld (pv 0) (by rfl)) pa_nil)) pa_nil)) (blkOk_by (own := [("worth", 4)]) (N := ["self", "a", "b", "below", "worth"]) (sc := defScope s_Reckoning_meet) (by decide +kernel)) (fun _ _ _ _ _ => (pg_name (i := 4) sc_Reckoning_meet.nd rfl (Or.inl rfl))) (fun _ _ _ _ _ => (pts_one (pt_cmpR op_eq (pe_ix (OQ.ixT K) (pe_ix (OQ.ixT K) (OQ.fldK K (pv 0)) (pv 4) (fun _ _ => rfl)) (pv 1) (fun _ _ => rfl)) (pv 1) (nomark _)))) (fun _ _ _ _ _ => (pv 4)))
 (pss_one (ps_ret (pe_meth (pv 0) T.cl_Reckoning T.m_Reckoning_joined (ok_Reckoning_joined T) (hr.mono (by decide)) T.b_Reckoning_joined .nil pass0 (pa_cons (pe_lc (own := [("worth", 4)]) (g := (gName 4)) (tt := _) rfl sc_Reckoning_meet.nd (pi_list (pv 3)) (blkOk_by (own := [("worth", 4)]) (N := ["self", "a", "b", "below", "worth"]) (sc := defScope s_Reckoning_meet) (by decide +kernel)) (fun _ _ _ _ _ => (pg_name (i := 4) sc_Reckoning_meet.nd rfl (Or.inl rfl))) (fun _ _ _ _ _ => (pts_one (pt_cmpR op_eq (pe_ix (OQ.ixT K) (pe_ix (OQ.ixT K) (OQ.fldK K (pv 0)) (pv 4) (fun _ _ => rfl)) (pv 2) (fun _ _ => rfl)) (pv 2) (nomark _)))) (fun _ _ _ _ _ => (pv 4))) pa_nil))))), ?_⟩
    walk_at "rd"
    refine rekJ T re (fun jt tt => ?_)
    obtain ⟨rs, len, ej, rows⟩ := id tt
    walk_at "rd"
    have n16 := re.n16
    refine ⟨n, by rw [List.length_map, len], by omega, by omega, ?_⟩
    intro D hD
    refine lc_range (lo := 0) (n := n) (fun i H' => ∃ ws : List Nat, Same H H' ∧ H' D = some (.lst (ws.map fun j => V.int (j : Nat))) ∧ ws.length ≤ i ∧ ∀ j ∈ ws, j < n) ⟨[], same_upd hD, upd_same, Nat.le_refl _, (fun _ m => nomatch m)⟩ ?_ ?_
    · rintro i H' hi ⟨ws, s1, eD, lw, all⟩
      have re1 := re.same s1
      walk_at "rd"
      refine rekJ T re1 (fun jt1 tt1 => ?_)
      walk_at "rd"
      refine iyT (m := i) tt1 (by omega) hi (fun q hq => ?_)
      walk_at "rd"
      refine iyR (m := a) hq rfl ha ?_
      walk_at "rd"
      refine RD.iteD (fun c => ?_) (fun c => ?_)
      · walk_at "rd"
        exact lcPut hD s1 hi lw (by omega) eD all
      · exact ⟨ws, s1, eD, by omega, all⟩
    · rintro H' ⟨ws, s1, eD, lw, all⟩
      have re1 := re.same s1
      walk_at "rd"
      refine rekM re1 (.inl rfl) ?_
      walk_at "rd"
      intro D2 hD2
      refine lc_list (K := K) (a := D) (xs := ws.map fun j => V.int (j : Nat)) (fun i H'' => ∃ us : List Nat, Same H' H'' ∧ H'' D2 = some (.lst (us.map fun j => V.int (j : Nat))) ∧ us.length ≤ i ∧ ∀ j ∈ us, j < n) ⟨[], same_upd hD2, upd_same, Nat.le_refl _, (fun _ m => nomatch m)⟩ ?_ ?_ ?_
      · rintro i H'' _ ⟨us, s2, _⟩
        exact SqL.of (s2 _ _ eD)
      · rintro i y H'' hi ⟨us, s2, eD2, lu, all2⟩
        have il : i < ws.length := by have := (List.getElem?_eq_some_iff.mp hi).1; simpa using this
        rw [List.getElem?_map, List.getElem?_eq_getElem il] at hi
        cases hi
        have hj := all _ (List.getElem_mem il)
        generalize ws[i] = j at *
        walk_at "rd"
        refine rekJ T (re1.same s2) (fun jt1 tt1 => ?_)
        walk_at "rd"
        refine iyT (m := j) tt1 rfl hj (fun q hq => ?_)
        walk_at "rd"
        refine iyR (m := b) hq rfl hb ?_
        walk_at "rd"
        refine RD.iteD (fun c => ?_) (fun c => ?_)
        · walk_at "rd"
          have z := lcPut hD2 s2 hj lu (by omega) eD2 all2
          rwa [Int.zero_add] at z
        · exact ⟨us, s2, eD2, by omega, all2⟩
      · rintro H'' ⟨us, s2, eD2, lu, all2⟩
        walk_at "rd"
        exact ⟨x, D2, n, J, M, z, us, rfl, re1.same s2, eD2, all2, fun r hr2 => k r _ (s1.trans s2) hr2⟩
theorem ok_Reckoning_left (T : Top K mg) : FnOk P w K mg base CX0 3 T.f_Reckoning_left T.fd_Reckoning_left ["self", "a", "c"] (spTwoW T.C_Reckoning) := by
  refine T.F_Reckoning_left.ok sc_Reckoning_left (fun vs H Q E h => ?_) (fun cdv A outer s H vs Q E hr h => ?_)
  · obtain ⟨x, n, J, M, z, a, b, rfl, _⟩ := h; rfl
  · obtain ⟨x, n, J, M, z, a, b, rfl, re, ha, hb, k⟩ := h
    have n16 := re.n16
    refine ⟨_, (pss_cons (ps_set (i := 3) sc_Reckoning_left.nd rfl (Or.inr rfl) (pe_ix ix_tup (pe_fld (pv 0) (by rfl)) (pv 1) (fun _ _ => rfl)))
 (pss_one (ps_ret (pe_meth (pv 0) T.cl_Reckoning T.m_Reckoning_joined (ok_Reckoning_joined T) (hr.mono (by decide)) T.b_Reckoning_joined .nil pass0 (pa_cons (pe_lc (own := [("b", 4)]) (g := (gName 4)) (tt := _) rfl sc_Reckoning_left.nd (pi_range1 (by rfl) T.n_range (pa_cons (pe_callB RD.c_len (by rfl) T.n_len (by decide +kernel) (pa_cons (pv 3) pa_nil)) pa_nil)) (blkOk_by (own := [("b", 4)]) (N := ["self", "a", "c", "row", "b"]) (sc := defScope s_Reckoning_left) (by decide +kernel)) (fun _ _ _ _ _ => (pg_name (i := 4) sc_Reckoning_left.nd rfl (Or.inl rfl))) (fun _ _ _ _ _ => (pts_one (pt_cmpR op_eq (pe_ix (OQ.ixT K) (pe_ix (OQ.ixT K) (OQ.fldK K (pv 0)) (pe_ix (OQ.ixT K) (pv 3) (pv 4) (fun _ _ => rfl)) (fun _ _ => rfl)) (pv 2) (fun _ _ => rfl)) (pv 2) (nomark _)))) (fun _ _ _ _ _ => (pv 4))) pa_nil))))), ?_⟩
    walk_at "rd"
    refine rekP T re (fun pt tp => ?_)
    walk_at "rd"
    refine iyT (m := a) tp rfl ha (fun row hrow => ?_)
    have hrow' : H row = some (.tup ((List.range n).map fun j => V.int (M a j : Nat))) := hrow
    walk_at "rd"
    refine rekM re (.inl rfl) ?_
    walk_at "rd"
    refine ⟨n, by rw [List.length_map, List.length_range], by omega, by omega, ?_⟩
    intro D hD
    refine lc_range (lo := 0) (n := n) (fun i H' => ∃ ws : List Nat, Same H H' ∧ H' D = some (.lst (ws.map fun j => V.int (j : Nat))) ∧ ws.length ≤ i ∧ ∀ j ∈ ws, j < n) ⟨[], same_upd hD, upd_same, Nat.le_refl _, (fun _ m => nomatch m)⟩ ?_ ?_
    · rintro i H' hi ⟨ws, s1, eD, lw, all⟩
      have re1 := re.same s1
      have hrow1 : RowT H' row n (M a) := s1 _ _ hrow
      walk_at "rd"
      refine rekJ T re1 (fun jt1 tt1 => ?_)
      walk_at "rd"
      refine iyR (m := i) hrow1 (by omega) hi ?_
      walk_at "rd"
      refine iyT (m := M a i) tt1 rfl (re.wp a i ha hi) (fun q hq => ?_)
      walk_at "rd"
      refine iyR (m := b) hq rfl hb ?_
      walk_at "rd"
      refine RD.iteD (fun c => ?_) (fun c => ?_)
      · walk_at "rd"
        exact lcPut hD s1 hi lw (by omega) eD all
      · exact ⟨ws, s1, eD, by omega, all⟩
    · rintro H' ⟨ws, s1, eD, lw, all⟩
      walk_at "rd"
      exact ⟨x, D, n, J, M, z, ws, rfl, re.same s1, eD, all, fun r hr2 => k r _ s1 hr2⟩
end

/-! ### a reckoning made -/
section
variable {P : Program} {w : World} {K : PySem.W.Frag} {mg : Str → Option Value} {base : Heap} {H : Hp} {R : V → Prop}
theorem d_iTup {K : PySem.W.Frag} {tl : TE} {σ : L2.St} {H : Hp} {R : It → Hp → Prop} (h : tl σ H fun x H1 => ∃ a, x = .ref a ∧ (∃ xs, SqT K H1 a xs) ∧ R (Itt K a) H1) : iTup K tl σ H R := h
theorem ok_Reckoning_right (T : Top K mg) : FnOk P w K mg base CX0 3 T.f_Reckoning_right T.fd_Reckoning_right ["self", "c", "a"] (spTwoW T.C_Reckoning) := by
  refine T.F_Reckoning_right.ok sc_Reckoning_right (fun vs H Q E h => ?_) (fun cdv A outer s H vs Q E hr h => ?_)
  · obtain ⟨x, n, J, M, z, a, b, rfl, _⟩ := h; rfl
  · obtain ⟨x, n, J, M, z, c, a, rfl, re, hc, ha, k⟩ := h
    have n16 := re.n16
    refine ⟨_, (pss_cons (ps_set (i := 3) sc_Reckoning_right.nd rfl (Or.inr rfl) (pe_lc (own := [("row", 4)]) (g := (gName 4)) (tt := tYes) rfl sc_Reckoning_right.nd (pi_tup (pe_fld (pv 0) (by rfl))) (blkOk_by (own := [("row", 4)]) (N := ["self", "c", "a", "column", "row", "b"]) (sc := defScope s_Reckoning_right) (by decide +kernel)) (fun _ _ _ _ _ => (pg_name (i := 4) sc_Reckoning_right.nd rfl (Or.inl rfl))) (fun _ _ _ _ _ => pts_nil) (fun _ _ _ _ _ => (pe_ix (OQ.ixT K) (pv 4) (pv 2) (fun _ _ => rfl)))))
 (pss_one (ps_ret (pe_meth (pv 0) T.cl_Reckoning T.m_Reckoning_joined (ok_Reckoning_joined T) (hr.mono (by decide)) T.b_Reckoning_joined .nil pass0 (pa_cons (pe_lc (own := [("b", 5)]) (g := (gName 5)) (tt := _) rfl sc_Reckoning_right.nd (pi_range1 (by rfl) T.n_range (pa_cons (pe_callB RD.c_len (by rfl) T.n_len (by decide +kernel) (pa_cons (pv 3) pa_nil)) pa_nil)) (blkOk_by (own := [("b", 5)]) (N := ["self", "c", "a", "column", "row", "b"]) (sc := defScope s_Reckoning_right) (by decide +kernel)) (fun _ _ _ _ _ => (pg_name (i := 5) sc_Reckoning_right.nd rfl (Or.inl rfl))) (fun _ _ _ _ _ => (pts_one (pt_cmpR op_eq (pe_ix (OQ.ixT K) (pe_ix (OQ.ixT K) (OQ.fldK K (pv 0)) (pe_ix (OQ.ixL K) (pv 3) (pv 5) (fun _ _ => rfl)) (fun _ _ => rfl)) (pv 1) (fun _ _ => rfl)) (pv 1) (nomark _)))) (fun _ _ _ _ _ => (pv 5))) pa_nil))))), ?_⟩
    walk_at "rd"
    refine d_iTup ?_
    walk_at "rd"
    refine rekP T re (fun pt tp => ?_)
    obtain ⟨rs, len, ep, rows⟩ := id tp
    refine ⟨pt, rfl, ⟨_, SqT.of ep⟩, ?_⟩
    intro D hD
    refine lc_tup (K := K) (a := pt) (xs := rs.map V.ref) (fun i H' => Same H H' ∧ H' D = some (.lst ((List.range i).map fun j => V.int (M j a : Nat)))) ⟨same_upd hD, upd_same⟩ ?_ ?_ ?_
    · rintro i H' _ ⟨s1, _⟩
      exact SqT.of (s1 _ _ ep)
    · rintro i y H' hi ⟨s1, eD⟩
      have il : i < n := by have := (List.getElem?_eq_some_iff.mp hi).1; rw [List.length_map, len] at this; exact this
      have il' : i < rs.length := by rw [len]; exact il
      rw [List.getElem?_map, List.getElem?_eq_getElem il'] at hi
      cases hi
      walk_at "rd"
      have hrow : RowT H' rs[i] n (M i) := s1 _ _ (rows i _ (List.getElem?_eq_getElem il'))
      refine iyR (m := a) hrow rfl ha ?_
      refine ⟨_, eD, by rw [List.length_map, List.length_range]; exact Nat.lt_of_lt_of_le il (Nat.le_trans n16 (by decide)), fun b u e => ?_, ?_⟩
      · rw [upd_ne (ne_of_none e hD)]; exact s1 _ _ e
      · rw [upd_same, List.range_succ, List.map_append]; rfl
    · rintro H1 ⟨s1, eD⟩
      rw [List.length_map, len] at eD
      have re1 := re.same s1
      have eDr : RowL H1 D n (fun j => (M j a : Nat)) := eD
      walk_at "rd"
      refine rekM re1 (.inl rfl) ?_
      walk_at "rd"
      refine ⟨n, by rw [List.length_map, List.length_range], by omega, by omega, ?_⟩
      intro D2 hD2
      refine lc_range (lo := 0) (n := n) (fun i H' => ∃ ws : List Nat, Same H1 H' ∧ H' D2 = some (.lst (ws.map fun j => V.int (j : Nat))) ∧ ws.length ≤ i ∧ ∀ j ∈ ws, j < n) ⟨[], same_upd hD2, upd_same, Nat.le_refl _, (fun _ m => nomatch m)⟩ ?_ ?_
      · rintro i H' hi ⟨ws, s2, eD2, lw, all⟩
        have re2 := re1.same s2
        walk_at "rd"
        refine rekJ T re2 (fun jt1 tt1 => ?_)
        walk_at "rd"
        refine ixR (m := i) (eDr.same s2) (by omega) hi ?_
        walk_at "rd"
        refine iyT (m := M i a) tt1 rfl (re.wp i a hi ha) (fun q hq => ?_)
        walk_at "rd"
        refine iyR (m := c) hq rfl hc ?_
        walk_at "rd"
        refine RD.iteD (fun _ => ?_) (fun _ => ?_)
        · walk_at "rd"
          exact lcPut hD2 s2 hi lw (by omega) eD2 all
        · exact ⟨ws, s2, eD2, by omega, all⟩
      · rintro H' ⟨ws, s2, eD2, lw, all⟩
        walk_at "rd"
        exact ⟨x, D2, n, J, M, z, ws, rfl, re1.same s2, eD2, all, fun r hr2 => k r _ (s1.trans s2) hr2⟩
end

/-! ### a reckoning made -/
/-- all but what stands at x stays -/
def Kx (x : Addr) (H H' : Hp) : Prop := ∀ b o, b ≠ x → H b = some o → H' b = some o
theorem Kx.trans {x : Addr} {H H1 H2 : Hp} (a : Kx x H H1) (b : Kx x H1 H2) : Kx x H H2 := fun c o n e => b c o n (a c o n e)
theorem Same.kx {x : Addr} {H H' : Hp} (s : Same H H') : Kx x H H' := fun b o _ e => s b o e
theorem kx_upd {x : Addr} {H : Hp} {o : HO} : Kx x H (upd H x o) := fun b u n e => by rw [upd_ne n]; exact e
theorem putF_none {f : Str} {v : V} : putF f v [] = [(f, v)] := rfl
theorem putF_ne {f g : Str} {u v : V} {r : List (Str × V)} (n : g ≠ f) : putF f v ((g, u) :: r) = (g, u) :: putF f v r := if_neg n
theorem lk_ne {f g : Str} {v : V} {r : List (Str × V)} (h : (f == g) = false) : List.lookup f ((g, v) :: r) = List.lookup f r := by simp [List.lookup, h]
theorem lk_eq {f : Str} {v : V} {r : List (Str × V)} : List.lookup f ((f, v) :: r) = some v := by simp [List.lookup]
theorem TabT.kx {H H' : Hp} {x a C dx : Addr} {fs : List (Str × V)} {n : Nat} {f : Nat → Nat → Nat} (h : TabT H a n f) (e : H x = some (.ins C dx fs)) (s : Kx x H H') : TabT H' a n f := by
  obtain ⟨rs, l, ea, q⟩ := h
  refine ⟨rs, l, s _ _ (fun z => ?_) ea, fun i r z => s _ _ (fun y => ?_) (q i r z)⟩
  · rw [z, e] at ea; cases ea
  · have w := q i r z
    unfold RowT at w
    rw [y, e] at w; cases w
theorem TabL.kx {H H' : Hp} {x a C dx : Addr} {fs : List (Str × V)} {n : Nat} {f : Nat → Nat → Int} (h : TabL H a n f) (e : H x = some (.ins C dx fs)) (s : Kx x H H') : TabL H' a n f := by
  obtain ⟨rs, l, ea, q⟩ := h
  refine ⟨rs, l, s _ _ (fun z => ?_) ea, fun i r z => s _ _ (fun y => ?_) (q i r z)⟩
  · rw [z, e] at ea; cases ea
  · have w := q i r z
    unfold RowL at w
    rw [y, e] at w; cases w
/-- a reckoning at x, whole -/
def RekF (C : Addr) (H : Hp) (x : Addr) (n : Nat) (J M : Nat → Nat → Nat) (z o : Nat) : Prop := ∃ (dx jt pt mt lt rt : Addr), H x = some (.ins C dx [("joins", .ref jt), ("products", .ref pt), ("none", .int z), ("one", .int o), ("_meets", .ref mt), ("_lefts", .ref lt), ("_rights", .ref rt)]) ∧ TabT H jt n J ∧ TabT H pt n M
def spReck (C : Addr) : Sp := fun vs H Q _ => ∃ (x dx a b : Addr) (n : Nat) (J M : Nat → Nat → Nat) (z o : Nat), vs = [.ref x, .ref a, .ref b, .int z, .int o] ∧ H x = some (.ins C dx []) ∧ TabN H a n J ∧ TabN H b n M ∧ Good n J M z o ∧ ∀ H', Kx x H H' → RekF C H' x n J M z o → Q .non H'
section
variable {P : Program} {w : World} {K : PySem.W.Frag} {mg : Str → Option Value} {base : Heap} {H : Hp} {R : V → Prop}
theorem ok_Reckoning__init (T : Top K mg) : FnOk P w K mg base CX0 12 T.f_Reckoning__init T.fd_Reckoning__init ["self", "joins", "products", "none", "one"] (spReck T.C_Reckoning) := by
  refine T.F_Reckoning__init.ok sc_Reckoning__init (fun vs H Q E h => ?_) (fun cdv A outer s H vs Q E hr h => ?_)
  · obtain ⟨x, dx, a, b, n, J, M, z, o, rfl, _⟩ := h; rfl
  · obtain ⟨x, dx, a, b, n, J, M, z, o, rfl, ex, tj, tp, G, k⟩ := h
    refine ⟨_, (C8.pss_cut (ps_set (i := 5) sc_Reckoning__init.nd rfl (Or.inl rfl) (pe_call (ok_first_fault T) (hr.mono (by decide)) (by rfl) T.g_first_fault T.F_first_fault.kp T.b_first_fault .nil pass0 (pa_cons (pv 1) (pa_cons (pv 2) (pa_cons (pv 3) (pa_cons (pv 4) pa_nil))))))
 (C8.pss_cut (ps_if (pt_cmpR RD.o_notN (pv 5) pe_non (nomark _))
 (pss_one ps_never)
 pss_nil)
 (C8.pss_cut (ps_fld (pv 0) (pe_callTy (OQ.tupK K) (by rfl) T.n_tuple (by decide +kernel) (pa_cons (pe_lc (own := [("row", 6)]) (g := (gName 6)) (tt := tYes) rfl sc_Reckoning__init.nd (pi_list (pv 1)) (blkOk_by (own := [("row", 6)]) (N := ["self", "joins", "products", "none", "one", "fault", "row", "worths", "a", "b", "c"]) (sc := defScope s_Reckoning__init) (by decide +kernel)) (fun _ _ _ _ _ => (pg_name (i := 6) sc_Reckoning__init.nd rfl (Or.inl rfl))) (fun _ _ _ _ _ => pts_nil) (fun _ _ _ _ _ => (pe_callTy (OQ.tupK K) (by rfl) T.n_tuple (by decide +kernel) (pa_cons (pv 6) pa_nil)))) pa_nil)) rfl)
 (C8.pss_cut (ps_fld (pv 0) (pe_callTy (OQ.tupK K) (by rfl) T.n_tuple (by decide +kernel) (pa_cons (pe_lc (own := [("row", 6)]) (g := (gName 6)) (tt := tYes) rfl sc_Reckoning__init.nd (pi_list (pv 2)) (blkOk_by (own := [("row", 6)]) (N := ["self", "joins", "products", "none", "one", "fault", "row", "worths", "a", "b", "c"]) (sc := defScope s_Reckoning__init) (by decide +kernel)) (fun _ _ _ _ _ => (pg_name (i := 6) sc_Reckoning__init.nd rfl (Or.inl rfl))) (fun _ _ _ _ _ => pts_nil) (fun _ _ _ _ _ => (pe_callTy (OQ.tupK K) (by rfl) T.n_tuple (by decide +kernel) (pa_cons (pv 6) pa_nil)))) pa_nil)) rfl)
 (C8.pss_cut (ps_fld (pv 0) (pv 3) rfl)
 (C8.pss_cut (ps_fld (pv 0) (pv 4) rfl)
 (C8.pss_cut (ps_set (i := 7) sc_Reckoning__init.nd rfl (Or.inr rfl) (pe_callTy OQ.cr_range1 (by rfl) T.n_range (by decide +kernel) (pa_cons (pe_callB RD.c_len (by rfl) T.n_len (by decide +kernel) (pa_cons (pv 1) pa_nil)) pa_nil)))
 (C8.pss_cut (ps_fld (pv 0) (pe_lc (own := [("a", 8)]) (g := (gName 8)) (tt := tYes) rfl sc_Reckoning__init.nd (OQ.pi_rngV (pv 7)) (blkOk_by (own := [("a", 8)]) (N := ["self", "joins", "products", "none", "one", "fault", "row", "worths", "a", "b", "c"]) (sc := defScope s_Reckoning__init) (by decide +kernel)) (fun _ _ _ _ _ => (pg_name (i := 8) sc_Reckoning__init.nd rfl (by first | exact Or.inl rfl | exact Or.inr rfl))) (fun _ _ _ _ _ => pts_nil) (fun _ _ _ _ _ => (pe_lc (own := [("b", 9)]) (g := (gName 9)) (tt := tYes) rfl sc_Reckoning__init.nd (OQ.pi_rngV (pv 7)) (blkOk_by (own := [("b", 9)]) (N := ["self", "joins", "products", "none", "one", "fault", "row", "worths", "a", "b", "c"]) (sc := _) (by kernel_rfl)) (fun _ _ _ _ _ => (pg_name (i := 9) sc_Reckoning__init.nd rfl (by first | exact Or.inl rfl | exact Or.inr rfl))) (fun _ _ _ _ _ => pts_nil) (fun _ _ _ _ _ => (pe_meth (pv 0) T.cl_Reckoning T.m_Reckoning_meet (ok_Reckoning_meet T) (hr.mono (by decide)) T.b_Reckoning_meet .nil pass0 (pa_cons (pv 8) (pa_cons (pv 9) pa_nil))))))) rfl)
 (C8.pss_cut (ps_fld (pv 0) (pe_lc (own := [("a", 8)]) (g := (gName 8)) (tt := tYes) rfl sc_Reckoning__init.nd (OQ.pi_rngV (pv 7)) (blkOk_by (own := [("a", 8)]) (N := ["self", "joins", "products", "none", "one", "fault", "row", "worths", "a", "b", "c"]) (sc := defScope s_Reckoning__init) (by decide +kernel)) (fun _ _ _ _ _ => (pg_name (i := 8) sc_Reckoning__init.nd rfl (by first | exact Or.inl rfl | exact Or.inr rfl))) (fun _ _ _ _ _ => pts_nil) (fun _ _ _ _ _ => (pe_lc (own := [("c", 10)]) (g := (gName 10)) (tt := tYes) rfl sc_Reckoning__init.nd (OQ.pi_rngV (pv 7)) (blkOk_by (own := [("c", 10)]) (N := ["self", "joins", "products", "none", "one", "fault", "row", "worths", "a", "b", "c"]) (sc := _) (by kernel_rfl)) (fun _ _ _ _ _ => (pg_name (i := 10) sc_Reckoning__init.nd rfl (by first | exact Or.inl rfl | exact Or.inr rfl))) (fun _ _ _ _ _ => pts_nil) (fun _ _ _ _ _ => (pe_meth (pv 0) T.cl_Reckoning T.m_Reckoning_left (ok_Reckoning_left T) (hr.mono (by decide)) T.b_Reckoning_left .nil pass0 (pa_cons (pv 8) (pa_cons (pv 10) pa_nil))))))) rfl)
 (pss_one (ps_fld (pv 0) (pe_lc (own := [("c", 10)]) (g := (gName 10)) (tt := tYes) rfl sc_Reckoning__init.nd (OQ.pi_rngV (pv 7)) (blkOk_by (own := [("c", 10)]) (N := ["self", "joins", "products", "none", "one", "fault", "row", "worths", "a", "b", "c"]) (sc := defScope s_Reckoning__init) (by decide +kernel)) (fun _ _ _ _ _ => (pg_name (i := 10) sc_Reckoning__init.nd rfl (by first | exact Or.inl rfl | exact Or.inr rfl))) (fun _ _ _ _ _ => pts_nil) (fun _ _ _ _ _ => (pe_lc (own := [("a", 8)]) (g := (gName 8)) (tt := tYes) rfl sc_Reckoning__init.nd (OQ.pi_rngV (pv 7)) (blkOk_by (own := [("a", 8)]) (N := ["self", "joins", "products", "none", "one", "fault", "row", "worths", "a", "b", "c"]) (sc := _) (by kernel_rfl)) (fun _ _ _ _ _ => (pg_name (i := 8) sc_Reckoning__init.nd rfl (by first | exact Or.inl rfl | exact Or.inr rfl))) (fun _ _ _ _ _ => pts_nil) (fun _ _ _ _ _ => (pe_meth (pv 0) T.cl_Reckoning T.m_Reckoning_right (ok_Reckoning_right T) (hr.mono (by decide)) T.b_Reckoning_right .nil pass0 (pa_cons (pv 10) (pa_cons (pv 8) pa_nil))))))) rfl))))))))))), ?_⟩
    refine RD.d_cut (fun σ' H' => σ' = [some (.ref x), some (.ref a), some (.ref b), some (.int z), some (.int o), some .non, none, none, none, none, none] ∧ Same H H') ?_ ?_
    · walk_at "rd"
      refine ⟨⟨a, b, n, J, M, z, o, rfl, tj, tp, G⟩, fun H1 s1 => ?_⟩
      walk_at "rd"
      exact ⟨rfl, s1⟩
    rintro σ' H1 ⟨rfl, s1⟩
    replace ex := s1 _ _ ex
    replace tj := TabL.same tj s1
    replace tp := TabL.same tp s1
    have kx1 : Kx x H H1 := Same.kx s1
    clear s1
    refine RD.d_cut (fun σ' H' => σ' = [some (.ref x), some (.ref a), some (.ref b), some (.int z), some (.int o), some .non, none, none, none, none, none] ∧ H' = H1) ?_ ?_
    · walk_at "rd"
      rw [decide_eq_true rfl]
      walk_at "rd"
      exact ⟨rfl, rfl⟩
    rintro σ' H2 ⟨rfl, rfl⟩
    obtain ⟨rs, len, ea, rows⟩ := id tj
    refine RD.d_cut (fun σ' H' => ∃ q, σ' = [some (.ref x), some (.ref a), some (.ref b), some (.int z), some (.int o), some .non, none, none, none, none, none] ∧ H' x = some (.ins T.C_Reckoning dx [("joins", .ref q)]) ∧ Kx x H2 H' ∧ TabT H' q n J) ?_ ?_
    · walk_at "rd"
      intro D hD
      refine lc_list (K := K) (a := a) (xs := rs.map V.ref) (fun i H' => ∃ us : List Addr, Same H2 H' ∧ us.length = i ∧ H' D = some (.lst (us.map V.ref)) ∧ ∀ (j : Nat) (u : Addr), us[j]? = some u → RowT H' u n (J j)) ⟨[], same_upd hD, rfl, upd_same, (fun j u e => nomatch e)⟩ ?_ ?_ ?_
      · rintro i H' _ ⟨us, s1, _⟩
        exact SqL.of (s1 _ _ ea)
      · rintro i y H' hi ⟨us, s1, lu, eD, all⟩
        have il : i < n := by have := (List.getElem?_eq_some_iff.mp hi).1; rw [List.length_map, len] at this; exact this
        have il' : i < rs.length := by rw [len]; exact il
        rw [List.getElem?_map, List.getElem?_eq_getElem il'] at hi
        cases hi
        walk_at "rd"
        refine ⟨_, _, rfl, .inl ⟨SqL.of (s1 _ _ (rows i _ (List.getElem?_eq_getElem il'))), fun l hl => ?_⟩⟩
        have nl : l ≠ D := fun zz => by rw [zz, eD] at hl; cases hl
        have hrow : RowT (upd H' l (.tup ((List.range n).map fun j => V.int ((J i j : Nat) : Int)))) l n (J i) := upd_same
        have s2 := same_upd (o := HO.tup ((List.range n).map fun j => V.int ((J i j : Nat) : Int))) hl
        refine ⟨_, s2 _ _ eD, by rw [List.length_map, lu]; exact Nat.lt_of_lt_of_le il (Nat.le_trans G.n16 (by decide)), us ++ [l], fun b' u e => ?_, by rw [List.length_append, lu]; rfl, by rw [upd_same, List.map_append]; rfl, fun j u e => ?_⟩
        · rw [upd_ne (ne_of_none e hD)]; exact s2 _ _ (s1 _ _ e)
        · have far : ∀ {v : Addr} {g : Nat → Nat} {G0 : Hp} {O : HO}, v ≠ D → RowT G0 v n g → RowT (upd G0 D O) v n g := fun nv hv => by unfold RowT; rw [upd_ne nv]; exact hv
          by_cases lj : j < us.length
          · rw [List.getElem?_append_left lj] at e
            have hu := all j u e
            refine far (fun zz => ?_) (s2 _ _ hu)
            unfold RowT at hu
            rw [zz, eD] at hu; cases hu
          · have q : j = i := by
              have := (List.getElem?_eq_some_iff.mp e).1
              rw [List.length_append, lu] at this
              simp at this
              omega
            subst q
            rw [List.getElem?_append_right (by omega), lu, Nat.sub_self] at e
            cases e
            exact far nl hrow
      · rintro H' ⟨us, s1, lu, eD, all⟩
        walk_at "rd"
        refine ⟨D, _, rfl, .inl ⟨SqL.of eD, fun q hq => ?_⟩⟩
        have s2 := same_upd (o := HO.tup (us.map V.ref)) hq
        have ex2 := s2 _ _ (s1 _ _ ex)
        have tq : TabT (upd H' q (.tup (us.map V.ref))) q n J := ⟨us, by rw [lu, List.length_map, len], upd_same, fun j u e => s2 _ _ (all j u e)⟩
        walk_at "rd"
        refine ⟨x, T.C_Reckoning, dx, _, rfl, ex2, T.cl_Reckoning, T.na_Reckoning_joins, by show 0 < 1000; decide, ?_⟩
        refine ⟨q, rfl, ?_, Kx.trans (Same.kx (Same.trans s1 s2)) kx_upd, tq.kx ex2 kx_upd⟩
        rw [upd_same]; rfl
    clear ea rows
    rintro σ' H3 ⟨jt, rfl, ex3, kx3, tjt⟩
    replace tj := TabL.kx tj ex kx3
    replace tp := TabL.kx tp ex kx3
    replace kx1 := kx1.trans kx3
    replace ex := ex3
    clear ex3 kx3
    obtain ⟨rs, len, ea, rows⟩ := id tp
    refine RD.d_cut (fun σ' H' => ∃ q, σ' = [some (.ref x), some (.ref a), some (.ref b), some (.int z), some (.int o), some .non, none, none, none, none, none] ∧ H' x = some (.ins T.C_Reckoning dx [("joins", .ref jt), ("products", .ref q)]) ∧ Kx x H3 H' ∧ TabT H' q n M) ?_ ?_
    · walk_at "rd"
      intro D hD
      refine lc_list (K := K) (a := b) (xs := rs.map V.ref) (fun i H' => ∃ us : List Addr, Same H3 H' ∧ us.length = i ∧ H' D = some (.lst (us.map V.ref)) ∧ ∀ (j : Nat) (u : Addr), us[j]? = some u → RowT H' u n (M j)) ⟨[], same_upd hD, rfl, upd_same, (fun j u e => nomatch e)⟩ ?_ ?_ ?_
      · rintro i H' _ ⟨us, s1, _⟩
        exact SqL.of (s1 _ _ ea)
      · rintro i y H' hi ⟨us, s1, lu, eD, all⟩
        have il : i < n := by have := (List.getElem?_eq_some_iff.mp hi).1; rw [List.length_map, len] at this; exact this
        have il' : i < rs.length := by rw [len]; exact il
        rw [List.getElem?_map, List.getElem?_eq_getElem il'] at hi
        cases hi
        walk_at "rd"
        refine ⟨_, _, rfl, .inl ⟨SqL.of (s1 _ _ (rows i _ (List.getElem?_eq_getElem il'))), fun l hl => ?_⟩⟩
        have nl : l ≠ D := fun zz => by rw [zz, eD] at hl; cases hl
        have hrow : RowT (upd H' l (.tup ((List.range n).map fun j => V.int ((M i j : Nat) : Int)))) l n (M i) := upd_same
        have s2 := same_upd (o := HO.tup ((List.range n).map fun j => V.int ((M i j : Nat) : Int))) hl
        refine ⟨_, s2 _ _ eD, by rw [List.length_map, lu]; exact Nat.lt_of_lt_of_le il (Nat.le_trans G.n16 (by decide)), us ++ [l], fun b' u e => ?_, by rw [List.length_append, lu]; rfl, by rw [upd_same, List.map_append]; rfl, fun j u e => ?_⟩
        · rw [upd_ne (ne_of_none e hD)]; exact s2 _ _ (s1 _ _ e)
        · have far : ∀ {v : Addr} {g : Nat → Nat} {G0 : Hp} {O : HO}, v ≠ D → RowT G0 v n g → RowT (upd G0 D O) v n g := fun nv hv => by unfold RowT; rw [upd_ne nv]; exact hv
          by_cases lj : j < us.length
          · rw [List.getElem?_append_left lj] at e
            have hu := all j u e
            refine far (fun zz => ?_) (s2 _ _ hu)
            unfold RowT at hu
            rw [zz, eD] at hu; cases hu
          · have q : j = i := by
              have := (List.getElem?_eq_some_iff.mp e).1
              rw [List.length_append, lu] at this
              simp at this
              omega
            subst q
            rw [List.getElem?_append_right (by omega), lu, Nat.sub_self] at e
            cases e
            exact far nl hrow
      · rintro H' ⟨us, s1, lu, eD, all⟩
        walk_at "rd"
        refine ⟨D, _, rfl, .inl ⟨SqL.of eD, fun q hq => ?_⟩⟩
        have s2 := same_upd (o := HO.tup (us.map V.ref)) hq
        have ex2 := s2 _ _ (s1 _ _ ex)
        have tq : TabT (upd H' q (.tup (us.map V.ref))) q n M := ⟨us, by rw [lu, List.length_map, len], upd_same, fun j u e => s2 _ _ (all j u e)⟩
        walk_at "rd"
        refine ⟨x, T.C_Reckoning, dx, _, rfl, ex2, T.cl_Reckoning, T.na_Reckoning_products, by show 1 < 1000; decide, ?_⟩
        refine ⟨q, rfl, ?_, Kx.trans (Same.kx (Same.trans s1 s2)) kx_upd, tq.kx ex2 kx_upd⟩
        rw [upd_same, putF_ne (by decide +kernel)]; rfl
    clear ea rows
    rintro σ' H4 ⟨pt, rfl, ex4, kx4, tpt⟩
    replace tjt := TabT.kx tjt ex kx4
    replace tj := TabL.kx tj ex kx4
    replace kx1 := kx1.trans kx4
    replace ex := ex4
    clear ex4 kx4 tp
    refine RD.d_cut (fun σ' H' => σ' = [some (.ref x), some (.ref a), some (.ref b), some (.int z), some (.int o), some .non, none, none, none, none, none] ∧ H' x = some (.ins T.C_Reckoning dx [("joins", .ref jt), ("products", .ref pt), ("none", .int z)]) ∧ Kx x H4 H') ?_ ?_
    · walk_at "rd"
      refine ⟨x, T.C_Reckoning, dx, _, rfl, ex, T.cl_Reckoning, T.na_Reckoning_none, by show 2 < 1000; decide, rfl, ?_, kx_upd⟩
      rw [upd_same, putF_ne (by decide +kernel), putF_ne (by decide +kernel)]; rfl
    rintro σ' H5 ⟨rfl, ex5, kx5⟩
    replace tjt := TabT.kx tjt ex kx5
    replace tpt := TabT.kx tpt ex kx5
    replace tj := TabL.kx tj ex kx5
    replace kx1 := kx1.trans kx5
    replace ex := ex5
    clear ex5 kx5
    refine RD.d_cut (fun σ' H' => σ' = [some (.ref x), some (.ref a), some (.ref b), some (.int z), some (.int o), some .non, none, none, none, none, none] ∧ H' x = some (.ins T.C_Reckoning dx [("joins", .ref jt), ("products", .ref pt), ("none", .int z), ("one", .int o)]) ∧ Kx x H5 H') ?_ ?_
    · walk_at "rd"
      refine ⟨x, T.C_Reckoning, dx, _, rfl, ex, T.cl_Reckoning, T.na_Reckoning_one, by show 3 < 1000; decide, rfl, ?_, kx_upd⟩
      rw [upd_same, putF_ne (by decide +kernel), putF_ne (by decide +kernel), putF_ne (by decide +kernel)]; rfl
    rintro σ' H6 ⟨rfl, ex6, kx6⟩
    replace tjt := TabT.kx tjt ex kx6
    replace tpt := TabT.kx tpt ex kx6
    replace tj := TabL.kx tj ex kx6
    replace kx1 := kx1.trans kx6
    replace ex := ex6
    clear ex6 kx6
    obtain ⟨rs, len, ea, rows⟩ := id tj
    have n16 := G.n16
    refine RD.d_cut (fun σ' H' => ∃ rg, σ' = [some (.ref x), some (.ref a), some (.ref b), some (.int z), some (.int o), some .non, none, some (.ref rg), none, none, none] ∧ Same H6 H' ∧ H' rg = some (.rng 0 n)) ?_ ?_
    · walk_at "rd"
      refine ⟨n, by rw [List.length_map, len], fun rg hg => ?_⟩
      walk_at "rd"
      exact ⟨rg, rfl, same_upd hg, upd_same⟩
    rintro σ' H7 ⟨rg, rfl, s7, eg⟩
    replace tjt := tjt.same s7
    replace tpt := tpt.same s7
    replace kx1 := kx1.trans (Same.kx s7)
    replace ex := s7 _ _ ex
    clear tj ea rows s7
    have re : Rek T.C_Reckoning H7 x n J M z := ⟨G.zn, G.n16, G.wj, G.wp, dx, jt, pt, _, ex, lk_eq, tjt, ((lk_ne (by decide +kernel)).trans lk_eq), tpt, ((lk_ne (by decide +kernel)).trans ((lk_ne (by decide +kernel)).trans lk_eq)), ((lk_ne (by decide +kernel)).trans ((lk_ne (by decide +kernel)).trans ((lk_ne (by decide +kernel)).trans ((lk_ne (by decide +kernel)).trans rfl)))), ((lk_ne (by decide +kernel)).trans ((lk_ne (by decide +kernel)).trans ((lk_ne (by decide +kernel)).trans ((lk_ne (by decide +kernel)).trans rfl)))), ((lk_ne (by decide +kernel)).trans ((lk_ne (by decide +kernel)).trans ((lk_ne (by decide +kernel)).trans ((lk_ne (by decide +kernel)).trans rfl)))), ((lk_ne (by decide +kernel)).trans ((lk_ne (by decide +kernel)).trans ((lk_ne (by decide +kernel)).trans ((lk_ne (by decide +kernel)).trans rfl))))⟩
    refine RD.d_cut (fun σ' H' => ∃ q v8 v9 v10, σ' = [some (.ref x), some (.ref a), some (.ref b), some (.int z), some (.int o), some .non, none, some (.ref rg), v8, v9, v10] ∧ H' x = some (.ins T.C_Reckoning dx [("joins", .ref jt), ("products", .ref pt), ("none", .int z), ("one", .int o), ("_meets", .ref q)]) ∧ Kx x H7 H') ?_ ?_
    · walk_at "rd"
      refine ⟨rg, 0, n, rfl, eg, by omega, ?_⟩
      intro D hD
      refine lc_range (lo := 0) (n := ((n : Int) - 0).toNat) (fun i H' => ∃ us : List V, Same H7 H' ∧ H' D = some (.lst us) ∧ us.length ≤ i) ⟨[], same_upd hD, upd_same, Nat.le_refl _⟩ ?_ ?_
      · rintro i H' hi' ⟨us, s1, eD, lu⟩
        have hi : i < n := by omega
        walk_at "rd"
        refine ⟨rg, 0, n, rfl, s1 _ _ eg, by omega, ?_⟩
        intro D2 hD2
        refine lc_range (lo := 0) (n := ((n : Int) - 0).toNat) (fun j H'' => ∃ us2 : List V, Same H' H'' ∧ H'' D2 = some (.lst us2) ∧ us2.length ≤ j) ⟨[], same_upd hD2, upd_same, Nat.le_refl _⟩ ?_ ?_
        · rintro j H'' hj' ⟨us2, s2, eD2, lu2⟩
          have hj : j < n := by omega
          have re2 := (re.same s1).same s2
          walk_at "rd"
          refine rekM re2 (.inr (.inl rfl)) ?_
          walk_at "rd"
          refine ⟨x, n, J, M, z, i, j, by rw [Int.zero_add, Int.zero_add]; rfl, re2, hi, hj, fun r H3 s3 hr3 => ?_⟩
          refine ⟨us2, s3 _ _ eD2, by exact Nat.lt_of_le_of_lt lu2 (Nat.lt_of_lt_of_le hj (Nat.le_trans G.n16 (by decide))), us2 ++ [.int r], fun b' u e => ?_, upd_same, by rw [List.length_append]; simpa using lu2⟩
          rw [upd_ne (ne_of_none e hD2)]; exact s3 _ _ (s2 _ _ e)
        · rintro H'' ⟨us2, s2, eD2, lu2⟩
          refine ⟨us, s2 _ _ eD, by exact Nat.lt_of_le_of_lt lu (Nat.lt_of_lt_of_le hi (Nat.le_trans G.n16 (by decide))), us ++ [.ref D2], fun b' u e => ?_, upd_same, by rw [List.length_append]; simpa using lu⟩
          rw [upd_ne (ne_of_none e hD)]; exact s2 _ _ (s1 _ _ e)
      · rintro H' ⟨us, s1, eD, lu⟩
        walk_at "rd"
        have ex1 := s1 _ _ ex
        refine ⟨x, T.C_Reckoning, dx, _, rfl, ex1, T.cl_Reckoning, T.na_Reckoning__meets, by show 4 < 1000; decide, ?_⟩
        refine ⟨D, _, _, _, rfl, ?_, Kx.trans (Same.kx s1) kx_upd⟩
        rw [upd_same, putF_ne (by decide +kernel), putF_ne (by decide +kernel), putF_ne (by decide +kernel), putF_ne (by decide +kernel)]; rfl
    rintro σ' H8 ⟨mt, v8, v9, v10, rfl, exn, kxn⟩
    clear re
    have egn : H8 rg = some (.rng 0 n) := kxn _ _ (fun zz => by rw [zz, ex] at eg; cases eg) eg
    replace tjt := tjt.kx ex kxn
    replace tpt := tpt.kx ex kxn
    replace kx1 := kx1.trans kxn
    replace ex := exn
    replace eg := egn
    clear exn kxn egn
    have re : Rek T.C_Reckoning H8 x n J M z := ⟨G.zn, G.n16, G.wj, G.wp, dx, jt, pt, _, ex, lk_eq, tjt, ((lk_ne (by decide +kernel)).trans lk_eq), tpt, ((lk_ne (by decide +kernel)).trans ((lk_ne (by decide +kernel)).trans lk_eq)), ((lk_ne (by decide +kernel)).trans ((lk_ne (by decide +kernel)).trans ((lk_ne (by decide +kernel)).trans ((lk_ne (by decide +kernel)).trans ((lk_ne (by decide +kernel)).trans rfl))))), ((lk_ne (by decide +kernel)).trans ((lk_ne (by decide +kernel)).trans ((lk_ne (by decide +kernel)).trans ((lk_ne (by decide +kernel)).trans ((lk_ne (by decide +kernel)).trans rfl))))), ((lk_ne (by decide +kernel)).trans ((lk_ne (by decide +kernel)).trans ((lk_ne (by decide +kernel)).trans ((lk_ne (by decide +kernel)).trans ((lk_ne (by decide +kernel)).trans rfl))))), ((lk_ne (by decide +kernel)).trans ((lk_ne (by decide +kernel)).trans ((lk_ne (by decide +kernel)).trans ((lk_ne (by decide +kernel)).trans ((lk_ne (by decide +kernel)).trans rfl)))))⟩
    refine RD.d_cut (fun σ' H' => ∃ q v8 v9 v10, σ' = [some (.ref x), some (.ref a), some (.ref b), some (.int z), some (.int o), some .non, none, some (.ref rg), v8, v9, v10] ∧ H' x = some (.ins T.C_Reckoning dx [("joins", .ref jt), ("products", .ref pt), ("none", .int z), ("one", .int o), ("_meets", .ref mt), ("_lefts", .ref q)]) ∧ Kx x H8 H') ?_ ?_
    · walk_at "rd"
      refine ⟨rg, 0, n, rfl, eg, by omega, ?_⟩
      intro D hD
      refine lc_range (lo := 0) (n := ((n : Int) - 0).toNat) (fun i H' => ∃ us : List V, Same H8 H' ∧ H' D = some (.lst us) ∧ us.length ≤ i) ⟨[], same_upd hD, upd_same, Nat.le_refl _⟩ ?_ ?_
      · rintro i H' hi' ⟨us, s1, eD, lu⟩
        have hi : i < n := by omega
        walk_at "rd"
        refine ⟨rg, 0, n, rfl, s1 _ _ eg, by omega, ?_⟩
        intro D2 hD2
        refine lc_range (lo := 0) (n := ((n : Int) - 0).toNat) (fun j H'' => ∃ us2 : List V, Same H' H'' ∧ H'' D2 = some (.lst us2) ∧ us2.length ≤ j) ⟨[], same_upd hD2, upd_same, Nat.le_refl _⟩ ?_ ?_
        · rintro j H'' hj' ⟨us2, s2, eD2, lu2⟩
          have hj : j < n := by omega
          have re2 := (re.same s1).same s2
          walk_at "rd"
          refine rekM re2 (.inr (.inr (.inl rfl))) ?_
          walk_at "rd"
          refine ⟨x, n, J, M, z, i, j, by rw [Int.zero_add, Int.zero_add]; rfl, re2, hi, hj, fun r H3 s3 hr3 => ?_⟩
          refine ⟨us2, s3 _ _ eD2, by exact Nat.lt_of_le_of_lt lu2 (Nat.lt_of_lt_of_le hj (Nat.le_trans G.n16 (by decide))), us2 ++ [.int r], fun b' u e => ?_, upd_same, by rw [List.length_append]; simpa using lu2⟩
          rw [upd_ne (ne_of_none e hD2)]; exact s3 _ _ (s2 _ _ e)
        · rintro H'' ⟨us2, s2, eD2, lu2⟩
          refine ⟨us, s2 _ _ eD, by exact Nat.lt_of_le_of_lt lu (Nat.lt_of_lt_of_le hi (Nat.le_trans G.n16 (by decide))), us ++ [.ref D2], fun b' u e => ?_, upd_same, by rw [List.length_append]; simpa using lu⟩
          rw [upd_ne (ne_of_none e hD)]; exact s2 _ _ (s1 _ _ e)
      · rintro H' ⟨us, s1, eD, lu⟩
        walk_at "rd"
        have ex1 := s1 _ _ ex
        refine ⟨x, T.C_Reckoning, dx, _, rfl, ex1, T.cl_Reckoning, T.na_Reckoning__lefts, by show 5 < 1000; decide, ?_⟩
        refine ⟨D, _, _, _, rfl, ?_, Kx.trans (Same.kx s1) kx_upd⟩
        rw [upd_same, putF_ne (by decide +kernel), putF_ne (by decide +kernel), putF_ne (by decide +kernel), putF_ne (by decide +kernel), putF_ne (by decide +kernel)]; rfl
    rintro σ' H9 ⟨lt, v8, v9, v10, rfl, exn, kxn⟩
    clear re
    have egn : H9 rg = some (.rng 0 n) := kxn _ _ (fun zz => by rw [zz, ex] at eg; cases eg) eg
    replace tjt := tjt.kx ex kxn
    replace tpt := tpt.kx ex kxn
    replace kx1 := kx1.trans kxn
    replace ex := exn
    replace eg := egn
    clear exn kxn egn
    have re : Rek T.C_Reckoning H9 x n J M z := ⟨G.zn, G.n16, G.wj, G.wp, dx, jt, pt, _, ex, lk_eq, tjt, ((lk_ne (by decide +kernel)).trans lk_eq), tpt, ((lk_ne (by decide +kernel)).trans ((lk_ne (by decide +kernel)).trans lk_eq)), ((lk_ne (by decide +kernel)).trans ((lk_ne (by decide +kernel)).trans ((lk_ne (by decide +kernel)).trans ((lk_ne (by decide +kernel)).trans ((lk_ne (by decide +kernel)).trans ((lk_ne (by decide +kernel)).trans rfl)))))), ((lk_ne (by decide +kernel)).trans ((lk_ne (by decide +kernel)).trans ((lk_ne (by decide +kernel)).trans ((lk_ne (by decide +kernel)).trans ((lk_ne (by decide +kernel)).trans ((lk_ne (by decide +kernel)).trans rfl)))))), ((lk_ne (by decide +kernel)).trans ((lk_ne (by decide +kernel)).trans ((lk_ne (by decide +kernel)).trans ((lk_ne (by decide +kernel)).trans ((lk_ne (by decide +kernel)).trans ((lk_ne (by decide +kernel)).trans rfl)))))), ((lk_ne (by decide +kernel)).trans ((lk_ne (by decide +kernel)).trans ((lk_ne (by decide +kernel)).trans ((lk_ne (by decide +kernel)).trans ((lk_ne (by decide +kernel)).trans ((lk_ne (by decide +kernel)).trans rfl))))))⟩
    walk_at "rd"
    refine ⟨rg, 0, n, rfl, eg, by omega, ?_⟩
    intro D hD
    refine lc_range (lo := 0) (n := ((n : Int) - 0).toNat) (fun i H' => ∃ us : List V, Same H9 H' ∧ H' D = some (.lst us) ∧ us.length ≤ i) ⟨[], same_upd hD, upd_same, Nat.le_refl _⟩ ?_ ?_
    · rintro i H' hi' ⟨us, s1, eD, lu⟩
      have hi : i < n := by omega
      walk_at "rd"
      refine ⟨rg, 0, n, rfl, s1 _ _ eg, by omega, ?_⟩
      intro D2 hD2
      refine lc_range (lo := 0) (n := ((n : Int) - 0).toNat) (fun j H'' => ∃ us2 : List V, Same H' H'' ∧ H'' D2 = some (.lst us2) ∧ us2.length ≤ j) ⟨[], same_upd hD2, upd_same, Nat.le_refl _⟩ ?_ ?_
      · rintro j H'' hj' ⟨us2, s2, eD2, lu2⟩
        have hj : j < n := by omega
        have re2 := (re.same s1).same s2
        walk_at "rd"
        refine rekM re2 (.inr (.inr (.inr rfl))) ?_
        walk_at "rd"
        refine ⟨x, n, J, M, z, i, j, by rw [Int.zero_add, Int.zero_add]; rfl, re2, hi, hj, fun r H3 s3 hr3 => ?_⟩
        refine ⟨us2, s3 _ _ eD2, by exact Nat.lt_of_le_of_lt lu2 (Nat.lt_of_lt_of_le hj (Nat.le_trans G.n16 (by decide))), us2 ++ [.int r], fun b' u e => ?_, upd_same, by rw [List.length_append]; simpa using lu2⟩
        rw [upd_ne (ne_of_none e hD2)]; exact s3 _ _ (s2 _ _ e)
      · rintro H'' ⟨us2, s2, eD2, lu2⟩
        refine ⟨us, s2 _ _ eD, by exact Nat.lt_of_le_of_lt lu (Nat.lt_of_lt_of_le hi (Nat.le_trans G.n16 (by decide))), us ++ [.ref D2], fun b' u e => ?_, upd_same, by rw [List.length_append]; simpa using lu⟩
        rw [upd_ne (ne_of_none e hD)]; exact s2 _ _ (s1 _ _ e)
    · rintro H' ⟨us, s1, eD, lu⟩
      walk_at "rd"
      have ex1 := s1 _ _ ex
      refine ⟨x, T.C_Reckoning, dx, _, rfl, ex1, T.cl_Reckoning, T.na_Reckoning__rights, by show 6 < 1000; decide, ?_⟩
      refine k _ ((kx1.trans (Same.kx s1)).trans kx_upd) ⟨dx, jt, pt, mt, lt, D, ?_, (tjt.same s1).kx ex1 kx_upd, (tpt.same s1).kx ex1 kx_upd⟩
      rw [upd_same, putF_ne (by decide +kernel), putF_ne (by decide +kernel), putF_ne (by decide +kernel), putF_ne (by decide +kernel), putF_ne (by decide +kernel), putF_ne (by decide +kernel)]; rfl
end

/-! ### widths, yes or no -/
theorem good_widths {m : Nat} (h1 : 1 ≤ m) (h2 : m ≤ 15) : Good (m + 1) max min 0 m where
  n2 := by omega
  n16 := by omega
  zn := by omega
  on := by omega
  wj := fun a b ha hb => by omega
  wp := fun a b ha hb => by omega
  none := fun a ha => by omega
  one := fun a ha => by omega
  idle := fun a ha => by omega
  swap := fun a b ha hb => by omega
  gj := fun a b c ha hb hc => by omega
  gp := fun a b c ha hb hc => by omega
  over := fun a b c ha hb hc => by omega
  same := by omega
/-- the first i rows of a table stand in the list at D -/
def RowsTo (H : Hp) (D : Addr) (n i : Nat) (f : Nat → Nat → Nat) : Prop := ∃ us : List Addr, us.length = i ∧ H D = some (.lst (us.map V.ref)) ∧ ∀ (j : Nat) (u : Addr), us[j]? = some u → u ≠ D ∧ RowL H u n (fun c => (f j c : Int))
theorem rowsTo_zero {H : Hp} {D : Addr} {n : Nat} {f : Nat → Nat → Nat} : RowsTo (upd H D (.lst [])) D n 0 f := ⟨[], rfl, upd_same, (fun _ _ e => nomatch e)⟩
theorem rowsTo_step {H H' H'' : Hp} {D D2 : Addr} {n i : Nat} {f : Nat → Nat → Nat} (hD : H D = none) (s1 : Same H H') (r : RowsTo H' D n i f) (hD2 : H' D2 = none) (s2 : Same H' H'') (hi : i < n) (n16 : n ≤ 16) (e2 : RowL H'' D2 n (fun c => (f i c : Int))) :
    ∃ acc, H'' D = some (.lst acc) ∧ acc.length < sizeLine ∧ Same H (upd H'' D (.lst (acc ++ [V.ref D2]))) ∧ RowsTo (upd H'' D (.lst (acc ++ [V.ref D2]))) D n (i + 1) f := by
  obtain ⟨us, lu, eD, all⟩ := r
  have nD : D2 ≠ D := fun z => by rw [z, eD] at hD2; cases hD2
  refine ⟨_, s2 _ _ eD, by rw [List.length_map, lu]; exact Nat.lt_of_lt_of_le hi (Nat.le_trans n16 (by decide)), fun b u e => ?_, us ++ [D2], by rw [List.length_append, lu]; rfl, by rw [upd_same, List.map_append]; rfl, fun j u e => ?_⟩
  · rw [upd_ne (ne_of_none e hD)]; exact s2 _ _ (s1 _ _ e)
  · by_cases lj : j < us.length
    · rw [List.getElem?_append_left lj] at e
      obtain ⟨n1, r1⟩ := all j u e
      exact ⟨n1, by unfold RowL; rw [upd_ne n1]; exact s2 _ _ r1⟩
    · have q : j = i := by
        have := (List.getElem?_eq_some_iff.mp e).1
        rw [List.length_append, lu] at this
        simp at this
        omega
      subst q
      rw [List.getElem?_append_right (by omega), lu, Nat.sub_self] at e
      cases e
      exact ⟨nD, by unfold RowL; rw [upd_ne nD]; exact e2⟩
theorem rowsTo_end {H : Hp} {D : Addr} {n : Nat} {f : Nat → Nat → Nat} (r : RowsTo H D n n f) : TabN H D n f := by
  obtain ⟨us, lu, eD, all⟩ := r
  exact ⟨us, lu, eD, fun j u e => (all j u e).2⟩
/-- one more item of a row of at most 16 -/
theorem rowPut {H H' : Hp} {D : Addr} {j : Nat} {g : Nat → Nat} {v : V} (hD : H D = none) (s : Same H H') (hj : j < 16) (eD : H' D = some (.lst ((List.range j).map fun c => V.int (g c : Nat)))) (ev : v = .int (g j : Nat)) :
    ∃ acc, H' D = some (.lst acc) ∧ acc.length < sizeLine ∧ Same H (upd H' D (.lst (acc ++ [v]))) ∧ upd H' D (.lst (acc ++ [v])) D = some (.lst ((List.range (j + 1)).map fun c => V.int (g c : Nat))) := by
  refine ⟨_, eD, by rw [List.length_map, List.length_range]; exact Nat.lt_of_lt_of_le hj (by decide), fun b u e => ?_, ?_⟩
  · rw [upd_ne (ne_of_none e hD)]; exact s _ _ e
  · rw [upd_same, List.range_succ, List.map_append, ev]; rfl
def spGreater : Sp := fun vs H Q _ => ∃ n : Nat, vs = [.int n] ∧ n ≤ 16 ∧ ∀ p H', Same H H' → TabN H' p n max → Q (.ref p) H'
def spWidths (C : Addr) : Sp := fun vs H Q _ => ∃ m : Nat, vs = [.int m] ∧ 1 ≤ m ∧ m ≤ 15 ∧ ∀ x H', Same H H' → RekF C H' x (m + 1) max min 0 m → Q (.ref x) H'
def spYesNo (C : Addr) : Sp := fun vs H Q _ => vs = [] ∧ ∀ x H', Same H H' → RekF C H' x 2 max min 0 1 → Q (.ref x) H'
section
variable {P : Program} {w : World} {K : PySem.W.Frag} {mg : Str → Option Value} {base : Heap} {H : Hp} {R : V → Prop}
theorem ok_greater_ones (T : Top K mg) : FnOk P w K mg base CX0 1 T.f_greater_ones T.fd_greater_ones ["size"] spGreater := by
  refine T.F_greater_ones.ok sc_greater_ones (fun vs H Q E h => ?_) (fun cdv A outer s H vs Q E hr h => ?_)
  · obtain ⟨n, rfl, _⟩ := h; rfl
  · obtain ⟨n, rfl, n16, k⟩ := h
    refine ⟨_, (pss_one (ps_ret (pe_lc (own := [("a", 1)]) (g := (gName 1)) (tt := tYes) rfl sc_greater_ones.nd (pi_range1 (by rfl) T.n_range (pa_cons (pv 0) pa_nil)) (blkOk_by (own := [("a", 1)]) (N := ["size", "a", "b"]) (sc := defScope s_greater_ones) (by decide +kernel)) (fun _ _ _ _ _ => (pg_name (i := 1) sc_greater_ones.nd rfl (by first | exact Or.inl rfl | exact Or.inr rfl))) (fun _ _ _ _ _ => pts_nil) (fun _ _ _ _ _ => (pe_lc (own := [("b", 2)]) (g := (gName 2)) (tt := tYes) rfl sc_greater_ones.nd (pi_range1 (by rfl) T.n_range (pa_cons (pv 0) pa_nil)) (blkOk_by (own := [("b", 2)]) (N := ["size", "a", "b"]) (sc := _) (by kernel_rfl)) (fun _ _ _ _ _ => (pg_name (i := 2) sc_greater_ones.nd rfl (by first | exact Or.inl rfl | exact Or.inr rfl))) (fun _ _ _ _ _ => pts_nil) (fun _ _ _ _ _ => (pe_callB (call_max2 rfl) (by rfl) T.n_max (by decide +kernel) (pa_cons (pv 1) (pa_cons (pv 2) pa_nil))))))))), ?_⟩
    walk_at "rd"
    refine ⟨n, rfl, by omega, by omega, ?_⟩
    intro D hD
    refine lc_range (lo := 0) (n := (n : Int).toNat) (fun i H' => Same H H' ∧ RowsTo H' D n i max) ⟨same_upd hD, rowsTo_zero⟩ ?_ ?_
    · rintro i H' hi' ⟨s1, r1⟩
      have hi : i < n := by omega
      walk_at "rd"
      refine ⟨n, rfl, by omega, by omega, ?_⟩
      intro D2 hD2
      refine lc_range (lo := 0) (n := (n : Int).toNat) (fun j H'' => Same H' H'' ∧ H'' D2 = some (.lst ((List.range j).map fun c => V.int ((max i c : Nat) : Int)))) ⟨same_upd hD2, upd_same⟩ ?_ ?_
      · rintro j H'' hj' ⟨s2, eD2⟩
        walk_at "rd"
        refine ⟨_, _, rfl, ?_⟩
        exact rowPut (g := fun c => max i c) hD2 s2 (by omega) eD2 (by congr 1; split <;> omega)
      · rintro H'' ⟨s2, eD2⟩
        rw [Int.toNat_natCast] at eD2
        exact rowsTo_step hD s1 r1 hD2 s2 hi n16 eD2
    · rintro H' ⟨s1, r1⟩
      rw [Int.toNat_natCast] at r1
      exact k D H' s1 (rowsTo_end r1)
theorem ok_widths (T : Top K mg) : FnOk P w K mg base CX0 14 T.f_widths T.fd_widths ["most"] (spWidths T.C_Reckoning) := by
  refine T.F_widths.ok sc_widths (fun vs H Q E h => ?_) (fun cdv A outer s H vs Q E hr h => ?_)
  · obtain ⟨m, rfl, _⟩ := h; rfl
  · obtain ⟨m, rfl, h1, h2, k⟩ := h
    refine ⟨_, (pss_cons (ps_if (PW.pt (pw_or (pt_not (pt_val (pe_call (ok_is_integer T) (hr.mono (by decide)) (by rfl) T.g_is_integer T.F_is_integer.kp T.b_is_integer .nil pass0 (pa_cons (pv 0) pa_nil)))) (pw_or1 (pt_not (pt_chain op_le op_le pe_int (pv 0) (pe_glob (v := V.int 15) (by rfl) T.g_MOST_WIDTH ⟨_, rfl⟩))))))
 (pss_one ps_never)
 pss_nil)
 (pss_cons (ps_set (i := 1) sc_widths.nd rfl (Or.inr rfl) (pe_callTy OQ.cr_range1 (by rfl) T.n_range (by decide +kernel) (pa_cons (pe_op op_add (pv 0) pe_int) pa_nil)))
 (pss_one (ps_ret (pe_make T.M_Reckoning (ok_Reckoning__init T) (hr.mono (by decide)) (by rfl) T.g_Reckoning T.b_Reckoning__init .nil pass0 (pa_cons (pe_call (ok_greater_ones T) (hr.mono (by decide)) (by rfl) T.g_greater_ones T.F_greater_ones.kp T.b_greater_ones .nil pass0 (pa_cons (pe_op op_add (pv 0) pe_int) pa_nil)) (pa_cons (pe_lc (own := [("a", 2)]) (g := (gName 2)) (tt := tYes) rfl sc_widths.nd (OQ.pi_rngV (pv 1)) (blkOk_by (own := [("a", 2)]) (N := ["most", "worths", "a", "b"]) (sc := defScope s_widths) (by decide +kernel)) (fun _ _ _ _ _ => (pg_name (i := 2) sc_widths.nd rfl (by first | exact Or.inl rfl | exact Or.inr rfl))) (fun _ _ _ _ _ => pts_nil) (fun _ _ _ _ _ => (pe_lc (own := [("b", 3)]) (g := (gName 3)) (tt := tYes) rfl sc_widths.nd (OQ.pi_rngV (pv 1)) (blkOk_by (own := [("b", 3)]) (N := ["most", "worths", "a", "b"]) (sc := _) (by kernel_rfl)) (fun _ _ _ _ _ => (pg_name (i := 3) sc_widths.nd rfl (by first | exact Or.inl rfl | exact Or.inr rfl))) (fun _ _ _ _ _ => pts_nil) (fun _ _ _ _ _ => (pe_callB (call_min2 rfl) (by rfl) T.n_min (by decide +kernel) (pa_cons (pv 2) (pa_cons (pv 3) pa_nil))))))) (pa_cons pe_int (pa_cons (pv 0) pa_nil))))))))), ?_⟩
    walk_at "rd"
    refine ⟨.int m, true, rfl, isI_int m, ?_⟩
    walk_at "rd"
    refine RD.d_chain ?_
    walk_at "rd"
    rw [decide_eq_true (by omega : (1 : Int) ≤ m)]
    walk_at "rd"
    rw [decide_eq_true (by omega : (m : Int) ≤ 15)]
    walk_at "rd"
    refine ⟨_, rfl, fun rg hg => ?_⟩
    have sg := same_upd (o := HO.rng 0 ((m : Int) + 1)) hg
    have eg : upd H rg (.rng 0 ((m : Int) + 1)) rg = some (.rng 0 ((m : Int) + 1)) := upd_same
    generalize upd H rg (.rng 0 ((m : Int) + 1)) = H0 at *
    walk_at "rd"
    refine ⟨m + 1, rfl, by omega, fun p1 H1 s1 t1 => ?_⟩
    replace eg := s1 _ _ eg
    walk_at "rd"
    refine ⟨rg, 0, (m : Int) + 1, rfl, eg, by omega, ?_⟩
    intro D hD
    refine lc_range (lo := 0) (n := ((m : Int) + 1 - 0).toNat) (fun i H' => Same H1 H' ∧ RowsTo H' D (m + 1) i min) ⟨same_upd hD, rowsTo_zero⟩ ?_ ?_
    · rintro i H' hi' ⟨s2, r2⟩
      have hi : i < m + 1 := by omega
      walk_at "rd"
      refine ⟨rg, 0, (m : Int) + 1, rfl, s2 _ _ eg, by omega, ?_⟩
      intro D2 hD2
      refine lc_range (lo := 0) (n := ((m : Int) + 1 - 0).toNat) (fun j H'' => Same H' H'' ∧ H'' D2 = some (.lst ((List.range j).map fun c => V.int ((min i c : Nat) : Int)))) ⟨same_upd hD2, upd_same⟩ ?_ ?_
      · rintro j H'' hj' ⟨s3, eD2⟩
        walk_at "rd"
        refine ⟨_, _, rfl, ?_⟩
        exact rowPut (g := fun c => min i c) hD2 s3 (by omega) eD2 (by congr 1; split <;> omega)
      · rintro H'' ⟨s3, eD2⟩
        rw [show ((m : Int) + 1 - 0).toNat = m + 1 by omega] at eD2
        exact rowsTo_step hD s2 r2 hD2 s3 hi (by omega) eD2
    · rintro H' ⟨s2, r2⟩
      rw [show ((m : Int) + 1 - 0).toNat = m + 1 by omega] at r2
      have t2 := rowsTo_end r2
      have t1' := TabL.same t1 s2
      walk_at "rd"
      intro x dx nx ndx ne
      have s3 := same_made (C := T.C_Reckoning) nx ndx ne
      refine ⟨x, dx, p1, D, m + 1, max, min, 0, m, rfl, upd_same, TabL.same t1' s3, TabL.same t2 s3, good_widths h1 h2, fun H4 kx f => ⟨rfl, ?_⟩⟩
      refine k x H4 (fun b u e => ?_) f
      have e2 := s2 _ _ (s1 _ _ (sg _ _ e))
      exact kx _ _ (ne_of_none e2 nx) (s3 _ _ e2)
theorem ok_yes_no (T : Top K mg) : FnOk P w K mg base CX0 16 T.f_yes_no T.fd_yes_no [] (spYesNo T.C_Reckoning) := by
  refine T.F_yes_no.ok sc_yes_no (fun vs H Q E h => ?_) (fun cdv A outer s H vs Q E hr h => ?_)
  · rw [h.1]; rfl
  · obtain ⟨rfl, k⟩ := h
    refine ⟨_, (pss_one (ps_ret (pe_call (ok_widths T) (hr.mono (by decide)) (by rfl) T.g_widths T.F_widths.kp T.b_widths .nil pass0 (pa_cons pe_int pa_nil)))), ?_⟩
    walk_at "rd"
    exact ⟨1, rfl, by decide, by decide, k⟩
end

/-! ### lengths -/
/-- a length: no way, or so long -/
def wt : Option Nat → V
  | none => .non
  | some n => .int n
/-- longer -/
def lg : Option Nat → Option Nat → Bool
  | none, none => false
  | none, some _ => true
  | some _, none => false
  | some x, some y => decide ((x : Int) > (y : Int))
def ltim : Option Nat → Option Nat → Option Nat
  | some x, some y => some (x + y)
  | _, _ => none
def lmis : Option Nat → Option Nat → Option Nat
  | none, _ => some 0
  | some _, none => none
  | some l, some v => some (v - l)
def ljoin (a b : Option Nat) : Option Nat := if lg a b then b else a
def lmeet (a b : Option Nat) : Option Nat := if lg a b then a else b
def LenAt (C : Addr) (H : Hp) (x : Addr) : Prop := ∃ dx, H x = some (.ins C dx [("none", .non), ("one", .int 0)])
theorem LenAt.same {C : Addr} {H H' : Hp} {x : Addr} (h : LenAt C H x) (s : Same H H') : LenAt C H' x := by
  obtain ⟨dx, e⟩ := h
  exact ⟨dx, s _ _ e⟩
def spLenI (C : Addr) : Sp := fun vs H Q _ => ∃ (x dx : Addr), vs = [.ref x] ∧ H x = some (.ins C dx []) ∧ ∀ H', Kx x H H' → LenAt C H' x → Q .non H'
def spIsOf (K : PySem.W.Frag) (C : Addr) : Sp := fun vs H Q _ => ∃ (s x : V) (t : Value) (b : Bool), vs = [s, x] ∧ TyX K H x t ∧ PySem.W.kitOne K t (.ref C) = some b ∧ Q (.bl b) H
/-- of two lengths, nothing made -/
def spTwoL (g : Option Nat → Option Nat → V) : Sp := fun vs H Q _ => ∃ a b : Option Nat, vs = [wt a, wt b] ∧ Q (g a b) H
def spIsWL : Sp := fun vs H Q _ => ∃ (s : V) (a : Option Nat), vs = [s, wt a] ∧ Q (.bl true) H
def spCheckL (C : Addr) : Sp := fun vs H Q _ => ∃ (s : Addr) (a b : Option Nat), vs = [.ref s, wt a, wt b] ∧ LenAt C H s ∧ ∀ H', Same H H' → Q .non H'
/-- a method of two lengths -/
def spMetL (C : Addr) (g : Option Nat → Option Nat → V) : Sp := fun vs H Q _ => ∃ (s : Addr) (a b : Option Nat), vs = [.ref s, wt a, wt b] ∧ LenAt C H s ∧ ∀ H', Same H H' → Q (g a b) H'
def spGreatest : Sp := fun vs H Q _ => ∃ s : V, vs = [s] ∧ Q (.int 0) H
section
variable {P : Program} {w : World} {K : PySem.W.Frag} {mg : Str → Option Value} {base : Heap}
theorem ok_Lengths__eq (T : Top K mg) : FnOk P w K mg base CX0 2 T.f_Lengths__eq T.fd_Lengths__eq ["self", "other"] (spIsOf K T.C_Lengths) := by
  refine T.F_Lengths__eq.ok sc_Lengths__eq (fun vs H Q E h => ?_) (fun cdv A outer s H vs Q E hr h => ?_)
  · obtain ⟨z, x, t, b, rfl, _⟩ := h; rfl
  · obtain ⟨z, x, t, b, rfl, ty, e, k⟩ := h
    refine ⟨_, (pss_one (ps_ret (pe_callB call_isi (by rfl) T.n_isinstance (by decide +kernel) (pa_cons (pv 1) (pa_cons (pe_glob (v := V.ref T.C_Lengths) (by rfl) T.g_Lengths rfl) pa_nil))))), ?_⟩
    walk_at "rd"
    exact RD.d_isi (.own _) ty e k
theorem ok_Lengths__init (T : Top K mg) : FnOk P w K mg base CX0 2 T.f_Lengths__init T.fd_Lengths__init ["self"] (spLenI T.C_Lengths) := by
  refine T.F_Lengths__init.ok sc_Lengths__init (fun vs H Q E h => ?_) (fun cdv A outer s H vs Q E hr h => ?_)
  · obtain ⟨x, dx, rfl, _⟩ := h; rfl
  · obtain ⟨x, dx, rfl, ex, k⟩ := h
    refine ⟨_, (pss_cons (ps_fld (pv 0) pe_non rfl)
 (pss_one (ps_fld (pv 0) pe_int rfl))), ?_⟩
    walk_at "rd"
    refine ⟨x, T.C_Lengths, dx, _, rfl, ex, T.cl_Lengths, T.na_Lengths_none, by show 0 < 1000; decide, ?_⟩
    walk_at "rd"
    refine ⟨x, T.C_Lengths, dx, _, rfl, upd_same, T.cl_Lengths, T.na_Lengths_one, by show 1 < 1000; decide, ?_⟩
    rw [upd_upd]
    refine k _ kx_upd ⟨dx, ?_⟩
    rw [upd_same, putF_none, putF_ne (by decide +kernel), putF_none]
theorem ok_longer (T : Top K mg) : FnOk P w K mg base CX0 2 T.f_longer T.fd_longer ["one", "other"] (spTwoL fun a b => .bl (lg a b)) := by
  refine T.F_longer.ok sc_longer (fun vs H Q E h => ?_) (fun cdv A outer s H vs Q E hr h => ?_)
  · obtain ⟨a, b, rfl, _⟩ := h; rfl
  · obtain ⟨a, b, rfl, k⟩ := h
    refine ⟨_, (pss_cons (ps_if (pt_cmpR RD.o_isN (pv 0) pe_non (nomark _))
 (pss_one (ps_ret (pe_cmpR RD.o_notN (pv 1) pe_non (nomark _))))
 pss_nil)
 (pss_one (ps_ret (pe_and (pe_cmpR RD.o_notN (pv 1) pe_non (nomark _)) (pe_one (pe_cmpR op_gt (pv 0) (pv 1) (nomark _))))))), ?_⟩
    cases a <;> cases b <;> (simp only [wt, lg] at *; walk_at "wz"; exact k)
theorem ok_missing (T : Top K mg) : FnOk P w K mg base CX0 4 T.f_missing T.fd_missing ["length", "wanted"] (spTwoL fun a b => wt (lmis a b)) := by
  refine T.F_missing.ok sc_missing (fun vs H Q E h => ?_) (fun cdv A outer s H vs Q E hr h => ?_)
  · obtain ⟨a, b, rfl, _⟩ := h; rfl
  · obtain ⟨a, b, rfl, k⟩ := h
    refine ⟨_, (pss_cons (ps_if (pt_not (pt_val (pe_call (ok_longer T) (hr.mono (by decide)) (by rfl) T.g_longer T.F_longer.kp T.b_longer .nil pass0 (pa_cons (pv 1) (pa_cons (pv 0) pa_nil)))))
 (pss_one (ps_ret pe_int))
 pss_nil)
 (pss_one (ps_ret (pe_ifExp (pt_cmpR RD.o_isN (pv 1) pe_non (nomark _)) pe_non (pe_op op_sub (pv 1) (pv 0)))))), ?_⟩
    walk_at "rd"
    refine ⟨b, a, rfl, ?_⟩
    cases a with
    | none => cases b <;> (simp only [wt, lg, lmis] at *; walk_at "wz"; exact k)
    | some l =>
      cases b with
      | none => simp only [wt, lg, lmis] at *; walk_at "wz"; exact k
      | some v =>
        simp only [wt, lg, lmis] at *
        by_cases c : (v : Int) > (l : Int)
        · rw [decide_eq_true c]
          walk_at "wz"
          have e : ((v - l : Nat) : Int) = (v : Int) - l := by omega
          rw [e] at k
          exact k
        · rw [decide_eq_false c]
          walk_at "wz"
          have e : ((v - l : Nat) : Int) = 0 := by omega
          rw [e] at k
          exact k
theorem ok_Lengths_is_worth (T : Top K mg) : FnOk P w K mg base CX0 4 T.f_Lengths_is_worth T.fd_Lengths_is_worth ["self", "thing"] spIsWL := by
  refine T.F_Lengths_is_worth.ok sc_Lengths_is_worth (fun vs H Q E h => ?_) (fun cdv A outer s H vs Q E hr h => ?_)
  · obtain ⟨z, a, rfl, _⟩ := h; rfl
  · obtain ⟨z, a, rfl, k⟩ := h
    refine ⟨_, (pss_one (ps_ret (pe_or (pe_cmpR RD.o_isN (pv 1) pe_non (nomark _)) (pe_one (pe_and (pe_call (ok_is_integer T) (hr.mono (by decide)) (by rfl) T.g_is_integer T.F_is_integer.kp T.b_is_integer .nil pass0 (pa_cons (pv 1) pa_nil)) (pe_one (pe_cmpR op_ge (pv 1) pe_int (nomark _)))))))), ?_⟩
    cases a with
    | none => simp only [wt]; walk_at "wz"; exact k
    | some n =>
      simp only [wt]
      walk_at "wz"
      refine ⟨.int n, true, rfl, isI_int n, ?_⟩
      walk_at "rd"
      have e : decide ((n : Int) ≥ 0) = true := decide_eq_true (by omega)
      rw [e]
      exact k
theorem ok_Lengths_greatest (T : Top K mg) : FnOk P w K mg base CX0 1 T.f_Lengths_greatest T.fd_Lengths_greatest ["self"] spGreatest := by
  refine T.F_Lengths_greatest.ok sc_Lengths_greatest (fun vs H Q E h => ?_) (fun cdv A outer s H vs Q E hr h => ?_)
  · obtain ⟨z, rfl, _⟩ := h; rfl
  · obtain ⟨z, rfl, k⟩ := h
    refine ⟨_, (pss_one (ps_ret pe_int)), ?_⟩
    walk_at "rd"
    exact k
theorem ok_check_worths (T : Top K mg) : FnOk P w K mg base CX0 6 T.f_check_worths T.fd_check_worths ["reckoning", "first", "second"] (spCheckL T.C_Lengths) := by
  refine T.F_check_worths.ok sc_check_worths (fun vs H Q E h => ?_) (fun cdv A outer s H vs Q E hr h => ?_)
  · obtain ⟨z, a, b, rfl, _⟩ := h; rfl
  · obtain ⟨z, a, b, rfl, ⟨dx, ez⟩, k⟩ := h
    refine ⟨_, (pss_one (ps_for PassesOwn.never rfl (pi_tup (pe_tup (pa_cons (pv 1) (pa_cons (pv 2) pa_nil)))) (pg_name (i := 3) sc_check_worths.nd rfl (Or.inl rfl))
 (pss_one (ps_if (pt_not (pt_val (pe_meth (pv 0) T.cl_Lengths T.m_Lengths_is_worth (ok_Lengths_is_worth T) (hr.mono (by decide)) T.b_Lengths_is_worth .nil pass0 (pa_cons (pv 3) pa_nil))))
 (pss_one ps_never)
 pss_nil)))), ?_⟩
    walk_at "rd"
    refine d_iTup ?_
    walk_at "rd"
    refine ⟨by show 2 ≤ sizeLine; decide, fun tp htp => ?_⟩
    have s1 := same_upd (o := HO.tup [wt a, wt b]) htp
    have et : upd H tp (.tup [wt a, wt b]) tp = some (.tup [wt a, wt b]) := upd_same
    have ez1 := s1 _ _ ez
    refine ⟨tp, rfl, ⟨_, SqT.of et⟩, ?_⟩
    generalize upd H tp (.tup [wt a, wt b]) = H1 at *
    refine RD.f_tup (K := K) (a := tp) (xs := [wt a, wt b]) (fun i σ' H' => H' = H1 ∧ ∃ v, σ' = [some (.ref z), some (wt a), some (wt b), v]) ⟨rfl, ⟨none, rfl⟩⟩ ?_ ?_ ?_
    · rintro i σ' H' _ ⟨rfl, _⟩
      exact SqT.of et
    · rintro i x σ' H' hi ⟨rfl, ⟨v, rfl⟩⟩
      obtain ⟨y, rfl⟩ : ∃ y : Option Nat, x = wt y := by
        match i, hi with
        | 0, e => cases e; exact ⟨a, rfl⟩
        | 1, e => cases e; exact ⟨b, rfl⟩
        | n + 2, e => simp at e
      walk_at "rd"
      refine ⟨z, dx, _, rfl, ez1, (lk_ne (by decide +kernel)).trans (lk_ne (by decide +kernel)), ?_⟩
      walk_at "rd"
      refine ⟨_, y, rfl, ?_⟩
      walk_at "rd"
      exact ⟨rfl, ⟨_, rfl⟩⟩
    · rintro σ' H' ⟨rfl, ⟨v, rfl⟩⟩
      exact k _ s1
end

section
variable {P : Program} {w : World} {K : PySem.W.Frag} {mg : Str → Option Value} {base : Heap}
theorem ok_Lengths_beneath (T : Top K mg) : FnOk P w K mg base CX0 9 T.f_Lengths_beneath T.fd_Lengths_beneath ["self", "a", "b"] (spMetL T.C_Lengths fun a b => .bl (!lg b a)) := by
  refine T.F_Lengths_beneath.ok sc_Lengths_beneath (fun vs H Q E h => ?_) (fun cdv A outer s H vs Q E hr h => ?_)
  · obtain ⟨z, a, b, rfl, _⟩ := h; rfl
  · obtain ⟨z, a, b, rfl, hz, k⟩ := h
    refine ⟨_, (pss_cons (ps_expr (pe_call (ok_check_worths T) (hr.mono (by decide)) (by rfl) T.g_check_worths T.F_check_worths.kp T.b_check_worths .nil pass0 (pa_cons (pv 0) (pa_cons (pv 1) (pa_cons (pv 2) pa_nil)))))
 (pss_one (ps_ret (pe_not (pe_call (ok_longer T) (hr.mono (by decide)) (by rfl) T.g_longer T.F_longer.kp T.b_longer .nil pass0 (pa_cons (pv 2) (pa_cons (pv 1) pa_nil))))))), ?_⟩
    walk_at "rd"
    refine ⟨z, a, b, rfl, hz, fun H1 s1 => ?_⟩
    walk_at "wz"
    refine ⟨b, a, rfl, ?_⟩
    refine ⟨lg b a, rfl, ?_⟩
    walk_at "wz"
    exact k _ s1
theorem ok_Lengths_join (T : Top K mg) : FnOk P w K mg base CX0 9 T.f_Lengths_join T.fd_Lengths_join ["self", "a", "b"] (spMetL T.C_Lengths fun a b => wt (ljoin a b)) := by
  refine T.F_Lengths_join.ok sc_Lengths_join (fun vs H Q E h => ?_) (fun cdv A outer s H vs Q E hr h => ?_)
  · obtain ⟨z, a, b, rfl, _⟩ := h; rfl
  · obtain ⟨z, a, b, rfl, hz, k⟩ := h
    refine ⟨_, (pss_cons (ps_expr (pe_call (ok_check_worths T) (hr.mono (by decide)) (by rfl) T.g_check_worths T.F_check_worths.kp T.b_check_worths .nil pass0 (pa_cons (pv 0) (pa_cons (pv 1) (pa_cons (pv 2) pa_nil)))))
 (pss_one (ps_ret (pe_ifExp (pt_val (pe_call (ok_longer T) (hr.mono (by decide)) (by rfl) T.g_longer T.F_longer.kp T.b_longer .nil pass0 (pa_cons (pv 1) (pa_cons (pv 2) pa_nil)))) (pv 2) (pv 1))))), ?_⟩
    walk_at "rd"
    refine ⟨z, a, b, rfl, hz, fun H1 s1 => ?_⟩
    walk_at "wz"
    refine ⟨a, b, rfl, ?_⟩
    unfold ljoin at k
    refine ⟨lg a b, rfl, ?_⟩
    cases e : lg a b with
    | false => simp only [e] at k; walk_at "wz"; exact k _ s1
    | true => simp only [e] at k; walk_at "wz"; exact k _ s1
theorem ok_Lengths_times (T : Top K mg) : FnOk P w K mg base CX0 9 T.f_Lengths_times T.fd_Lengths_times ["self", "a", "b"] (spMetL T.C_Lengths fun a b => wt (ltim a b)) := by
  refine T.F_Lengths_times.ok sc_Lengths_times (fun vs H Q E h => ?_) (fun cdv A outer s H vs Q E hr h => ?_)
  · obtain ⟨z, a, b, rfl, _⟩ := h; rfl
  · obtain ⟨z, a, b, rfl, hz, k⟩ := h
    refine ⟨_, (pss_cons (ps_expr (pe_call (ok_check_worths T) (hr.mono (by decide)) (by rfl) T.g_check_worths T.F_check_worths.kp T.b_check_worths .nil pass0 (pa_cons (pv 0) (pa_cons (pv 1) (pa_cons (pv 2) pa_nil)))))
 (pss_one (ps_ret (pe_ifExp (PW.pt (pw_or (pt_cmpR RD.o_isN (pv 1) pe_non (nomark _)) (pw_or1 (pt_cmpR RD.o_isN (pv 2) pe_non (nomark _))))) pe_non (pe_op op_add (pv 1) (pv 2)))))), ?_⟩
    cases a <;> cases b <;> simp only [wt, ltim] at k ⊢ <;> walk_at "rd" <;> (first | refine ⟨z, none, none, rfl, hz, fun H1 s1 => ?_⟩ | refine ⟨z, none, some _, rfl, hz, fun H1 s1 => ?_⟩ | refine ⟨z, some _, none, rfl, hz, fun H1 s1 => ?_⟩ | refine ⟨z, some _, some _, rfl, hz, fun H1 s1 => ?_⟩) <;> walk_at "wz" <;> first | exact k _ s1 | (rw [Int.natCast_add] at k; exact k _ s1)
theorem ok_Lengths_meet (T : Top K mg) : FnOk P w K mg base CX0 9 T.f_Lengths_meet T.fd_Lengths_meet ["self", "a", "b"] (spMetL T.C_Lengths fun a b => wt (lmeet a b)) := by
  refine T.F_Lengths_meet.ok sc_Lengths_meet (fun vs H Q E h => ?_) (fun cdv A outer s H vs Q E hr h => ?_)
  · obtain ⟨z, a, b, rfl, _⟩ := h; rfl
  · obtain ⟨z, a, b, rfl, hz, k⟩ := h
    refine ⟨_, (pss_cons (ps_expr (pe_call (ok_check_worths T) (hr.mono (by decide)) (by rfl) T.g_check_worths T.F_check_worths.kp T.b_check_worths .nil pass0 (pa_cons (pv 0) (pa_cons (pv 1) (pa_cons (pv 2) pa_nil)))))
 (pss_one (ps_ret (pe_ifExp (pt_val (pe_call (ok_longer T) (hr.mono (by decide)) (by rfl) T.g_longer T.F_longer.kp T.b_longer .nil pass0 (pa_cons (pv 1) (pa_cons (pv 2) pa_nil)))) (pv 1) (pv 2))))), ?_⟩
    walk_at "rd"
    refine ⟨z, a, b, rfl, hz, fun H1 s1 => ?_⟩
    walk_at "wz"
    refine ⟨a, b, rfl, ?_⟩
    unfold lmeet at k
    refine ⟨lg a b, rfl, ?_⟩
    cases e : lg a b with
    | false => simp only [e] at k; walk_at "wz"; exact k _ s1
    | true => simp only [e] at k; walk_at "wz"; exact k _ s1
theorem ok_Lengths_left (T : Top K mg) : FnOk P w K mg base CX0 9 T.f_Lengths_left T.fd_Lengths_left ["self", "a", "c"] (spMetL T.C_Lengths fun a b => wt (lmis a b)) := by
  refine T.F_Lengths_left.ok sc_Lengths_left (fun vs H Q E h => ?_) (fun cdv A outer s H vs Q E hr h => ?_)
  · obtain ⟨z, a, b, rfl, _⟩ := h; rfl
  · obtain ⟨z, a, b, rfl, hz, k⟩ := h
    refine ⟨_, (pss_cons (ps_expr (pe_call (ok_check_worths T) (hr.mono (by decide)) (by rfl) T.g_check_worths T.F_check_worths.kp T.b_check_worths .nil pass0 (pa_cons (pv 0) (pa_cons (pv 1) (pa_cons (pv 2) pa_nil)))))
 (pss_one (ps_ret (pe_call (ok_missing T) (hr.mono (by decide)) (by rfl) T.g_missing T.F_missing.kp T.b_missing .nil pass0 (pa_cons (pv 1) (pa_cons (pv 2) pa_nil)))))), ?_⟩
    walk_at "rd"
    refine ⟨z, a, b, rfl, hz, fun H1 s1 => ?_⟩
    walk_at "wz"
    refine ⟨a, b, rfl, ?_⟩
    walk_at "wz"
    exact k _ s1
theorem ok_Lengths_right (T : Top K mg) : FnOk P w K mg base CX0 9 T.f_Lengths_right T.fd_Lengths_right ["self", "c", "a"] (spMetL T.C_Lengths fun a b => wt (lmis b a)) := by
  refine T.F_Lengths_right.ok sc_Lengths_right (fun vs H Q E h => ?_) (fun cdv A outer s H vs Q E hr h => ?_)
  · obtain ⟨z, a, b, rfl, _⟩ := h; rfl
  · obtain ⟨z, a, b, rfl, hz, k⟩ := h
    refine ⟨_, (pss_cons (ps_expr (pe_call (ok_check_worths T) (hr.mono (by decide)) (by rfl) T.g_check_worths T.F_check_worths.kp T.b_check_worths .nil pass0 (pa_cons (pv 0) (pa_cons (pv 1) (pa_cons (pv 2) pa_nil)))))
 (pss_one (ps_ret (pe_call (ok_missing T) (hr.mono (by decide)) (by rfl) T.g_missing T.F_missing.kp T.b_missing .nil pass0 (pa_cons (pv 2) (pa_cons (pv 1) pa_nil)))))), ?_⟩
    walk_at "rd"
    refine ⟨z, a, b, rfl, hz, fun H1 s1 => ?_⟩
    walk_at "wz"
    refine ⟨b, a, rfl, ?_⟩
    walk_at "wz"
    exact k _ s1
end

/-! ### what the law itself works out -/
def spLawIs : Sp := fun vs H Q _ => ∃ v : V, vs = [v, v] ∧ ((∃ a, v = wt a) ∨ ∃ b, v = .bl b) ∧ Q (.bl true) H
def spLeave : Sp := fun vs H Q _ => ∃ a c : Option Nat, vs = [wt (lmis a c), wt a, wt c] ∧ Q (.bl true) H
theorem ljoin_gt {x y : Nat} (h : (x : Int) > (y : Int)) : ljoin (some x) (some y) = some y := if_pos (show lg (some x) (some y) = true from decide_eq_true h)
theorem ljoin_le {x y : Nat} (h : ¬ (x : Int) > (y : Int)) : ljoin (some x) (some y) = some x := if_neg (by rw [show lg (some x) (some y) = false from decide_eq_false h]; decide)
theorem lmeet_gt {x y : Nat} (h : (x : Int) > (y : Int)) : lmeet (some x) (some y) = some x := if_pos (show lg (some x) (some y) = true from decide_eq_true h)
theorem lmeet_le {x y : Nat} (h : ¬ (x : Int) > (y : Int)) : lmeet (some x) (some y) = some y := if_neg (by rw [show lg (some x) (some y) = false from decide_eq_false h]; decide)
section
variable {P : Program} {w : World} {K : PySem.W.Frag} {mg : Str → Option Value} {base : Heap}
theorem ok_law_shorter (T : Top K mg) : FnOk P w K mg base CX0 1 T.f_law_shorter T.fd_law_shorter ["a", "b"] (spTwoL fun a b => .bl (!lg b a)) := by
  refine T.F_law_shorter.ok sc_law_shorter (fun vs H Q E h => ?_) (fun cdv A outer s H vs Q E hr h => ?_)
  · obtain ⟨a, b, rfl, _⟩ := h; rfl
  · obtain ⟨a, b, rfl, k⟩ := h
    refine ⟨_, (pss_cons (ps_if (pt_cmpR RD.o_isN (pv 0) pe_non (nomark _))
 (pss_one (ps_ret pe_bl))
 pss_nil)
 (pss_one (ps_ret (pe_and (pe_cmpR RD.o_notN (pv 1) pe_non (nomark _)) (pe_one (pe_cmpR op_le (pv 1) (pv 0) (nomark _))))))), ?_⟩
    cases a with
    | none => cases b <;> (simp only [wt, lg] at *; walk_at "wz"; exact k)
    | some x =>
      cases b with
      | none => simp only [wt, lg] at *; walk_at "wz"; exact k
      | some y =>
        simp only [wt, lg] at *
        walk_at "wz"
        have e : (!decide ((y : Int) > (x : Int))) = decide ((y : Int) ≤ (x : Int)) := by
          by_cases c : (y : Int) > (x : Int)
          · rw [decide_eq_true c, decide_eq_false (show ¬ (y : Int) ≤ (x : Int) by omega)]; rfl
          · rw [decide_eq_false c, decide_eq_true (show (y : Int) ≤ (x : Int) by omega)]; rfl
        rw [e] at k
        exact k
theorem ok_law_join (T : Top K mg) : FnOk P w K mg base CX0 1 T.f_law_join T.fd_law_join ["a", "b"] (spTwoL fun a b => wt (ljoin a b)) := by
  refine T.F_law_join.ok sc_law_join (fun vs H Q E h => ?_) (fun cdv A outer s H vs Q E hr h => ?_)
  · obtain ⟨a, b, rfl, _⟩ := h; rfl
  · obtain ⟨a, b, rfl, k⟩ := h
    refine ⟨_, (pss_cons (ps_if (pt_cmpR RD.o_isN (pv 0) pe_non (nomark _))
 (pss_one (ps_ret (pv 1)))
 pss_nil)
 (pss_cons (ps_if (PW.pt (pw_or (pt_cmpR RD.o_isN (pv 1) pe_non (nomark _)) (pw_or1 (pt_cmpR op_lt (pv 0) (pv 1) (nomark _)))))
 (pss_one (ps_ret (pv 0)))
 pss_nil)
 (pss_one (ps_ret (pv 1))))), ?_⟩
    cases a with
    | none => cases b <;> (simp only [wt, lg, ljoin] at *; walk_at "wz"; exact k)
    | some x =>
      cases b with
      | none => simp only [wt, lg, ljoin] at *; walk_at "wz"; exact k
      | some y =>
        replace k : Q (wt (ljoin (some x) (some y))) H := k
        by_cases c : (x : Int) > (y : Int)
        · rw [ljoin_gt c] at k
          simp only [wt] at k ⊢
          walk_at "wz"
          rw [decide_eq_false (show ¬ (x : Int) < (y : Int) by omega)]
          walk_at "wz"
          exact k
        · rw [ljoin_le c] at k
          simp only [wt] at k ⊢
          walk_at "wz"
          by_cases d : (x : Int) < (y : Int)
          · rw [decide_eq_true d]
            walk_at "wz"
            exact k
          · rw [decide_eq_false d]
            walk_at "wz"
            have e : y = x := by omega
            rw [e]
            exact k
theorem ok_law_times (T : Top K mg) : FnOk P w K mg base CX0 1 T.f_law_times T.fd_law_times ["a", "b"] (spTwoL fun a b => wt (ltim a b)) := by
  refine T.F_law_times.ok sc_law_times (fun vs H Q E h => ?_) (fun cdv A outer s H vs Q E hr h => ?_)
  · obtain ⟨a, b, rfl, _⟩ := h; rfl
  · obtain ⟨a, b, rfl, k⟩ := h
    refine ⟨_, (pss_cons (ps_if (PW.pt (pw_or (pt_cmpR RD.o_isN (pv 0) pe_non (nomark _)) (pw_or1 (pt_cmpR RD.o_isN (pv 1) pe_non (nomark _)))))
 (pss_one (ps_ret pe_non))
 pss_nil)
 (pss_one (ps_ret (pe_op op_add (pv 0) (pv 1))))), ?_⟩
    cases a <;> cases b <;> (simp only [wt, ltim] at *; walk_at "wz"; first | exact k | (rw [Int.natCast_add] at k; exact k))
theorem ok_law_meet (T : Top K mg) : FnOk P w K mg base CX0 3 T.f_law_meet T.fd_law_meet ["a", "b"] (spTwoL fun a b => wt (lmeet a b)) := by
  refine T.F_law_meet.ok sc_law_meet (fun vs H Q E h => ?_) (fun cdv A outer s H vs Q E hr h => ?_)
  · obtain ⟨a, b, rfl, _⟩ := h; rfl
  · obtain ⟨a, b, rfl, k⟩ := h
    refine ⟨_, (pss_cons (ps_if (PW.pt (pw_or (pt_cmpR RD.o_isN (pv 0) pe_non (nomark _)) (pw_or1 (pt_cmpR RD.o_isN (pv 1) pe_non (nomark _)))))
 (pss_one (ps_ret pe_non))
 pss_nil)
 (pss_one (ps_ret (pe_op op_sub (pe_op op_add (pv 0) (pv 1)) (pe_call (ok_law_join T) (hr.mono (by decide)) (by rfl) T.g_law_join T.F_law_join.kp T.b_law_join .nil pass0 (pa_cons (pv 0) (pa_cons (pv 1) pa_nil))))))), ?_⟩
    cases a with
    | none => cases b <;> (simp only [wt, lg, lmeet] at *; walk_at "wz"; exact k)
    | some x =>
      cases b with
      | none => simp only [wt, lg, lmeet] at *; walk_at "wz"; exact k
      | some y =>
        show tSeq _ _ _ (L2.start _ [V.int x, V.int y]) _
        replace k : Q (wt (lmeet (some x) (some y))) H := k
        walk_at "wz"
        refine ⟨some x, some y, rfl, ?_⟩
        obtain ⟨z, ez, e⟩ : ∃ z : Nat, ljoin (some x) (some y) = some z ∧ lmeet (some x) (some y) = some (x + y - z) ∧ z ≤ x + y := by
          by_cases c : (x : Int) > (y : Int)
          · exact ⟨y, ljoin_gt c, (lmeet_gt c).trans (congrArg some (by omega)), by omega⟩
          · exact ⟨x, ljoin_le c, (lmeet_le c).trans (congrArg some (by omega)), by omega⟩
        show rI0 _ _ (wt (ljoin (some x) (some y))) H Q
        rw [ez]
        rw [e.1] at k
        simp only [wt] at *
        walk_at "wz"
        have q : ((x + y - z : Nat) : Int) = (x : Int) + y - z := by have := e.2; omega
        rw [q] at k
        exact k
theorem ok_law_is (T : Top K mg) : FnOk P w K mg base CX0 1 T.f_law_is T.fd_law_is ["told", "due"] spLawIs := by
  refine T.F_law_is.ok sc_law_is (fun vs H Q E h => ?_) (fun cdv A outer s H vs Q E hr h => ?_)
  · obtain ⟨v, rfl, _⟩ := h; rfl
  · obtain ⟨v, rfl, c, k⟩ := h
    refine ⟨_, (pss_cons (ps_if (PW.pt (pw_or (pt_cmpR RD.o_isN (pv 1) pe_non (nomark _)) (pw_or1 (pt_cmpR RD.o_isN (pv 0) pe_non (nomark _)))))
 (pss_one (ps_ret (pe_and (pe_cmpR RD.o_isN (pv 1) pe_non (nomark _)) (pe_one (pe_cmpR RD.o_isN (pv 0) pe_non (nomark _))))))
 pss_nil)
 (pss_one (ps_ret (pe_and (pe_callB call_isi (by rfl) T.n_isinstance (by decide +kernel) (pa_cons (pv 0) (pa_cons (pe_bltn (v := V.ty "int") (by rfl) T.n_int (by decide +kernel) rfl) pa_nil))) (pe_and (pe_cmpR op_eq (pe_callB call_isi (by rfl) T.n_isinstance (by decide +kernel) (pa_cons (pv 0) (pa_cons (pe_bltn (v := V.ty "bool") (by rfl) T.n_bool (by decide +kernel) rfl) pa_nil))) (pe_callB call_isi (by rfl) T.n_isinstance (by decide +kernel) (pa_cons (pv 1) (pa_cons (pe_bltn (v := V.ty "bool") (by rfl) T.n_bool (by decide +kernel) rfl) pa_nil))) (nomark _)) (pe_one (pe_cmpR op_eq (pv 0) (pv 1) (nomark _)))))))), ?_⟩
    rcases c with ⟨a, rfl⟩ | ⟨b, rfl⟩
    · cases a with
      | none => simp only [wt]; walk_at "wz"; exact k
      | some n =>
        simp only [wt]
        walk_at "wz"
        refine RD.d_isi (.ty _) (.base (.int n)) (kit_ty (r := true) (by decide +kernel)) ?_
        walk_at "wz"
        refine RD.d_isi (.ty _) (.base (.int n)) (kit_ty (r := false) (by decide +kernel)) ?_
        walk_at "wz"
        refine RD.d_isi (.ty _) (.base (.int n)) (kit_ty (r := false) (by decide +kernel)) ?_
        walk_at "wz"
        rw [decide_eq_true rfl]
        walk_at "wz"
        rw [decide_eq_true rfl]
        exact k
    · walk_at "wz"
      refine RD.d_isi (.ty _) (.base (.bl b)) (kit_ty (r := true) (by decide +kernel)) ?_
      walk_at "wz"
      refine RD.d_isi (.ty _) (.base (.bl b)) (kit_ty (r := true) (by decide +kernel)) ?_
      walk_at "wz"
      refine RD.d_isi (.ty _) (.base (.bl b)) (kit_ty (r := true) (by decide +kernel)) ?_
      walk_at "wz"
      rw [decide_eq_true rfl]
      walk_at "wz"
      rw [decide_eq_true rfl]
      exact k
end

theorem wmL {i j : Int} {m n : Nat} (h1 : i.natAbs < 2 ^ m) (h2 : j.natAbs < 2 ^ n) (h0 : 0 < m) (h3 : 0 < n) (h : m + n ≤ 1000000) : CMulW i j := wide_mul h1 h2 h0 h3 h
section
variable {P : Program} {w : World} {K : PySem.W.Frag} {mg : Str → Option Value} {base : Heap}
theorem ok_law_leaving_right (T : Top K mg) : FnOk P w K mg base CX0 3 T.f_law_leaving_right T.fd_law_leaving_right ["told", "a", "c"] spLeave := by
  refine T.F_law_leaving_right.ok sc_law_leaving_right (fun vs H Q E h => ?_) (fun cdv A outer s H vs Q E hr h => ?_)
  · obtain ⟨a, c, rfl, _⟩ := h; rfl
  · obtain ⟨a, c, rfl, k⟩ := h
    refine ⟨_, (pss_cons (ps_if (PW.pt (pw_and (pt_cmpR RD.o_notN (pv 0) pe_non (nomark _)) (pw_and1 (PW.pt (pw_or (pt_not (pt_val (pe_callB call_isi (by rfl) T.n_isinstance (by decide +kernel) (pa_cons (pv 0) (pa_cons (pe_bltn (v := V.ty "int") (by rfl) T.n_int (by decide +kernel) rfl) pa_nil))))) (pw_or (pt_val (pe_callB call_isi (by rfl) T.n_isinstance (by decide +kernel) (pa_cons (pv 0) (pa_cons (pe_bltn (v := V.ty "bool") (by rfl) T.n_bool (by decide +kernel) rfl) pa_nil)))) (pw_or1 (pt_cmpR op_lt (pv 0) pe_int (nomark _)))))))))
 (pss_one (ps_ret pe_bl))
 pss_nil)
 (pss_cons (ps_if (pt_not (pt_val (pe_call (ok_law_shorter T) (hr.mono (by decide)) (by rfl) T.g_law_shorter T.F_law_shorter.kp T.b_law_shorter .nil pass0 (pa_cons (pe_call (ok_law_times T) (hr.mono (by decide)) (by rfl) T.g_law_times T.F_law_times.kp T.b_law_times .nil pass0 (pa_cons (pv 1) (pa_cons (pv 0) pa_nil))) (pa_cons (pv 2) pa_nil)))))
 (pss_one (ps_ret pe_bl))
 pss_nil)
 (pss_cons (ps_if (pt_cmpR RD.o_isN (pv 0) pe_non (nomark _))
 (pss_one (ps_ret (pe_not (pe_call (ok_law_shorter T) (hr.mono (by decide)) (by rfl) T.g_law_shorter T.F_law_shorter.kp T.b_law_shorter .nil pass0 (pa_cons (pe_call (ok_law_times T) (hr.mono (by decide)) (by rfl) T.g_law_times T.F_law_times.kp T.b_law_times .nil pass0 (pa_cons (pv 1) (pa_cons (pe_op op_mulW (pe_op op_pow pe_int pe_int) (pe_op op_pow pe_int pe_int)) pa_nil))) (pa_cons (pv 2) pa_nil))))))
 pss_nil)
 (pss_one (ps_ret (pe_or (pe_cmpR op_eq (pv 0) pe_int (nomark _)) (pe_one (pe_not (pe_call (ok_law_shorter T) (hr.mono (by decide)) (by rfl) T.g_law_shorter T.F_law_shorter.kp T.b_law_shorter .nil pass0 (pa_cons (pe_call (ok_law_times T) (hr.mono (by decide)) (by rfl) T.g_law_times T.F_law_times.kp T.b_law_times .nil pass0 (pa_cons (pv 1) (pa_cons (pe_op op_sub (pv 0) pe_int) pa_nil))) (pa_cons (pv 2) pa_nil))))))))))), ?_⟩
    have e35 : (10 : Int) ^ Int.toNat 35 = 100000000000000000000000000000000000 := by decide
    obtain ⟨t, et⟩ : ∃ t, lmis a c = t := ⟨_, rfl⟩
    have sh : lg c (ltim a t) = false := by
      subst et
      cases a with
      | none => cases c <;> rfl
      | some l =>
        cases c with
        | none => rfl
        | some v => exact decide_eq_false (show ¬ (v : Int) > ((l + (v - l) : Nat) : Int) by omega)
    rw [et]
    cases t with
    | none =>
      obtain ⟨l, rfl⟩ : ∃ l, a = some l := by
        cases a with
        | none => exact absurd et (by intro z; cases z)
        | some l => exact ⟨l, rfl⟩
      obtain rfl : c = none := by
        cases c with
        | none => rfl
        | some v => exact absurd et (by intro z; cases z)
      show tSeq _ _ _ (L2.start _ [V.non, wt (some l), wt none]) _
      walk_at "wz"
      refine ⟨some l, none, rfl, ?_⟩
      walk_at "wz"
      refine ⟨_, none, rfl, ?_⟩
      refine ⟨true, by show V.bl (!lg _ _) = _; rw [sh]; rfl, ?_⟩
      walk_at "wz"
      rw [e35]
      walk_at "wz"
      refine RD.d_rI (wmL (m := 117) (n := 117) (by decide) (by decide) (by decide) (by decide) (by decide)) ?_
      walk_at "wz"
      refine ⟨some l, some (100000000000000000000000000000000000 * 100000000000000000000000000000000000), rfl, ?_⟩
      walk_at "wz"
      refine ⟨_, none, rfl, ?_⟩
      refine ⟨false, rfl, ?_⟩
      walk_at "wz"
      exact k
    | some n =>
      have le : ∀ m, n = m + 1 → lg c (ltim a (some m)) = true := fun m em => by
        cases a with
        | none => cases et; cases em
        | some l =>
          cases c with
          | none => cases et
          | some v =>
            have : v - l = n := by cases et; rfl
            exact decide_eq_true (show (v : Int) > ((l + m : Nat) : Int) by omega)
      show tSeq _ _ _ (L2.start _ [V.int n, wt a, wt c]) _
      walk_at "wz"
      refine RD.d_isi (.ty _) (.base (.int n)) (kit_ty (r := true) (by decide +kernel)) ?_
      walk_at "wz"
      refine RD.d_isi (.ty _) (.base (.int n)) (kit_ty (r := false) (by decide +kernel)) ?_
      walk_at "wz"
      rw [decide_eq_false (show ¬ (n : Int) < 0 by omega)]
      walk_at "wz"
      refine ⟨a, some n, rfl, ?_⟩
      walk_at "wz"
      refine ⟨_, c, rfl, ?_⟩
      refine ⟨true, by show V.bl (!lg _ _) = _; rw [sh]; rfl, ?_⟩
      walk_at "wz"
      cases n with
      | zero =>
        rw [decide_eq_true (show ((0 : Nat) : Int) = 0 from rfl)]
        walk_at "wz"
        exact k
      | succ m =>
        rw [decide_eq_false (show ¬ ((m + 1 : Nat) : Int) = 0 by omega)]
        walk_at "wz"
        have em : ((m + 1 : Nat) : Int) - 1 = (m : Int) := by omega
        rw [em]
        refine ⟨a, some m, rfl, ?_⟩
        walk_at "wz"
        refine ⟨_, c, rfl, ?_⟩
        refine ⟨false, by show V.bl (!lg _ _) = _; rw [le m rfl]; rfl, ?_⟩
        walk_at "wz"
        exact k
end

/-! ### Numbers -/
theorem rat_one (i : Int) : Rat.divInt i 1 = (i : Rat) := by
  have := Rat.num_divInt_den (i : Rat)
  rw [Rat.num_intCast, Rat.den_intCast] at this
  exact this
/-- Numbers() at x -/
def NumsAt (C CR : Addr) (H : Hp) (x : Addr) : Prop := ∃ dx a b, H x = some (.ins C dx [("none", .ref a), ("one", .ref b)]) ∧ RatAt CR H a 0 ∧ RatAt CR H b 1
theorem NumsAt.same {C CR : Addr} {H H' : Hp} {x : Addr} (h : NumsAt C CR H x) (s : Same H H') : NumsAt C CR H' x := by
  obtain ⟨dx, a, b, e, r1, r2⟩ := h
  exact ⟨dx, a, b, s _ _ e, r1.same s, r2.same s⟩
def spNumsI (C CR : Addr) : Sp := fun vs H Q _ => ∃ (x dx : Addr), vs = [.ref x] ∧ H x = some (.ins C dx []) ∧ ∀ H', Kx x H H' → NumsAt C CR H' x → Q .non H'
section
variable {P : Program} {w : World} {K : PySem.W.Frag} {mg : Str → Option Value} {base : Heap}
section
variable {E : XK}
theorem mk_rat (T : Top K mg) {i j : Int} {R : Addr → Hp → Prop} (nz : j ≠ 0) (hl : j.natAbs.log2 < 9000) (k : ∀ x H', Same H H' → H x = none → RatAt T.C_Ratio H' x (Rat.divInt i j) → R x H') :
    ∀ x dx, H x = none → H dx = none → dx ≠ x → spRat K T.C_Ratio T.C_BN (.ref x :: ([V.int i, V.int j] ++ [])) (upd (upd H dx (.own x)) x (.ins T.C_Ratio dx [])) (fun v H2 => v = .non ∧ R x H2) E := by
  intro x dx nx ndx ne
  refine ⟨x, dx, .int i, .int j, rfl, upd_same, .inr (.inr ⟨i, j, rfl, rfl, nz, hl, rfl, ?_⟩)⟩
  refine k x _ (fun b o e => ?_) nx ⟨dx, upd_same⟩
  rw [upd_ne (ne_of_none e nx), upd_ne (ne_of_none e nx), upd_ne (ne_of_none e ndx)]; exact e
end
theorem ok_Numbers__eq (T : Top K mg) : FnOk P w K mg base CX0 2 T.f_Numbers__eq T.fd_Numbers__eq ["self", "other"] (spIsOf K T.C_Numbers) := by
  refine T.F_Numbers__eq.ok sc_Numbers__eq (fun vs H Q E h => ?_) (fun cdv A outer s H vs Q E hr h => ?_)
  · obtain ⟨z, x, t, b, rfl, _⟩ := h; rfl
  · obtain ⟨z, x, t, b, rfl, ty, e, k⟩ := h
    refine ⟨_, (pss_one (ps_ret (pe_callB call_isi (by rfl) T.n_isinstance (by decide +kernel) (pa_cons (pv 1) (pa_cons (pe_glob (v := V.ref T.C_Numbers) (by rfl) T.g_Numbers rfl) pa_nil))))), ?_⟩
    walk_at "rd"
    exact RD.d_isi (.own _) ty e k
theorem ok_Numbers__init (T : Top K mg) : FnOk P w K mg base CX0 6 T.f_Numbers__init T.fd_Numbers__init ["self"] (spNumsI T.C_Numbers T.C_Ratio) := by
  refine T.F_Numbers__init.ok sc_Numbers__init (fun vs H Q E h => ?_) (fun cdv A outer s H vs Q E hr h => ?_)
  · obtain ⟨x, dx, rfl, _⟩ := h; rfl
  · obtain ⟨x, dx, rfl, ex, k⟩ := h
    obtain ⟨ds1, hv_Ratio__init, hb_Ratio__init⟩ := T.b1_Ratio__init
    refine ⟨_, (pss_cons (ps_fld (pv 0) (pe_make T.M_Ratio (ok_Ratio__init T) (hr.mono (by decide)) (by rfl) T.g_Ratio hb_Ratio__init hv_Ratio__init OQ.passN (pa_cons pe_int pa_nil)) rfl)
 (pss_one (ps_fld (pv 0) (pe_make T.M_Ratio (ok_Ratio__init T) (hr.mono (by decide)) (by rfl) T.g_Ratio hb_Ratio__init hv_Ratio__init OQ.passN (pa_cons pe_int pa_nil)) rfl))), ?_⟩
    walk_at "rd"
    refine mk_rat T (i := 0) (j := 1) (by decide) (by decide +kernel) (fun a H1 s1 na ha => ?_)
    have nx : x ≠ a := ne_of_none ex na
    replace ex := s1 _ _ ex
    walk_at "rd"
    refine ⟨x, T.C_Numbers, dx, _, rfl, ex, T.cl_Numbers, T.na_Numbers_none, by show 0 < 1000; decide, ?_⟩
    rw [putF_none]
    have ha2 : RatAt T.C_Ratio (upd H1 x (.ins T.C_Numbers dx [("none", .ref a)])) a 0 := by
      obtain ⟨d, e⟩ := ha
      rw [rat_one] at e
      exact ⟨d, by rw [upd_ne (Ne.symm nx)]; exact e⟩
    have k1 : Kx x H (upd H1 x (.ins T.C_Numbers dx [("none", .ref a)])) := Kx.trans (Same.kx s1) kx_upd
    have ex2 : upd H1 x (.ins T.C_Numbers dx [("none", .ref a)]) x = some (.ins T.C_Numbers dx [("none", .ref a)]) := upd_same
    generalize upd H1 x (.ins T.C_Numbers dx [("none", .ref a)]) = H2 at *
    walk_at "rd"
    refine mk_rat T (i := 1) (j := 1) (by decide) (by decide +kernel) (fun b H3 s3 nb hb => ?_)
    have nx2 : x ≠ b := ne_of_none ex2 nb
    replace ex2 := s3 _ _ ex2
    replace ha2 := ha2.same s3
    walk_at "rd"
    refine ⟨x, T.C_Numbers, dx, _, rfl, ex2, T.cl_Numbers, T.na_Numbers_one, by show 1 < 1000; decide, ?_⟩
    refine k _ ((k1.trans (Same.kx s3)).trans kx_upd) ⟨dx, a, b, ?_, ?_, ?_⟩
    · rw [upd_same, putF_ne (by decide +kernel), putF_none]
    · obtain ⟨d, e⟩ := ha2
      exact ⟨d, by rw [upd_ne (Ne.symm nx)]; exact e⟩
    · obtain ⟨d, e⟩ := hb
      rw [rat_one] at e
      exact ⟨d, by rw [upd_ne (Ne.symm nx2)]; exact e⟩
end

section
variable {P : Program} {w : World} {K : PySem.W.Frag} {mg : Str → Option Value} {base : Heap}
theorem ok_law_draw (T : Top K mg) : FnOk P w K mg base CX0 1 T.f_law_draw T.fd_law_draw ["hand", "many"] spDraw := by
  refine T.F_law_draw.ok sc_law_draw (fun vs H Q E h => ?_) (fun cdv A outer s H vs Q E hr h => ?_)
  · obtain ⟨h, c, many, rfl, _⟩ := h; rfl
  · obtain ⟨h, c, many, rfl, ⟨cs, p, q, m, n, e1, e2, ne, hp⟩, m0, ml, k⟩ := h
    refine ⟨_, (C8.pss_cut (ps_if (PW.pt (pw_and (pt_cmpR op_eq (pe_ix ix_list (pv 0) pe_int (fun _ _ => rfl)) pe_int (nomark _)) (pw_and1 (pt_cmpR op_lt (pe_ix ix_list (pv 0) pe_int (fun _ _ => rfl)) (pe_callB RD.c_len (by rfl) T.n_len (by decide +kernel) (pa_cons (pe_ix ix_list (pv 0) pe_int (fun _ _ => rfl)) pa_nil)) (nomark _)))))
 (pss_cons (ps_set (i := 2) sc_law_draw.nd rfl (Or.inl rfl) (pe_ix ix_list (pe_ix ix_list (pv 0) pe_int (fun _ _ => rfl)) (pe_ix ix_list (pv 0) pe_int (fun _ _ => rfl)) (fun _ _ => rfl)))
 (pss_cons (ps_asg (pe_op op_add (pe_ix ix_list (pv 0) pe_int (fun _ _ => rfl)) pe_int) (pg_sub (pv 0) pe_int set_list))
 (pss_cons (ps_asg (pe_op op_mod (pe_callTy RD.c_int (by rfl) T.n_int (by decide +kernel) (pa_cons (pe_op op_add (pe_op op_add (pe_op op_mul (pe_ix ix_list (pv 0) pe_int (fun _ _ => rfl)) pe_int) (pv 2)) pe_int) pa_nil)) pe_int) (pg_sub (pv 0) pe_int set_list))
 (pss_one (ps_if (pt_cmpR op_ge (pv 2) (pe_op op_pow pe_int pe_int) (nomark _))
 (pss_one (ps_asg (pv 2) (pg_sub (pv 0) pe_int set_list)))
 pss_nil)))))
 pss_nil)
 (pss_cons (ps_if (pt_cmpR op_gt (pe_ix ix_list (pv 0) pe_int (fun _ _ => rfl)) pe_int (nomark _))
 (pss_cons (ps_set (i := 3) sc_law_draw.nd rfl (Or.inl rfl) (pe_op op_mod (pe_callTy RD.c_int (by rfl) T.n_int (by decide +kernel) (pa_cons (pe_ix ix_list (pv 0) pe_int (fun _ _ => rfl)) pa_nil)) (pv 1)))
 (pss_cons (ps_asg (pe_op op_fdivW (pe_ix ix_list (pv 0) pe_int (fun _ _ => rfl)) (pv 1)) (pg_sub (pv 0) pe_int set_list))
 (pss_one (ps_ret (pv 3)))))
 pss_nil)
 (pss_cons (ps_asg (pe_op op_add (pe_ix ix_list (pv 0) pe_int (fun _ _ => rfl)) pe_int) (pg_sub (pv 0) pe_int set_list))
 (pss_cons (ps_set (i := 4) sc_law_draw.nd rfl (Or.inl rfl) (pe_op op_mod (pe_callTy RD.c_int (by rfl) T.n_int (by decide +kernel) (pa_cons (pe_op op_mul (pe_callTy RD.c_int (by rfl) T.n_int (by decide +kernel) (pa_cons (pe_op op_add (pe_ix ix_list (pv 0) pe_int (fun _ _ => rfl)) (pe_op op_mul pe_int (pe_ix ix_list (pv 0) pe_int (fun _ _ => rfl)))) pa_nil)) pe_int) pa_nil)) pe_int))
 (pss_cons (ps_set (i := 4) sc_law_draw.nd rfl (Or.inl rfl) (pe_op op_mod (pe_callTy RD.c_int (by rfl) T.n_int (by decide +kernel) (pa_cons (pe_op op_mul (pv 4) (pe_op op_add (pe_op op_fdivW (pv 4) pe_int) pe_int)) pa_nil)) pe_int))
 (pss_cons (ps_set (i := 4) sc_law_draw.nd rfl (Or.inl rfl) (pe_op op_mod (pe_callTy RD.c_int (by rfl) T.n_int (by decide +kernel) (pa_cons (pe_op op_mul (pv 4) (pe_op op_add (pe_op op_fdivW (pv 4) pe_int) pe_int)) pa_nil)) pe_int))
 (pss_one (ps_ret (pe_op op_mod (pe_callTy RD.c_int (by rfl) T.n_int (by decide +kernel) (pa_cons (pe_op op_fdivW (pv 4) pe_int) pa_nil)) (pv 1)))))))))), ?_⟩
    unfold handV at e1
    refine RD.d_cut (fun σ' H' => ∃ x p' q' m', σ' = [some (.ref h), some (.int many), x, none, none] ∧ H' = upd H h (.lst [.ref c, .int p', .int q', .int m', .int n]) ∧ 0 ≤ p') ?_ ?_
    · walk_at "rd"
      refine RD.iteD (fun c1 => ?_) (fun c1 => ?_)
      · walk_at "rd"
        refine RD.iteD (fun c2 => ?_) (fun c2 => ?_)
        · have hl : p.toNat < cs.length := by rw [List.length_map] at c2; omega
          have hg : (cs.map V.int)[p.toNat]? = some (V.int cs[p.toNat]) := by simp [hl]
          have ha : atI (cs.map V.int) p = some (V.int cs[p.toNat]) := by
            have z := atI_nat hg
            rwa [Int.toNat_of_nonneg hp] at z
          walk_at "rd"
          refine RD.d_ixL (SqL.of e2) ha ?_
          walk_at "rd"
          refine RD.iteD (fun c3 => ?_) (fun c3 => ?_)
          · walk_at "rd"
            exact ⟨_, p + 1, cs[p.toNat], (m * 69621 + cs[p.toNat] + 11) % 2147483629, rfl, (by rw [upd_upd, upd_upd]; rfl), by omega⟩
          · walk_at "rd"
            exact ⟨_, p + 1, q, (m * 69621 + cs[p.toNat] + 11) % 2147483629, rfl, (by rw [upd_upd]; rfl), by omega⟩
        · walk_at "rd"
          exact ⟨none, p, q, m, rfl, (upd_id e1).symm, hp⟩
      · walk_at "rd"
        exact ⟨none, p, q, m, rfl, (upd_id e1).symm, hp⟩
    · rintro σ' H' ⟨x, p', q', m', rfl, rfl, hp'⟩
      have fin : ∀ q2 n2 : Int, HandAt (upd H h (.lst [.ref c, .int p', .int q2, .int m', .int n2])) h c ∧ But h H (upd H h (.lst [.ref c, .int p', .int q2, .int m', .int n2])) := fun q2 n2 =>
        ⟨⟨cs, p', q2, m', n2, upd_same, (by rw [upd_ne ne]; exact e2), ne, hp'⟩, fun b hb => upd_ne hb⟩
      walk_at "rd"
      refine RD.iteD (fun c1 => ?_) (fun c1 => ?_)
      · walk_at "rd"
        rw [upd_upd]
        exact k _ _ (Int.emod_nonneg _ (by omega)) (Int.emod_lt_of_pos _ m0) (fin _ _).1 (fin _ _).2
      · walk_at "rd"
        rw [upd_upd]
        exact k _ _ (Int.emod_nonneg _ (by omega)) (Int.emod_lt_of_pos _ m0) (fin _ _).1 (fin _ _).2
end
section
variable {P : Program} {w : World} {K : PySem.W.Frag} {mg : Str → Option Value} {base : Heap}
theorem ok_law_hand (T : Top K mg) : FnOk P w K mg base CX0 1 T.f_law_hand T.fd_law_hand ["script"] (spHand K) := by
  refine T.F_law_hand.ok sc_law_hand (fun vs H Q E h => ?_) (fun cdv A outer s H vs Q E hr h => ?_)
  · obtain ⟨a, ns, rfl, _⟩ := h; rfl
  · obtain ⟨a, ns, rfl, hS, hl, k⟩ := h
    refine ⟨_, (pss_cons (ps_setLc (i := 1) (own := [("cell", 2)]) (g := (gName 2)) (tt := tYes) rfl sc_law_hand.nd rfl rfl (sw_true rfl rfl rfl (by decide +kernel)) (pi_list (pe_slice sl_list (pv 0) po_none (po_some pe_int))) (blkOk_by (own := [("cell", 2)]) (N := ["script", "cells", "cell"]) (sc := defScope s_law_hand) (by decide +kernel)) (fun _ _ _ _ _ => (pg_name (i := 2) sc_law_hand.nd rfl (Or.inl rfl))) (fun _ _ _ _ _ => pts_nil) (fun _ _ _ _ _ => (pe_callB RD.c_abs (by rfl) T.n_abs (by decide +kernel) (pa_cons (pe_callTy RD.c_int (by rfl) T.n_int (by decide +kernel) (pa_cons (pv 2) pa_nil)) pa_nil))))
 (pss_one (ps_ret (pe_lst (pa_cons (pv 1) (pa_cons pe_int (pa_cons pe_int (pa_cons (pe_op op_add pe_int (pe_callB RD.c_len (by rfl) T.n_len (by decide +kernel) (pa_cons (pv 1) pa_nil))) (pa_cons pe_int pa_nil))))))))), ?_⟩
    walk_at "rd"
    refine ⟨a, ns.map V.int, rfl, hS, fun p hp => ?_⟩
    walk_at "rd"
    intro D hD
    have nD : D ≠ p := ne_of_free hD
    have hz : ∀ v ∈ cutV (ns.map V.int) none (some 63), ∃ z : Int, v = V.int z := fun v hv => by
      have q := List.mem_of_mem_take hv
      have q2 := List.mem_of_mem_drop q
      obtain ⟨z, _, rfl⟩ := List.mem_map.mp q2
      exact ⟨z, rfl⟩
    have hlen : (cutV (ns.map V.int) none (some 63)).length ≤ 63 := Nat.le_trans (cutV_length _ _ _) (by rw [List.length_map]; exact hl)
    refine lc_list (K := K) (a := p) (xs := cutV (ns.map V.int) none (some 63)) (fun i H' => Same H H' ∧ H D = none ∧ H' p = some (.lst (cutV (ns.map V.int) none (some 63))) ∧ ∃ cs : List Int, H' D = some (.lst (cs.map V.int)) ∧ cs.length ≤ i) ?_ ?_ ?_ ?_
    · refine ⟨fun b o e => ?_, (upd_none hD).2, by rw [upd_ne nD.symm, upd_same], [], upd_same, Nat.le_refl _⟩
      rw [upd_ne (ne_of_none e (upd_none hD).2), upd_ne (ne_of_none e hp)]; exact e
    · exact fun i H' _ q => SqL.of q.2.2.1
    · rintro i x H' hi ⟨s0, d0, hp', cs, hc, hcl⟩
      obtain ⟨z, rfl⟩ := hz x (List.mem_of_getElem? hi)
      have hi' : i < 63 := Nat.lt_of_lt_of_le (List.getElem?_eq_some_iff.mp hi).1 hlen
      walk_at "rd"
      refine ⟨_, hc, Nat.lt_of_le_of_lt (by rw [List.length_map]; exact hcl) (Nat.lt_of_lt_of_le hi' (by decide)), fun b o e => ?_, d0, by rw [upd_ne nD.symm]; exact hp', cs ++ [_], by rw [upd_same, List.map_append]; rfl, by simp; omega⟩
      rw [upd_ne (ne_of_none e d0)]; exact s0 b o e
    · rintro H' ⟨s0, d0, hp', cs, hc, hcl⟩
      walk_at "rd"
      refine ⟨by show 5 ≤ sizeLine; decide, fun h hh => ?_⟩
      refine k h D _ ⟨cs, 0, 0, _, 0, upd_same, by rw [upd_ne (ne_of_none hc hh)]; exact hc, ne_of_none hc hh, Int.le_refl _⟩ (fun b o e => ?_) (s0.free hh)
      rw [upd_ne (ne_of_none (s0 b o e) hh)]; exact s0 b o e
end

def Kp (h : Addr) (H H' : Hp) : Prop := ∀ b o, b ≠ h → H b = some o → H' b = some o
theorem Kp.rfl' {h : Addr} {H : Hp} : Kp h H H := fun _ _ _ e => e
theorem Kp.trans {h : Addr} {H H1 H2 : Hp} (a : Kp h H H1) (b : Kp h H1 H2) : Kp h H H2 := fun c o n e => b c o n (a c o n e)
theorem But.kp {h : Addr} {H H' : Hp} (b : But h H H') : Kp h H H' := fun c o n e => by rw [b c n]; exact e
theorem kp_upd {h p : Addr} {H : Hp} {o : HO} (hp : H p = none) : Kp h H (upd H p o) := fun b u _ e => by rw [upd_ne (ne_of_none e hp)]; exact e

/-! ### drawn lengths -/
def spLength : Sp := fun vs H Q _ => ∃ (h c : Addr), vs = [.ref h] ∧ HandAt H h c ∧ ∀ (a : Option Nat) (H' : Hp), HandAt H' h c → Kp h H H' → Q (wt a) H'
theorem kpNeL {H : Hp} {h c p : Addr} {xs : List V} (x : HandAt H h c) (l : xs.length ≠ 5) (e : H p = Option.some (HO.lst xs)) : p ≠ h := fun z => by
  obtain ⟨cs, a, q, m, n, e1, _⟩ := x
  rw [z, e1] at e
  cases e
  exact l rfl
section
variable {P : Program} {w : World} {K : PySem.W.Frag} {mg : Str → Option Value} {base : Heap}
theorem ok_law_length (T : Top K mg) : FnOk P w K mg base CX0 2 T.f_law_length T.fd_law_length ["hand"] spLength := by
  refine T.F_law_length.ok sc_law_length (fun vs H Q E h => ?_) (fun cdv A outer s H vs Q E hr h => ?_)
  · obtain ⟨h, c, rfl, _⟩ := h; rfl
  · obtain ⟨h, c, rfl, hd, k⟩ := h
    have e9 : (10 : Int) ^ Int.toNat 9 = 1000000000 := by decide
    have e50 : (10 : Int) ^ Int.toNat 50 = 100000000000000000000000000000000000000000000000000 := by decide
    refine ⟨_, (pss_cons (ps_set (i := 1) sc_law_length.nd rfl (Or.inl rfl) (pe_call (ok_law_draw T) (hr.mono (by decide)) (by rfl) T.g_law_draw T.F_law_draw.kp T.b_law_draw .nil pass0 (pa_cons (pv 0) (pa_cons (pe_op op_pow pe_int pe_int) pa_nil))))
 (pss_one (ps_ret (pe_ix ix_list (pe_lst (pa_cons pe_int (pa_cons pe_int (pa_cons pe_non (pa_cons (pe_call (ok_law_draw T) (hr.mono (by decide)) (by rfl) T.g_law_draw T.F_law_draw.kp T.b_law_draw .nil pass0 (pa_cons (pv 0) (pa_cons pe_int pa_nil))) (pa_cons (pe_call (ok_law_draw T) (hr.mono (by decide)) (by rfl) T.g_law_draw T.F_law_draw.kp T.b_law_draw .nil pass0 (pa_cons (pv 0) (pa_cons pe_int pa_nil))) (pa_cons (pv 1) (pa_cons (pe_op op_add (pe_op op_mul (pv 1) (pe_op op_pow pe_int pe_int)) pe_int) pa_nil)))))))) (pe_call (ok_law_draw T) (hr.mono (by decide)) (by rfl) T.g_law_draw T.F_law_draw.kp T.b_law_draw .nil pass0 (pa_cons (pv 0) (pa_cons pe_int pa_nil))) (fun _ _ => rfl))))), ?_⟩
    walk_at "rd"
    rw [e9]
    refine ⟨h, c, 1000000000, rfl, hd, by decide, by decide +kernel, fun f H1 f0 f1 hd1 b1 => ?_⟩
    walk_at "rd"
    refine ⟨h, c, 10, rfl, hd1, by decide, by decide +kernel, fun x H2 x0 x1 hd2 b2 => ?_⟩
    walk_at "rd"
    refine ⟨h, c, 10, rfl, hd2, by decide, by decide +kernel, fun y H3 y0 y1 hd3 b3 => ?_⟩
    walk_at "rd"
    rw [e50]
    refine ⟨by show 7 ≤ sizeLine; decide, fun p hp => ?_⟩
    generalize hits : [V.int 0, V.int 1, V.non, V.int x, V.int y, V.int f, V.int (f * 100000000000000000000000000000000000000000000000000 + 7)] = its
    have sev : its.length = 7 := by rw [← hits]; rfl
    have s5 := same_upd (o := HO.lst its) hp
    have eq : upd H3 p (.lst its) p = some (.lst its) := upd_same
    have all : ∀ v ∈ its, ∃ a, v = wt a := by
      intro v hv
      rw [← hits] at hv
      simp only [List.mem_cons, List.not_mem_nil, or_false] at hv
      rcases hv with rfl | rfl | rfl | rfl | rfl | rfl | rfl
      · exact ⟨some 0, rfl⟩
      · exact ⟨some 1, rfl⟩
      · exact ⟨none, rfl⟩
      · exact ⟨some x.toNat, by show V.int x = V.int x.toNat; rw [Int.toNat_of_nonneg x0]⟩
      · exact ⟨some y.toNat, by show V.int y = V.int y.toNat; rw [Int.toNat_of_nonneg y0]⟩
      · exact ⟨some f.toNat, by show V.int f = V.int f.toNat; rw [Int.toNat_of_nonneg f0]⟩
      · exact ⟨some (f * 100000000000000000000000000000000000000000000000000 + 7).toNat, by show V.int _ = V.int (Int.toNat _); rw [Int.toNat_of_nonneg (by omega)]⟩
    have k0 : Kp h H (upd H3 p (.lst its)) := ((b1.kp.trans b2.kp).trans b3.kp).trans (kp_upd hp)
    replace hd3 := hd3.same s5
    generalize upd H3 p (.lst its) = H4 at *
    have nq := kpNeL hd3 (by rw [sev]; decide) eq
    walk_at "rd"
    refine ⟨h, c, 7, rfl, hd3, by decide, by decide +kernel, fun r H5 r0 r1 hd5 b5 => ?_⟩
    have rl : r.toNat < its.length := by omega
    have ar : atI its r = some its[r.toNat] := by
      have z := atI_nat (List.getElem?_eq_getElem rl)
      rwa [Int.toNat_of_nonneg r0] at z
    walk_at "rd"
    refine RD.d_ixL (SqL.of (by rw [b5 p nq]; exact eq)) ar ?_
    walk_at "rd"
    obtain ⟨a, ea⟩ := all _ (List.getElem_mem rl)
    rw [ea]
    exact k a _ hd5 (k0.trans b5.kp)
end

theorem kit_selfR {K : PySem.W.Frag} {t : Value} : PySem.W.kitOne K t t = some true := by
  unfold PySem.W.kitOne
  rw [if_pos (by simp)]
/-- a reckoning is not what is of another kind -/
def spRekEq (K : PySem.W.Frag) (C : Addr) : Sp := fun vs H Q _ => ∃ (x : Addr) (y : V), vs = [.ref x, y] ∧ RekF C H x 2 max min 0 1 ∧ ((∃ t, TyX K H y t ∧ PySem.W.kitOne K t (.ref C) = some false ∧ Q (.bl false) H) ∨ False)
section
variable {P : Program} {w : World} {K : PySem.W.Frag} {mg : Str → Option Value} {base : Heap}
theorem ok_Reckoning__eq (T : Top K mg) : FnOk P w K mg base CX0 2 T.f_Reckoning__eq T.fd_Reckoning__eq ["self", "other"] (spRekEq K T.C_Reckoning) := by
  refine T.F_Reckoning__eq.ok sc_Reckoning__eq (fun vs H Q E h => ?_) (fun cdv A outer s H vs Q E hr h => ?_)
  · obtain ⟨x, y, rfl, _⟩ := h; rfl
  · obtain ⟨x, y, rfl, re, h⟩ := h
    refine ⟨_, (pss_cons (ps_if (pt_not (pt_val (pe_callB call_isi (by rfl) T.n_isinstance (by decide +kernel) (pa_cons (pv 1) (pa_cons (pe_glob (v := V.ref T.C_Reckoning) (by rfl) T.g_Reckoning rfl) pa_nil)))))
 (pss_one (ps_ret pe_bl))
 pss_nil)
 (pss_cons (ps_if (PW.pt (pw_or (pt_cmpR (op_neD hr.units) (pe_fld (pv 0) (by rfl)) (pe_fld (pv 1) (by rfl)) (nomark _)) (pw_or1 (pt_cmpR (op_neD hr.units) (pe_fld (pv 0) (by rfl)) (pe_fld (pv 1) (by rfl)) (nomark _)))))
 (pss_one (ps_ret pe_bl))
 pss_nil)
 (pss_one (ps_ret (pe_and (pe_cmpR op_eq (pe_fld (pv 0) (by rfl)) (pe_fld (pv 1) (by rfl)) (nomark _)) (pe_one (pe_cmpR op_eq (pe_fld (pv 0) (by rfl)) (pe_fld (pv 1) (by rfl)) (nomark _)))))))), ?_⟩
    walk_at "rd"
    rcases h with ⟨t, ty, e, k⟩ | h
    · refine RD.d_isi (.own _) ty e ?_
      walk_at "rd"
      exact k
    · exact h.elim
end

/-! ### what the law holds on to -/
def spLaw (K : PySem.W.Frag) : Sp := fun vs H Q _ => ∃ (a : Addr) (ns : List Int), vs = [.ref a] ∧ SqL K H a (ns.map V.int) ∧ ns.length ≤ 63 ∧ ∀ H', Q (.bl true) H'
theorem insNe {H : Hp} {h c x C dx : Addr} {fs : List (Str × V)} (hd : HandAt H h c) (e : H x = some (.ins C dx fs)) : x ≠ h := fun z => by
  obtain ⟨cs, a, q, m, n, e1, _⟩ := hd
  rw [z, e1] at e; cases e
theorem LenAt.kp {C h c : Addr} {H H' : Hp} {x : Addr} (r : LenAt C H x) (hd : HandAt H h c) (k : Kp h H H') : LenAt C H' x := by
  obtain ⟨dx, e⟩ := r
  exact ⟨dx, k _ _ (insNe hd e) e⟩
theorem RekF.same {C : Addr} {H H' : Hp} {x : Addr} {n : Nat} {J M : Nat → Nat → Nat} {z o : Nat} (h : RekF C H x n J M z o) (s : Same H H') : RekF C H' x n J M z o := by
  obtain ⟨dx, jt, pt, mt, lt, rt, e, t1, t2⟩ := h
  exact ⟨dx, jt, pt, mt, lt, rt, s _ _ e, t1.same s, t2.same s⟩
/-- the algebra of lengths -/
theorem left_lg (a b c : Option Nat) : lg (lmis a c) b = lg c (ltim a b) := by
  cases a with
  | none =>
    cases b with
    | none => cases c <;> rfl
    | some y =>
      cases c with
      | none => exact decide_eq_false (show ¬ ((0 : Nat) : Int) > (y : Int) by omega)
      | some v => exact decide_eq_false (show ¬ ((0 : Nat) : Int) > (y : Int) by omega)
  | some l =>
    cases b with
    | none => cases c <;> rfl
    | some y =>
      cases c with
      | none => rfl
      | some v =>
        show decide (((v - l : Nat) : Int) > (y : Int)) = decide ((v : Int) > ((l + y : Nat) : Int))
        exact decide_eq_decide.mpr (by omega)
theorem ltim_comm (a b : Option Nat) : ltim a b = ltim b a := by
  cases a <;> cases b <;> first | rfl | exact congrArg some (Nat.add_comm _ _)
theorem lg_some {x y : Nat} (h : (x : Int) > (y : Int)) : lg (some x) (some y) = true := decide_eq_true h
theorem tim_join (a b c : Option Nat) : ltim a (ljoin b c) = ljoin (ltim a b) (ltim a c) := by
  cases a with
  | none => rfl
  | some l =>
    cases b with
    | none => cases c <;> rfl
    | some y =>
      cases c with
      | none => rfl
      | some v =>
        by_cases g : (y : Int) > (v : Int)
        · rw [ljoin_gt g]
          exact (ljoin_gt (x := l + y) (y := l + v) (by omega)).symm
        · rw [ljoin_le g]
          exact (ljoin_le (x := l + y) (y := l + v) (by omega)).symm
section
variable {K : PySem.W.Frag} {mg : Str → Option Value} {H : Hp}
theorem tyN (T : Top K mg) {x : Addr} (h : NumsAt T.C_Numbers T.C_Ratio H x) : TyX K H (.ref x) (.ref T.C_Numbers) := by
  obtain ⟨dx, a, b, e, _⟩ := h
  exact .base (.ins e T.cl_Numbers T.ha_Numbers T.hnO T.htO T.hm_Numbers)
theorem tyK (T : Top K mg) {x : Addr} (h : RekF T.C_Reckoning H x 2 max min 0 1) : TyX K H (.ref x) (.ref T.C_Reckoning) := by
  obtain ⟨dx, jt, pt, mt, lt, rt, e, _⟩ := h
  exact .base (.ins e T.cl_Reckoning T.ha_Reckoning T.hnO T.htO T.hm_Reckoning)
theorem tyLe (T : Top K mg) {x : Addr} (h : LenAt T.C_Lengths H x) : TyX K H (.ref x) (.ref T.C_Lengths) := by
  obtain ⟨dx, e⟩ := h
  exact .base (.ins e T.cl_Lengths T.ha_Lengths T.hnO T.htO T.hm_Lengths)
theorem nf_self {C : Addr} : PySem.W.notFirst K C (.ref C) = true := by unfold PySem.W.notFirst; simp
end
/-- what Lengths() is not equal to -/
inductive Thing {K : PySem.W.Frag} {mg : Str → Option Value} (T : Top K mg) (H : Hp) : V → Prop
  | plain {y : V} (n : String) (hn : n ∈ ["NoneType", "int", "str", "list"]) (h : OQ.Plain4 K H y n) (ty : TyX K H y (.type n)) : Thing T H y
  | rek {p : Addr} (e : RekF T.C_Reckoning H p 2 max min 0 1) : Thing T H (.ref p)
  | num {p : Addr} (e : NumsAt T.C_Numbers T.C_Ratio H p) : Thing T H (.ref p)
theorem sub7 {n : String} (h : n ∈ ["NoneType", "int", "str", "list"]) : n ∈ ["NoneType", "bool", "int", "str", "list", "tuple", "dict"] := by
  simp only [List.mem_cons, List.not_mem_nil, or_false] at h ⊢
  rcases h with h | h | h | h
  · exact .inl h
  · exact .inr (.inr (.inl h))
  · exact .inr (.inr (.inr (.inl h)))
  · exact .inr (.inr (.inr (.inr (.inl h))))
section
variable {K : PySem.W.Frag} {mg : Str → Option Value} {T : Top K mg} {H : Hp} {y : V} {x : Addr} {Q : VK} {E E2 E3 : XK}
theorem Thing.ty (h : Thing T H y) : ∃ t, TyX K H y t ∧ PySem.W.kitOne K t (.ref T.C_Lengths) = some false ∧ PySem.W.notFirst K T.C_Lengths t = true := by
  cases h with
  | plain n hn h ty => exact ⟨_, ty, (T.kT_Lengths n (sub7 hn)).1, (T.kT_Lengths n (sub7 hn)).2⟩
  | rek e => exact ⟨_, tyK T e, T.kP_Reckoning_Lengths.1, T.kP_Reckoning_Lengths.2⟩
  | num e => exact ⟨_, tyN T e, T.kP_Numbers_Lengths.1, T.kP_Numbers_Lengths.2⟩
theorem Thing.fore (h : Thing T H y) (hN : LenAt T.C_Lengths H x) (k : Q (.bl false) H) : OQ.rOwnEq K T.C_Lengths (spIsOf K T.C_Lengths) E (.ref x) y H Q := by
  obtain ⟨t, ty, e, nf⟩ := h.ty
  obtain ⟨dx, ex⟩ := hN
  exact ⟨x, dx, _, t, rfl, ex, ty, nf, _, _, t, false, rfl, ty, e, k⟩
theorem Thing.back (h : Thing T H y) (hN : LenAt T.C_Lengths H x) (k : Q (.bl false) H) :
    OQ.rBackEq K T.C_Lengths (spIsOf K T.C_Lengths) E y (.ref x) H Q ∨ OQ.rOwnEq K T.C_Reckoning (spRekEq K T.C_Reckoning) E2 y (.ref x) H Q ∨ OQ.rOwnEq K T.C_Numbers (spIsOf K T.C_Numbers) E3 y (.ref x) H Q := by
  have tn := tyLe T hN
  obtain ⟨dx, ex⟩ := id hN
  cases h with
  | plain n hn h ty => exact .inl ⟨x, dx, _, n, rfl, ex, h, T.sb_Lengths n hn, _, _, _, false, rfl, ty, (T.kT_Lengths n (sub7 hn)).1, k⟩
  | @rek p e =>
    obtain ⟨d, jt, pt, mt, lt, rt, ep, _⟩ := id e
    exact .inr (.inl ⟨p, d, _, _, rfl, ep, tn, T.kP_Lengths_Reckoning.2, p, .ref x, rfl, e, .inl ⟨_, tn, T.kP_Lengths_Reckoning.1, k⟩⟩)
  | @num p e =>
    obtain ⟨d, a, b, ep, _⟩ := id e
    exact .inr (.inr ⟨p, d, _, _, rfl, ep, tn, T.kP_Lengths_Numbers.2, _, _, _, false, rfl, tn, T.kP_Lengths_Numbers.1, k⟩)
end

section
variable {P : Program} {w : World} {K : PySem.W.Frag} {mg : Str → Option Value} {base : Heap}
theorem neB {x y : Bool} {H : Hp} {Q : VK} (e : x = y) (h : Q (.bl false) H) : rNe (.bl x) (.bl y) H Q := by
  subst e
  exact ⟨rfl, by rw [decide_eq_true rfl]; exact h⟩
theorem ok_law (T : Top K mg) : FnOk P w K mg base CX0 18 T.f_law T.fd_law ["script"] (spLaw K) := by
  refine T.F_law.ok sc_law (fun vs H Q E h => ?_) (fun cdv A outer s H vs Q E hr h => ?_)
  · obtain ⟨a, ns, rfl, _⟩ := h; rfl
  · obtain ⟨ad, ns, rfl, hS, hl, k⟩ := h
    refine ⟨_, (C8.pss_cut (ps_set (i := 1) sc_law.nd rfl (Or.inl rfl) (pe_call (ok_law_hand T) (hr.mono (by decide)) (by rfl) T.g_law_hand T.F_law_hand.kp T.b_law_hand .nil pass0 (pa_cons (pv 0) pa_nil)))
 (C8.pss_cut (ps_set (i := 2) sc_law.nd rfl (Or.inl rfl) (pe_make0 T.M_Lengths (ok_Lengths__init T) (hr.mono (by decide)) (by rfl) T.g_Lengths T.b_Lengths__init .nil pass0))
 (C8.pss_cut (ps_if (PW.pt (pw_or (pt_not (pt_val (pe_call (ok_law_is T) (hr.mono (by decide)) (by rfl) T.g_law_is T.F_law_is.kp T.b_law_is .nil pass0 (pa_cons (pe_fld (pv 2) (by rfl)) (pa_cons pe_non pa_nil))))) (pw_or (pt_not (pt_val (pe_call (ok_law_is T) (hr.mono (by decide)) (by rfl) T.g_law_is T.F_law_is.kp T.b_law_is .nil pass0 (pa_cons (pe_fld (pv 2) (by rfl)) (pa_cons pe_int pa_nil))))) (pw_or1 (pt_not (pt_val (pe_call (ok_law_is T) (hr.mono (by decide)) (by rfl) T.g_law_is T.F_law_is.kp T.b_law_is .nil pass0 (pa_cons (pe_meth0 (pv 2) T.cl_Lengths T.m_Lengths_greatest (ok_Lengths_greatest T) (hr.mono (by decide)) T.b_Lengths_greatest .nil pass0) (pa_cons pe_int pa_nil)))))))))
 (pss_one (ps_ret pe_bl))
 pss_nil)
 (C8.pss_cut (ps_for PassesOwn.never rfl (pi_range1 (by rfl) T.n_range (pa_cons pe_int pa_nil)) (pg_name (i := 3) sc_law.nd rfl (Or.inl rfl))
 (C8.pss_cut (ps_set (i := 4) sc_law.nd rfl (Or.inl rfl) (pe_call (ok_law_length T) (hr.mono (by decide)) (by rfl) T.g_law_length T.F_law_length.kp T.b_law_length .nil pass0 (pa_cons (pv 1) pa_nil)))
 (C8.pss_cut (ps_set (i := 5) sc_law.nd rfl (Or.inl rfl) (pe_call (ok_law_length T) (hr.mono (by decide)) (by rfl) T.g_law_length T.F_law_length.kp T.b_law_length .nil pass0 (pa_cons (pv 1) pa_nil)))
 (C8.pss_cut (ps_set (i := 6) sc_law.nd rfl (Or.inl rfl) (pe_call (ok_law_length T) (hr.mono (by decide)) (by rfl) T.g_law_length T.F_law_length.kp T.b_law_length .nil pass0 (pa_cons (pv 1) pa_nil)))
 (C8.pss_cut (ps_if (PW.pt (pw_or (pt_not (pt_val (pe_call (ok_law_is T) (hr.mono (by decide)) (by rfl) T.g_law_is T.F_law_is.kp T.b_law_is .nil pass0 (pa_cons (pe_meth (pv 2) T.cl_Lengths T.m_Lengths_join (ok_Lengths_join T) (hr.mono (by decide)) T.b_Lengths_join .nil pass0 (pa_cons (pv 4) (pa_cons (pv 5) pa_nil))) (pa_cons (pe_call (ok_law_join T) (hr.mono (by decide)) (by rfl) T.g_law_join T.F_law_join.kp T.b_law_join .nil pass0 (pa_cons (pv 4) (pa_cons (pv 5) pa_nil))) pa_nil))))) (pw_or1 (pt_not (pt_val (pe_call (ok_law_is T) (hr.mono (by decide)) (by rfl) T.g_law_is T.F_law_is.kp T.b_law_is .nil pass0 (pa_cons (pe_meth (pv 2) T.cl_Lengths T.m_Lengths_meet (ok_Lengths_meet T) (hr.mono (by decide)) T.b_Lengths_meet .nil pass0 (pa_cons (pv 4) (pa_cons (pv 5) pa_nil))) (pa_cons (pe_call (ok_law_meet T) (hr.mono (by decide)) (by rfl) T.g_law_meet T.F_law_meet.kp T.b_law_meet .nil pass0 (pa_cons (pv 4) (pa_cons (pv 5) pa_nil))) pa_nil))))))))
 (pss_one (ps_ret pe_bl))
 pss_nil)
 (C8.pss_cut (ps_if (PW.pt (pw_or (pt_not (pt_val (pe_call (ok_law_is T) (hr.mono (by decide)) (by rfl) T.g_law_is T.F_law_is.kp T.b_law_is .nil pass0 (pa_cons (pe_meth (pv 2) T.cl_Lengths T.m_Lengths_times (ok_Lengths_times T) (hr.mono (by decide)) T.b_Lengths_times .nil pass0 (pa_cons (pv 4) (pa_cons (pv 5) pa_nil))) (pa_cons (pe_call (ok_law_times T) (hr.mono (by decide)) (by rfl) T.g_law_times T.F_law_times.kp T.b_law_times .nil pass0 (pa_cons (pv 4) (pa_cons (pv 5) pa_nil))) pa_nil))))) (pw_or1 (pt_not (pt_val (pe_call (ok_law_is T) (hr.mono (by decide)) (by rfl) T.g_law_is T.F_law_is.kp T.b_law_is .nil pass0 (pa_cons (pe_meth (pv 2) T.cl_Lengths T.m_Lengths_beneath (ok_Lengths_beneath T) (hr.mono (by decide)) T.b_Lengths_beneath .nil pass0 (pa_cons (pv 4) (pa_cons (pv 5) pa_nil))) (pa_cons (pe_call (ok_law_shorter T) (hr.mono (by decide)) (by rfl) T.g_law_shorter T.F_law_shorter.kp T.b_law_shorter .nil pass0 (pa_cons (pv 4) (pa_cons (pv 5) pa_nil))) pa_nil))))))))
 (pss_one (ps_ret pe_bl))
 pss_nil)
 (C8.pss_cut (ps_if (PW.pt (pw_or (pt_not (pt_val (pe_call (ok_law_leaving_right T) (hr.mono (by decide)) (by rfl) T.g_law_leaving_right T.F_law_leaving_right.kp T.b_law_leaving_right .nil pass0 (pa_cons (pe_meth (pv 2) T.cl_Lengths T.m_Lengths_left (ok_Lengths_left T) (hr.mono (by decide)) T.b_Lengths_left .nil pass0 (pa_cons (pv 4) (pa_cons (pv 6) pa_nil))) (pa_cons (pv 4) (pa_cons (pv 6) pa_nil)))))) (pw_or1 (pt_not (pt_val (pe_call (ok_law_leaving_right T) (hr.mono (by decide)) (by rfl) T.g_law_leaving_right T.F_law_leaving_right.kp T.b_law_leaving_right .nil pass0 (pa_cons (pe_meth (pv 2) T.cl_Lengths T.m_Lengths_right (ok_Lengths_right T) (hr.mono (by decide)) T.b_Lengths_right .nil pass0 (pa_cons (pv 6) (pa_cons (pv 4) pa_nil))) (pa_cons (pv 4) (pa_cons (pv 6) pa_nil)))))))))
 (pss_one (ps_ret pe_bl))
 pss_nil)
 (C8.pss_cut (ps_set (i := 7) sc_law.nd rfl (Or.inl rfl) (pe_meth (pv 2) T.cl_Lengths T.m_Lengths_beneath (ok_Lengths_beneath T) (hr.mono (by decide)) T.b_Lengths_beneath .nil pass0 (pa_cons (pe_meth (pv 2) T.cl_Lengths T.m_Lengths_times (ok_Lengths_times T) (hr.mono (by decide)) T.b_Lengths_times .nil pass0 (pa_cons (pv 4) (pa_cons (pv 5) pa_nil))) (pa_cons (pv 6) pa_nil))))
 (C8.pss_cut (ps_if (PW.pt (pw_or (pt_cmpR op_ne (pe_meth (pv 2) T.cl_Lengths T.m_Lengths_beneath (ok_Lengths_beneath T) (hr.mono (by decide)) T.b_Lengths_beneath .nil pass0 (pa_cons (pv 5) (pa_cons (pe_meth (pv 2) T.cl_Lengths T.m_Lengths_left (ok_Lengths_left T) (hr.mono (by decide)) T.b_Lengths_left .nil pass0 (pa_cons (pv 4) (pa_cons (pv 6) pa_nil))) pa_nil))) (pv 7) (nomark _)) (pw_or1 (pt_cmpR op_ne (pe_meth (pv 2) T.cl_Lengths T.m_Lengths_beneath (ok_Lengths_beneath T) (hr.mono (by decide)) T.b_Lengths_beneath .nil pass0 (pa_cons (pv 4) (pa_cons (pe_meth (pv 2) T.cl_Lengths T.m_Lengths_right (ok_Lengths_right T) (hr.mono (by decide)) T.b_Lengths_right .nil pass0 (pa_cons (pv 6) (pa_cons (pv 5) pa_nil))) pa_nil))) (pv 7) (nomark _)))))
 (pss_one (ps_ret pe_bl))
 pss_nil)
 (pss_cons (ps_set (i := 8) sc_law.nd rfl (Or.inl rfl) (pe_meth (pv 2) T.cl_Lengths T.m_Lengths_times (ok_Lengths_times T) (hr.mono (by decide)) T.b_Lengths_times .nil pass0 (pa_cons (pv 4) (pa_cons (pe_meth (pv 2) T.cl_Lengths T.m_Lengths_join (ok_Lengths_join T) (hr.mono (by decide)) T.b_Lengths_join .nil pass0 (pa_cons (pv 5) (pa_cons (pv 6) pa_nil))) pa_nil))))
 (pss_one (ps_if (pt_not (pt_val (pe_call (ok_law_is T) (hr.mono (by decide)) (by rfl) T.g_law_is T.F_law_is.kp T.b_law_is .nil pass0 (pa_cons (pv 8) (pa_cons (pe_meth (pv 2) T.cl_Lengths T.m_Lengths_join (ok_Lengths_join T) (hr.mono (by decide)) T.b_Lengths_join .nil pass0 (pa_cons (pe_meth (pv 2) T.cl_Lengths T.m_Lengths_times (ok_Lengths_times T) (hr.mono (by decide)) T.b_Lengths_times .nil pass0 (pa_cons (pv 4) (pa_cons (pv 5) pa_nil))) (pa_cons (pe_meth (pv 2) T.cl_Lengths T.m_Lengths_times (ok_Lengths_times T) (hr.mono (by decide)) T.b_Lengths_times .nil pass0 (pa_cons (pv 4) (pa_cons (pv 6) pa_nil))) pa_nil))) pa_nil)))))
 (pss_one (ps_ret pe_bl))
 pss_nil))))))))))))
 (C8.pss_cut (ps_if (PW.pt (pw_or (pt_not (pt_cmpR (OQ.op_ownEq (ok_Lengths__eq T) (hr.mono (by decide)) T.m_Lengths__eq.at_ T.m_Lengths__eq.fn T.b_Lengths__eq pass0) (pv 2) (pe_make0 T.M_Lengths (ok_Lengths__init T) (hr.mono (by decide)) (by rfl) T.g_Lengths T.b_Lengths__init .nil pass0) (nomark _))) (pw_or1 (pt_cmpR (OQ.op_ownNe (ok_Lengths__eq T) (hr.mono (by decide)) T.m_Lengths__eq.at_ T.m_Lengths__eq.fn T.ne_Lengths T.hm_Lengths T.b_Lengths__eq pass0) (pv 2) (pe_make0 T.M_Lengths (ok_Lengths__init T) (hr.mono (by decide)) (by rfl) T.g_Lengths T.b_Lengths__init .nil pass0) (nomark _)))))
 (pss_one (ps_ret pe_bl))
 pss_nil)
 (pss_cons (ps_for PassesOwn.never rfl (pi_list (pe_lst (pa_cons pe_non (pa_cons pe_int (pa_cons (pe_call0 (ok_yes_no T) (hr.mono (by decide)) (by rfl) T.g_yes_no T.F_yes_no.kp T.b_yes_no .nil pass0) (pa_cons (pe_make0 T.M_Numbers (ok_Numbers__init T) (hr.mono (by decide)) (by rfl) T.g_Numbers T.b_Numbers__init .nil pass0) (pa_cons pe_str (pa_cons (pe_lst pa_nil) (pa_cons pe_int pa_nil))))))))) (pg_name (i := 9) sc_law.nd rfl (Or.inl rfl))
 (pss_one (ps_if (PW.pt (pw_or (pt_cmpR (OQ.op_ownEq (ok_Lengths__eq T) (hr.mono (by decide)) T.m_Lengths__eq.at_ T.m_Lengths__eq.fn T.b_Lengths__eq pass0) (pv 2) (pv 9) (nomark _)) (pw_or1 (pt_cmpR (OQ.op_or (OQ.op_backEq (ok_Lengths__eq T) (hr.mono (by decide)) T.m_Lengths__eq.at_ T.m_Lengths__eq.fn T.b_Lengths__eq pass0) (OQ.op_or (OQ.op_ownEq (ok_Reckoning__eq T) (hr.mono (by decide)) T.m_Reckoning__eq.at_ T.m_Reckoning__eq.fn T.b_Reckoning__eq pass0) (OQ.op_ownEq (ok_Numbers__eq T) (hr.mono (by decide)) T.m_Numbers__eq.at_ T.m_Numbers__eq.fn T.b_Numbers__eq pass0))) (pv 9) (pv 2) (nomark _)))))
 (pss_one (ps_ret pe_bl))
 pss_nil)))
 (pss_one (ps_ret pe_bl)))))))), ?_⟩
    refine RD.d_cut (fun σ' H' => ∃ (h c : Addr), σ' = [some (.ref ad), some (.ref h), none, none, none, none, none, none, none, none] ∧ HandAt H' h c) ?_ ?_
    · walk_at "rd"
      refine ⟨ad, ns, rfl, hS, hl, fun h c H1 hd1 _ _ => ?_⟩
      walk_at "rd"
      exact ⟨h, c, rfl, hd1⟩
    rintro σ' H1 ⟨h, cc, rfl, hd1⟩
    refine RD.d_cut (fun σ' H' => ∃ (x : Addr), σ' = [some (.ref ad), some (.ref h), some (.ref x), none, none, none, none, none, none, none] ∧ HandAt H' h cc ∧ LenAt T.C_Lengths H' x) ?_ ?_
    · walk_at "rd"
      intro x dx nx ndx ne
      have s1 := same_made (C := T.C_Lengths) nx ndx ne
      refine ⟨x, dx, rfl, upd_same, fun H2 kx hN => ⟨rfl, ?_⟩⟩
      have sH : Same H1 H2 := fun b' u e => kx _ _ (ne_of_none e nx) (s1 _ _ e)
      exact ⟨x, rfl, hd1.same sH, hN⟩
    clear hd1
    rintro σ' H1 ⟨x, rfl, hd1, hN1⟩
    refine RD.d_cut (fun σ' H' => σ' = [some (.ref ad), some (.ref h), some (.ref x), none, none, none, none, none, none, none] ∧ H' = H1) ?_ ?_
    · obtain ⟨dx, ex⟩ := id hN1
      walk_at "rd"
      refine ⟨x, _, dx, _, _, rfl, ex, T.cl_Lengths, T.na_Lengths_none, lk_eq, ?_⟩
      walk_at "rd"
      refine ⟨_, rfl, .inl ⟨none, rfl⟩, ?_⟩
      walk_at "rd"
      refine ⟨x, _, dx, _, _, rfl, ex, T.cl_Lengths, T.na_Lengths_one, (lk_ne (by decide +kernel)).trans lk_eq, ?_⟩
      walk_at "rd"
      refine ⟨_, rfl, .inl ⟨some 0, rfl⟩, ?_⟩
      walk_at "rd"
      refine ⟨x, dx, _, rfl, ex, (lk_ne (by decide +kernel)).trans (lk_ne (by decide +kernel)), ?_⟩
      walk_at "rd"
      refine ⟨_, rfl, ?_⟩
      walk_at "rd"
      refine ⟨_, rfl, .inl ⟨some 0, rfl⟩, ?_⟩
      walk_at "rd"
      exact ⟨rfl, rfl⟩
    rintro σ' H2 ⟨rfl, rfl⟩
    refine RD.d_cut (fun σ' H' => ∃ v3 v4 v5 v6 v7 v8 v9 : Option V, σ' = [some (.ref ad), some (.ref h), some (.ref x), v3, v4, v5, v6, v7, v8, v9] ∧ HandAt H' h cc ∧ LenAt T.C_Lengths H' x) ?_ ?_
    · walk_at "rd"
      refine ⟨6, rfl, by decide, by decide, ?_⟩
      refine RD.f_range (lo := 0) (n := 6) (fun t σ' H' => ∃ v3 v4 v5 v6 v7 v8 v9 : Option V, σ' = [some (.ref ad), some (.ref h), some (.ref x), v3, v4, v5, v6, v7, v8, v9] ∧ HandAt H' h cc ∧ LenAt T.C_Lengths H' x) ⟨none, none, none, none, none, none, none, rfl, hd1, hN1⟩ ?_ ?_
      · clear hd1 hN1
        rintro t σ' H1 ht ⟨v3, v4, v5, v6, v7, v8, v9, rfl, hd, hL⟩
        walk_at "rd"
        refine RD.d_cut (fun σ' H' => ∃ a : Option Nat, σ' = [some (.ref ad), some (.ref h), some (.ref x), some (.int (0 + t)), some (wt a), v5, v6, v7, v8, v9] ∧ HandAt H' h cc ∧ LenAt T.C_Lengths H' x) ?_ ?_
        · walk_at "rd"
          refine ⟨h, cc, rfl, hd, fun a H' hd' kk => ?_⟩
          walk_at "rd"
          exact ⟨a, rfl, hd', hL.kp hd kk⟩
        clear hd hL
        rintro σ' H1 ⟨a, rfl, hd, hL⟩
        refine RD.d_cut (fun σ' H' => ∃ b : Option Nat, σ' = [some (.ref ad), some (.ref h), some (.ref x), some (.int (0 + t)), some (wt a), some (wt b), v6, v7, v8, v9] ∧ HandAt H' h cc ∧ LenAt T.C_Lengths H' x) ?_ ?_
        · walk_at "rd"
          refine ⟨h, cc, rfl, hd, fun b H' hd' kk => ?_⟩
          walk_at "rd"
          exact ⟨b, rfl, hd', hL.kp hd kk⟩
        clear hd hL
        rintro σ' H1 ⟨b, rfl, hd, hL⟩
        refine RD.d_cut (fun σ' H' => ∃ c : Option Nat, σ' = [some (.ref ad), some (.ref h), some (.ref x), some (.int (0 + t)), some (wt a), some (wt b), some (wt c), v7, v8, v9] ∧ HandAt H' h cc ∧ LenAt T.C_Lengths H' x) ?_ ?_
        · walk_at "rd"
          refine ⟨h, cc, rfl, hd, fun c H' hd' kk => ?_⟩
          walk_at "rd"
          exact ⟨c, rfl, hd', hL.kp hd kk⟩
        clear hd hL
        rintro σ' H1 ⟨c, rfl, hd, hL⟩
        refine RD.d_cut (fun σ' H' => σ' = [some (.ref ad), some (.ref h), some (.ref x), some (.int (0 + t)), some (wt a), some (wt b), some (wt c), v7, v8, v9] ∧ HandAt H' h cc ∧ LenAt T.C_Lengths H' x) ?_ ?_
        · walk_at "rd"
          (obtain ⟨dz, ez⟩ := id hL; refine ⟨x, dz, _, rfl, ez, (lk_ne (by decide +kernel)).trans (lk_ne (by decide +kernel)), ?_⟩; clear ez dz)
          walk_at "rd"
          (refine ⟨x, a, b, rfl, hL, fun H' s' => ?_⟩; replace hL := LenAt.same hL s'; replace hd := HandAt.same hd s'; clear s')
          walk_at "rd"
          refine ⟨a, b, rfl, ?_⟩
          walk_at "rd"
          refine ⟨_, rfl, .inl ⟨ljoin a b, rfl⟩, ?_⟩
          walk_at "rd"
          (obtain ⟨dz, ez⟩ := id hL; refine ⟨x, dz, _, rfl, ez, (lk_ne (by decide +kernel)).trans (lk_ne (by decide +kernel)), ?_⟩; clear ez dz)
          walk_at "rd"
          (refine ⟨x, a, b, rfl, hL, fun H' s' => ?_⟩; replace hL := LenAt.same hL s'; replace hd := HandAt.same hd s'; clear s')
          walk_at "rd"
          refine ⟨a, b, rfl, ?_⟩
          walk_at "rd"
          refine ⟨_, rfl, .inl ⟨lmeet a b, rfl⟩, ?_⟩
          walk_at "rd"
          exact ⟨rfl, hd, hL⟩
        clear hd hL
        rintro σ' H1 ⟨rfl, hd, hL⟩
        refine RD.d_cut (fun σ' H' => σ' = [some (.ref ad), some (.ref h), some (.ref x), some (.int (0 + t)), some (wt a), some (wt b), some (wt c), v7, v8, v9] ∧ HandAt H' h cc ∧ LenAt T.C_Lengths H' x) ?_ ?_
        · walk_at "rd"
          (obtain ⟨dz, ez⟩ := id hL; refine ⟨x, dz, _, rfl, ez, (lk_ne (by decide +kernel)).trans (lk_ne (by decide +kernel)), ?_⟩; clear ez dz)
          walk_at "rd"
          (refine ⟨x, a, b, rfl, hL, fun H' s' => ?_⟩; replace hL := LenAt.same hL s'; replace hd := HandAt.same hd s'; clear s')
          walk_at "rd"
          refine ⟨a, b, rfl, ?_⟩
          walk_at "rd"
          refine ⟨_, rfl, .inl ⟨ltim a b, rfl⟩, ?_⟩
          walk_at "rd"
          (obtain ⟨dz, ez⟩ := id hL; refine ⟨x, dz, _, rfl, ez, (lk_ne (by decide +kernel)).trans (lk_ne (by decide +kernel)), ?_⟩; clear ez dz)
          walk_at "rd"
          (refine ⟨x, a, b, rfl, hL, fun H' s' => ?_⟩; replace hL := LenAt.same hL s'; replace hd := HandAt.same hd s'; clear s')
          walk_at "rd"
          refine ⟨a, b, rfl, ?_⟩
          walk_at "rd"
          refine ⟨_, rfl, .inr ⟨!lg b a, rfl⟩, ?_⟩
          walk_at "rd"
          exact ⟨rfl, hd, hL⟩
        clear hd hL
        rintro σ' H1 ⟨rfl, hd, hL⟩
        refine RD.d_cut (fun σ' H' => σ' = [some (.ref ad), some (.ref h), some (.ref x), some (.int (0 + t)), some (wt a), some (wt b), some (wt c), v7, v8, v9] ∧ HandAt H' h cc ∧ LenAt T.C_Lengths H' x) ?_ ?_
        · walk_at "rd"
          (obtain ⟨dz, ez⟩ := id hL; refine ⟨x, dz, _, rfl, ez, (lk_ne (by decide +kernel)).trans (lk_ne (by decide +kernel)), ?_⟩; clear ez dz)
          walk_at "rd"
          (refine ⟨x, a, c, rfl, hL, fun H' s' => ?_⟩; replace hL := LenAt.same hL s'; replace hd := HandAt.same hd s'; clear s')
          walk_at "rd"
          refine ⟨a, c, rfl, ?_⟩
          walk_at "rd"
          (obtain ⟨dz, ez⟩ := id hL; refine ⟨x, dz, _, rfl, ez, (lk_ne (by decide +kernel)).trans (lk_ne (by decide +kernel)), ?_⟩; clear ez dz)
          walk_at "rd"
          (refine ⟨x, c, a, rfl, hL, fun H' s' => ?_⟩; replace hL := LenAt.same hL s'; replace hd := HandAt.same hd s'; clear s')
          walk_at "rd"
          refine ⟨a, c, rfl, ?_⟩
          walk_at "rd"
          exact ⟨rfl, hd, hL⟩
        clear hd hL
        rintro σ' H1 ⟨rfl, hd, hL⟩
        refine RD.d_cut (fun σ' H' => σ' = [some (.ref ad), some (.ref h), some (.ref x), some (.int (0 + t)), some (wt a), some (wt b), some (wt c), some (.bl (!lg c (ltim a b))), v8, v9] ∧ HandAt H' h cc ∧ LenAt T.C_Lengths H' x) ?_ ?_
        · walk_at "rd"
          (obtain ⟨dz, ez⟩ := id hL; refine ⟨x, dz, _, rfl, ez, (lk_ne (by decide +kernel)).trans (lk_ne (by decide +kernel)), ?_⟩; clear ez dz)
          walk_at "rd"
          (obtain ⟨dz, ez⟩ := id hL; refine ⟨x, dz, _, rfl, ez, (lk_ne (by decide +kernel)).trans (lk_ne (by decide +kernel)), ?_⟩; clear ez dz)
          walk_at "rd"
          (refine ⟨x, a, b, rfl, hL, fun H' s' => ?_⟩; replace hL := LenAt.same hL s'; replace hd := HandAt.same hd s'; clear s')
          walk_at "rd"
          (refine ⟨x, (ltim a b), c, rfl, hL, fun H' s' => ?_⟩; replace hL := LenAt.same hL s'; replace hd := HandAt.same hd s'; clear s')
          walk_at "rd"
          exact ⟨rfl, hd, hL⟩
        clear hd hL
        rintro σ' H1 ⟨rfl, hd, hL⟩
        refine RD.d_cut (fun σ' H' => σ' = [some (.ref ad), some (.ref h), some (.ref x), some (.int (0 + t)), some (wt a), some (wt b), some (wt c), some (.bl (!lg c (ltim a b))), v8, v9] ∧ HandAt H' h cc ∧ LenAt T.C_Lengths H' x) ?_ ?_
        · walk_at "rd"
          (obtain ⟨dz, ez⟩ := id hL; refine ⟨x, dz, _, rfl, ez, (lk_ne (by decide +kernel)).trans (lk_ne (by decide +kernel)), ?_⟩; clear ez dz)
          walk_at "rd"
          (obtain ⟨dz, ez⟩ := id hL; refine ⟨x, dz, _, rfl, ez, (lk_ne (by decide +kernel)).trans (lk_ne (by decide +kernel)), ?_⟩; clear ez dz)
          walk_at "rd"
          (refine ⟨x, a, c, rfl, hL, fun H' s' => ?_⟩; replace hL := LenAt.same hL s'; replace hd := HandAt.same hd s'; clear s')
          walk_at "rd"
          (refine ⟨x, b, (lmis a c), rfl, hL, fun H' s' => ?_⟩; replace hL := LenAt.same hL s'; replace hd := HandAt.same hd s'; clear s')
          walk_at "rd"
          refine neB (congrArg (!·) (left_lg a b c)) ?_
          walk_at "rd"
          (obtain ⟨dz, ez⟩ := id hL; refine ⟨x, dz, _, rfl, ez, (lk_ne (by decide +kernel)).trans (lk_ne (by decide +kernel)), ?_⟩; clear ez dz)
          walk_at "rd"
          (obtain ⟨dz, ez⟩ := id hL; refine ⟨x, dz, _, rfl, ez, (lk_ne (by decide +kernel)).trans (lk_ne (by decide +kernel)), ?_⟩; clear ez dz)
          walk_at "rd"
          (refine ⟨x, c, b, rfl, hL, fun H' s' => ?_⟩; replace hL := LenAt.same hL s'; replace hd := HandAt.same hd s'; clear s')
          walk_at "rd"
          (refine ⟨x, a, (lmis b c), rfl, hL, fun H' s' => ?_⟩; replace hL := LenAt.same hL s'; replace hd := HandAt.same hd s'; clear s')
          walk_at "rd"
          refine neB (congrArg (!·) ((left_lg b a c).trans (congrArg (lg c) (ltim_comm b a)))) ?_
          walk_at "rd"
          exact ⟨rfl, hd, hL⟩
        clear hd hL
        rintro σ' H1 ⟨rfl, hd, hL⟩
        walk_at "rd"
        (obtain ⟨dz, ez⟩ := id hL; refine ⟨x, dz, _, rfl, ez, (lk_ne (by decide +kernel)).trans (lk_ne (by decide +kernel)), ?_⟩; clear ez dz)
        walk_at "rd"
        (obtain ⟨dz, ez⟩ := id hL; refine ⟨x, dz, _, rfl, ez, (lk_ne (by decide +kernel)).trans (lk_ne (by decide +kernel)), ?_⟩; clear ez dz)
        walk_at "rd"
        (refine ⟨x, b, c, rfl, hL, fun H' s' => ?_⟩; replace hL := LenAt.same hL s'; replace hd := HandAt.same hd s'; clear s')
        walk_at "rd"
        (refine ⟨x, a, (ljoin b c), rfl, hL, fun H' s' => ?_⟩; replace hL := LenAt.same hL s'; replace hd := HandAt.same hd s'; clear s')
        walk_at "rd"
        (obtain ⟨dz, ez⟩ := id hL; refine ⟨x, dz, _, rfl, ez, (lk_ne (by decide +kernel)).trans (lk_ne (by decide +kernel)), ?_⟩; clear ez dz)
        walk_at "rd"
        (obtain ⟨dz, ez⟩ := id hL; refine ⟨x, dz, _, rfl, ez, (lk_ne (by decide +kernel)).trans (lk_ne (by decide +kernel)), ?_⟩; clear ez dz)
        walk_at "rd"
        (refine ⟨x, a, b, rfl, hL, fun H' s' => ?_⟩; replace hL := LenAt.same hL s'; replace hd := HandAt.same hd s'; clear s')
        walk_at "rd"
        (obtain ⟨dz, ez⟩ := id hL; refine ⟨x, dz, _, rfl, ez, (lk_ne (by decide +kernel)).trans (lk_ne (by decide +kernel)), ?_⟩; clear ez dz)
        walk_at "rd"
        (refine ⟨x, a, c, rfl, hL, fun H' s' => ?_⟩; replace hL := LenAt.same hL s'; replace hd := HandAt.same hd s'; clear s')
        walk_at "rd"
        (refine ⟨x, (ltim a b), (ltim a c), rfl, hL, fun H' s' => ?_⟩; replace hL := LenAt.same hL s'; replace hd := HandAt.same hd s'; clear s')
        walk_at "rd"
        refine ⟨wt (ltim a (ljoin b c)), (by show [wt (ltim a (ljoin b c)), wt (ljoin (ltim a b) (ltim a c))] = _; rw [tim_join a b c]), .inl ⟨_, rfl⟩, ?_⟩
        walk_at "rd"
        exact ⟨_, _, _, _, _, _, _, rfl, hd, hL⟩
      · rintro σ' H3 ⟨v3, v4, v5, v6, v7, v8, v9, rfl, hd3, hN3⟩
        exact ⟨v3, v4, v5, v6, v7, v8, v9, rfl, hd3, hN3⟩
    clear hd1 hN1
    rintro σ' H8 ⟨v3, v4, v5, v6, v7, v8, v9, rfl, _, hN⟩
    refine RD.d_cut (fun σ' H' => σ' = [some (.ref ad), some (.ref h), some (.ref x), v3, v4, v5, v6, v7, v8, v9] ∧ LenAt T.C_Lengths H' x) ?_ ?_
    · walk_at "rd"
      intro x2 dx2 nx2 ndx2 ne2
      have s2 := same_made (C := T.C_Lengths) nx2 ndx2 ne2
      refine ⟨x2, dx2, rfl, upd_same, fun H9 kx h2 => ⟨rfl, ?_⟩⟩
      have s9 : Same H8 H9 := fun b' u e => kx _ _ (ne_of_none e nx2) (s2 _ _ e)
      replace hN := hN.same s9
      obtain ⟨d1, e1⟩ := id hN
      refine ⟨x, d1, _, _, rfl, e1, tyLe T h2, nf_self, _, _, _, true, rfl, tyLe T h2, kit_selfR, ?_⟩
      walk_at "rd"
      intro x3 dx3 nx3 ndx3 ne3
      have s3 := same_made (C := T.C_Lengths) nx3 ndx3 ne3
      refine ⟨x3, dx3, rfl, upd_same, fun H10 kx3 h3 => ⟨rfl, ?_⟩⟩
      have s10 : Same H9 H10 := fun b' u e => kx3 _ _ (ne_of_none e nx3) (s3 _ _ e)
      replace e1 := s10 _ _ e1
      refine ⟨x, d1, _, _, rfl, e1, tyLe T h3, nf_self, _, _, _, true, rfl, tyLe T h3, kit_selfR, true, rfl, ?_⟩
      walk_at "rd"
      exact ⟨rfl, hN.same s10⟩
    clear hN
    rintro σ' H8 ⟨rfl, hN⟩
    walk_at "rd"
    refine ⟨rfl, fun y Hy sy fy => ?_⟩
    replace hN := hN.same sy
    walk_at "rd"
    intro x2 dx2 nx2 ndx2 ne2
    have s2 := same_made (C := T.C_Numbers) nx2 ndx2 ne2
    refine ⟨x2, dx2, rfl, upd_same, fun H4 kx hL => ⟨rfl, ?_⟩⟩
    have s4 : Same Hy H4 := fun b' u e => kx _ _ (ne_of_none e nx2) (s2 _ _ e)
    replace hN := hN.same s4
    replace fy := fy.same s4
    walk_at "rd"
    refine ⟨by show 0 ≤ sizeLine; decide, fun pz h_pz => ?_⟩
    have s_pz := same_upd (o := HO.lst []) h_pz
    have e_pz : upd H4 pz (HO.lst []) pz = some (HO.lst []) := upd_same
    replace hN := hN.same s_pz
    replace fy := fy.same s_pz
    replace hL := hL.same s_pz
    generalize upd H4 pz (HO.lst []) = H6 at *
    walk_at "rd"
    refine ⟨by show 7 ≤ sizeLine; decide, fun pl h_pl => ?_⟩
    generalize hits : [V.non, V.int 0, V.ref y, V.ref x2, V.str "", V.ref pz, V.int 5] = its
    have s_pl := same_upd (o := HO.lst its) h_pl
    have e_pl : upd H6 pl (HO.lst its) pl = some (HO.lst its) := upd_same
    replace hN := hN.same s_pl
    replace fy := fy.same s_pl
    replace hL := hL.same s_pl
    replace e_pz := s_pl _ _ e_pz
    generalize upd H6 pl (HO.lst its) = H7 at *
    have things : ∀ v ∈ its, Thing T H7 v := by
      intro v hv
      rw [← hits] at hv
      simp only [List.mem_cons, List.not_mem_nil, or_false] at hv
      rcases hv with rfl | rfl | rfl | rfl | rfl | rfl | rfl
      · exact .plain "NoneType" (by simp) (.inl ⟨rfl, rfl⟩) (.base .non)
      · exact .plain "int" (by simp) (.inr (.inl ⟨_, rfl, rfl⟩)) (.base (.int _))
      · exact .rek fy
      · exact .num hL
      · exact .plain "str" (by simp) (.inr (.inr (.inl ⟨_, rfl, rfl⟩))) (.base (.str _))
      · exact .plain "list" (by simp) (.inr (.inr (.inr ⟨_, _, rfl, SqL.of e_pz, rfl⟩))) (.base (.lst e_pz))
      · exact .plain "int" (by simp) (.inr (.inl ⟨_, rfl, rfl⟩)) (.base (.int _))
    refine ⟨pl, rfl, ⟨_, SqL.of e_pl⟩, ?_⟩
    refine RD.f_list (K := K) (a := pl) (xs := its) (fun i σ' H' => H' = H7 ∧ ∃ v9 : Option V, σ' = [some (.ref ad), some (.ref h), some (.ref x), v3, v4, v5, v6, v7, v8, v9]) ⟨rfl, v9, rfl⟩ ?_ ?_ ?_
    · rintro i σ' H' _ ⟨rfl, _⟩
      exact SqL.of e_pl
    · rintro i w σ' H' hi ⟨rfl, v9, rfl⟩
      have tw := things w (List.mem_of_getElem? hi)
      walk_at "rd"
      refine tw.fore hN ?_
      walk_at "rd"
      refine tw.back hN ?_
      walk_at "rd"
      exact ⟨rfl, _, rfl⟩
    · rintro σ' H' ⟨rfl, v9, rfl⟩
      walk_at "rd"
      exact k _
end

theorem facts {P : Program} {w : World} {K : PySem.W.Frag} {h : Heap} {mg : Str → Option Value} {f : Addr} (X : K.In h) (G : h.Ns mainGlobals mg) (hfa : mg ("law" : Str) = some (.ref f)) (c : He.SaysD faH fnH K) (x : exH K = true) :
    ∃ fd : FuncData, (∀ (s : Shared) (v : Value), BindsTo s fd ⟨[v], []⟩ [("script", v)]) ∧ ∀ base : Heap, K.In base → base.Ns mainGlobals mg → FnOk P w K mg base CX0 18 f fd ["script"] (spLaw K) := by
  obtain ⟨fdWayError__init, DWayError__init⟩ := c.def_ 0 (d := dH_WayError__init) rfl
  have FWayError__init : Fun K _ _ s_WayError__init _ fdWayError__init := OQ.fun_of DWayError__init
  have bWayError__init := FWayError__init.binds (ps := ["self", "value"]) fun _ _ _ _ _ _ us hl => match us, hl with | [_, _], _ => rfl
  obtain ⟨fdis_integer, Dis_integer⟩ := c.def_ 1 (d := dH_is_integer) rfl
  have Fis_integer : Fun K _ _ s_is_integer _ fdis_integer := OQ.fun_of Dis_integer
  have bis_integer := Fis_integer.binds (ps := ["thing"]) fun _ _ _ _ _ _ us hl => match us, hl with | [_], _ => rfl
  obtain ⟨fdis_row, Dis_row⟩ := c.def_ 2 (d := dH_is_row) rfl
  have Fis_row : Fun K _ _ s_is_row _ fdis_row := OQ.fun_of Dis_row
  have bis_row := Fis_row.binds (ps := ["thing"]) fun _ _ _ _ _ _ us hl => match us, hl with | [_], _ => rfl
  obtain ⟨fdcheck_worths, Dcheck_worths⟩ := c.def_ 3 (d := dH_check_worths) rfl
  have Fcheck_worths : Fun K _ _ s_check_worths _ fdcheck_worths := OQ.fun_of Dcheck_worths
  have bcheck_worths := Fcheck_worths.binds (ps := ["reckoning", "first", "second"]) fun _ _ _ _ _ _ us hl => match us, hl with | [_, _, _], _ => rfl
  obtain ⟨fdLengths__init, DLengths__init⟩ := c.def_ 4 (d := dH_Lengths__init) rfl
  have FLengths__init : Fun K _ _ s_Lengths__init _ fdLengths__init := OQ.fun_of DLengths__init
  have bLengths__init := FLengths__init.binds (ps := ["self"]) fun _ _ _ _ _ _ us hl => match us, hl with | [_], _ => rfl
  obtain ⟨fdLengths__eq, DLengths__eq⟩ := c.def_ 5 (d := dH_Lengths__eq) rfl
  have FLengths__eq : Fun K _ _ s_Lengths__eq _ fdLengths__eq := OQ.fun_of DLengths__eq
  have bLengths__eq := FLengths__eq.binds (ps := ["self", "other"]) fun _ _ _ _ _ _ us hl => match us, hl with | [_, _], _ => rfl
  obtain ⟨fdLengths_is_worth, DLengths_is_worth⟩ := c.def_ 6 (d := dH_Lengths_is_worth) rfl
  have FLengths_is_worth : Fun K _ _ s_Lengths_is_worth _ fdLengths_is_worth := OQ.fun_of DLengths_is_worth
  have bLengths_is_worth := FLengths_is_worth.binds (ps := ["self", "thing"]) fun _ _ _ _ _ _ us hl => match us, hl with | [_, _], _ => rfl
  obtain ⟨fdLengths_beneath, DLengths_beneath⟩ := c.def_ 7 (d := dH_Lengths_beneath) rfl
  have FLengths_beneath : Fun K _ _ s_Lengths_beneath _ fdLengths_beneath := OQ.fun_of DLengths_beneath
  have bLengths_beneath := FLengths_beneath.binds (ps := ["self", "a", "b"]) fun _ _ _ _ _ _ us hl => match us, hl with | [_, _, _], _ => rfl
  obtain ⟨fdLengths_join, DLengths_join⟩ := c.def_ 8 (d := dH_Lengths_join) rfl
  have FLengths_join : Fun K _ _ s_Lengths_join _ fdLengths_join := OQ.fun_of DLengths_join
  have bLengths_join := FLengths_join.binds (ps := ["self", "a", "b"]) fun _ _ _ _ _ _ us hl => match us, hl with | [_, _, _], _ => rfl
  obtain ⟨fdLengths_times, DLengths_times⟩ := c.def_ 9 (d := dH_Lengths_times) rfl
  have FLengths_times : Fun K _ _ s_Lengths_times _ fdLengths_times := OQ.fun_of DLengths_times
  have bLengths_times := FLengths_times.binds (ps := ["self", "a", "b"]) fun _ _ _ _ _ _ us hl => match us, hl with | [_, _, _], _ => rfl
  obtain ⟨fdLengths_meet, DLengths_meet⟩ := c.def_ 10 (d := dH_Lengths_meet) rfl
  have FLengths_meet : Fun K _ _ s_Lengths_meet _ fdLengths_meet := OQ.fun_of DLengths_meet
  have bLengths_meet := FLengths_meet.binds (ps := ["self", "a", "b"]) fun _ _ _ _ _ _ us hl => match us, hl with | [_, _, _], _ => rfl
  obtain ⟨fdLengths_greatest, DLengths_greatest⟩ := c.def_ 11 (d := dH_Lengths_greatest) rfl
  have FLengths_greatest : Fun K _ _ s_Lengths_greatest _ fdLengths_greatest := OQ.fun_of DLengths_greatest
  have bLengths_greatest := FLengths_greatest.binds (ps := ["self"]) fun _ _ _ _ _ _ us hl => match us, hl with | [_], _ => rfl
  obtain ⟨fdLengths_left, DLengths_left⟩ := c.def_ 12 (d := dH_Lengths_left) rfl
  have FLengths_left : Fun K _ _ s_Lengths_left _ fdLengths_left := OQ.fun_of DLengths_left
  have bLengths_left := FLengths_left.binds (ps := ["self", "a", "c"]) fun _ _ _ _ _ _ us hl => match us, hl with | [_, _, _], _ => rfl
  obtain ⟨fdLengths_right, DLengths_right⟩ := c.def_ 13 (d := dH_Lengths_right) rfl
  have FLengths_right : Fun K _ _ s_Lengths_right _ fdLengths_right := OQ.fun_of DLengths_right
  have bLengths_right := FLengths_right.binds (ps := ["self", "c", "a"]) fun _ _ _ _ _ _ us hl => match us, hl with | [_, _, _], _ => rfl
  obtain ⟨fdlonger, Dlonger⟩ := c.def_ 14 (d := dH_longer) rfl
  have Flonger : Fun K _ _ s_longer _ fdlonger := OQ.fun_of Dlonger
  have blonger := Flonger.binds (ps := ["one", "other"]) fun _ _ _ _ _ _ us hl => match us, hl with | [_, _], _ => rfl
  obtain ⟨fdmissing, Dmissing⟩ := c.def_ 15 (d := dH_missing) rfl
  have Fmissing : Fun K _ _ s_missing _ fdmissing := OQ.fun_of Dmissing
  have bmissing := Fmissing.binds (ps := ["length", "wanted"]) fun _ _ _ _ _ _ us hl => match us, hl with | [_, _], _ => rfl
  obtain ⟨fdfirst_fault, Dfirst_fault⟩ := c.def_ 16 (d := dH_first_fault) rfl
  have Ffirst_fault : Fun K _ _ s_first_fault _ fdfirst_fault := OQ.fun_of Dfirst_fault
  have bfirst_fault := Ffirst_fault.binds (ps := ["joins", "products", "none", "one"]) fun _ _ _ _ _ _ us hl => match us, hl with | [_, _, _, _], _ => rfl
  obtain ⟨fdsize_fault, Dsize_fault⟩ := c.def_ 17 (d := dH_size_fault) rfl
  have Fsize_fault : Fun K _ _ s_size_fault _ fdsize_fault := OQ.fun_of Dsize_fault
  have bsize_fault := Fsize_fault.binds (ps := ["joins", "products", "none", "one"]) fun _ _ _ _ _ _ us hl => match us, hl with | [_, _, _, _], _ => rfl
  obtain ⟨fdis_square, Dis_square⟩ := c.def_ 18 (d := dH_is_square) rfl
  have Fis_square : Fun K _ _ s_is_square _ fdis_square := OQ.fun_of Dis_square
  have bis_square := Fis_square.binds (ps := ["many", "thing"]) fun _ _ _ _ _ _ us hl => match us, hl with | [_, _], _ => rfl
  obtain ⟨fdis_side, Dis_side⟩ := c.def_ 19 (d := dH_is_side) rfl
  have Fis_side : Fun K _ _ s_is_side _ fdis_side := OQ.fun_of Dis_side
  have bis_side := Fis_side.binds (ps := ["many", "thing"]) fun _ _ _ _ _ _ us hl => match us, hl with | [_, _], _ => rfl
  obtain ⟨fdis_below, Dis_below⟩ := c.def_ 20 (d := dH_is_below) rfl
  have Fis_below : Fun K _ _ s_is_below _ fdis_below := OQ.fun_of Dis_below
  have bis_below := Fis_below.binds (ps := ["many", "thing"]) fun _ _ _ _ _ _ us hl => match us, hl with | [_, _], _ => rfl
  obtain ⟨fdnone_fault, Dnone_fault⟩ := c.def_ 21 (d := dH_none_fault) rfl
  have Fnone_fault : Fun K _ _ s_none_fault _ fdnone_fault := OQ.fun_of Dnone_fault
  have bnone_fault := Fnone_fault.binds (ps := ["joins", "products", "none"]) fun _ _ _ _ _ _ us hl => match us, hl with | [_, _, _], _ => rfl
  obtain ⟨fdone_fault, Done_fault⟩ := c.def_ 22 (d := dH_one_fault) rfl
  have Fone_fault : Fun K _ _ s_one_fault _ fdone_fault := OQ.fun_of Done_fault
  have bone_fault := Fone_fault.binds (ps := ["products", "one"]) fun _ _ _ _ _ _ us hl => match us, hl with | [_, _], _ => rfl
  obtain ⟨fdidle_fault, Didle_fault⟩ := c.def_ 23 (d := dH_idle_fault) rfl
  have Fidle_fault : Fun K _ _ s_idle_fault _ fdidle_fault := OQ.fun_of Didle_fault
  have bidle_fault := Fidle_fault.binds (ps := ["joins"]) fun _ _ _ _ _ _ us hl => match us, hl with | [_], _ => rfl
  obtain ⟨fdswap_fault, Dswap_fault⟩ := c.def_ 24 (d := dH_swap_fault) rfl
  have Fswap_fault : Fun K _ _ s_swap_fault _ fdswap_fault := OQ.fun_of Dswap_fault
  have bswap_fault := Fswap_fault.binds (ps := ["joins"]) fun _ _ _ _ _ _ us hl => match us, hl with | [_], _ => rfl
  obtain ⟨fdgrouping_fault, Dgrouping_fault⟩ := c.def_ 25 (d := dH_grouping_fault) rfl
  have Fgrouping_fault : Fun K _ _ s_grouping_fault _ fdgrouping_fault := OQ.fun_of Dgrouping_fault
  have bgrouping_fault := Fgrouping_fault.binds (ps := ["word", "table"]) fun _ _ _ _ _ _ us hl => match us, hl with | [_, _], _ => rfl
  obtain ⟨fdover_fault, Dover_fault⟩ := c.def_ 26 (d := dH_over_fault) rfl
  have Fover_fault : Fun K _ _ s_over_fault _ fdover_fault := OQ.fun_of Dover_fault
  have bover_fault := Fover_fault.binds (ps := ["joins", "products"]) fun _ _ _ _ _ _ us hl => match us, hl with | [_, _], _ => rfl
  obtain ⟨fdsame_fault, Dsame_fault⟩ := c.def_ 27 (d := dH_same_fault) rfl
  have Fsame_fault : Fun K _ _ s_same_fault _ fdsame_fault := OQ.fun_of Dsame_fault
  have bsame_fault := Fsame_fault.binds (ps := ["none", "one"]) fun _ _ _ _ _ _ us hl => match us, hl with | [_, _], _ => rfl
  obtain ⟨fdReckoning__init, DReckoning__init⟩ := c.def_ 28 (d := dH_Reckoning__init) rfl
  have FReckoning__init : Fun K _ _ s_Reckoning__init _ fdReckoning__init := OQ.fun_of DReckoning__init
  have bReckoning__init := FReckoning__init.binds (ps := ["self", "joins", "products", "none", "one"]) fun _ _ _ _ _ _ us hl => match us, hl with | [_, _, _, _, _], _ => rfl
  obtain ⟨fdReckoning__eq, DReckoning__eq⟩ := c.def_ 29 (d := dH_Reckoning__eq) rfl
  have FReckoning__eq : Fun K _ _ s_Reckoning__eq _ fdReckoning__eq := OQ.fun_of DReckoning__eq
  have bReckoning__eq := FReckoning__eq.binds (ps := ["self", "other"]) fun _ _ _ _ _ _ us hl => match us, hl with | [_, _], _ => rfl
  obtain ⟨fdReckoning_joined, DReckoning_joined⟩ := c.def_ 30 (d := dH_Reckoning_joined) rfl
  have FReckoning_joined : Fun K _ _ s_Reckoning_joined _ fdReckoning_joined := OQ.fun_of DReckoning_joined
  have bReckoning_joined := FReckoning_joined.binds (ps := ["self", "worths"]) fun _ _ _ _ _ _ us hl => match us, hl with | [_, _], _ => rfl
  obtain ⟨fdReckoning_meet, DReckoning_meet⟩ := c.def_ 31 (d := dH_Reckoning_meet) rfl
  have FReckoning_meet : Fun K _ _ s_Reckoning_meet _ fdReckoning_meet := OQ.fun_of DReckoning_meet
  have bReckoning_meet := FReckoning_meet.binds (ps := ["self", "a", "b"]) fun _ _ _ _ _ _ us hl => match us, hl with | [_, _, _], _ => rfl
  obtain ⟨fdReckoning_left, DReckoning_left⟩ := c.def_ 32 (d := dH_Reckoning_left) rfl
  have FReckoning_left : Fun K _ _ s_Reckoning_left _ fdReckoning_left := OQ.fun_of DReckoning_left
  have bReckoning_left := FReckoning_left.binds (ps := ["self", "a", "c"]) fun _ _ _ _ _ _ us hl => match us, hl with | [_, _, _], _ => rfl
  obtain ⟨fdReckoning_right, DReckoning_right⟩ := c.def_ 33 (d := dH_Reckoning_right) rfl
  have FReckoning_right : Fun K _ _ s_Reckoning_right _ fdReckoning_right := OQ.fun_of DReckoning_right
  have bReckoning_right := FReckoning_right.binds (ps := ["self", "c", "a"]) fun _ _ _ _ _ _ us hl => match us, hl with | [_, _, _], _ => rfl
  obtain ⟨fdyes_no, Dyes_no⟩ := c.def_ 34 (d := dH_yes_no) rfl
  have Fyes_no : Fun K _ _ s_yes_no _ fdyes_no := OQ.fun_of Dyes_no
  have byes_no := Fyes_no.binds (ps := []) fun _ _ _ _ _ _ us hl => match us, hl with | [], _ => rfl
  obtain ⟨fdwidths, Dwidths⟩ := c.def_ 35 (d := dH_widths) rfl
  have Fwidths : Fun K _ _ s_widths _ fdwidths := OQ.fun_of Dwidths
  have bwidths := Fwidths.binds (ps := ["most"]) fun _ _ _ _ _ _ us hl => match us, hl with | [_], _ => rfl
  obtain ⟨fdgreater_ones, Dgreater_ones⟩ := c.def_ 36 (d := dH_greater_ones) rfl
  have Fgreater_ones : Fun K _ _ s_greater_ones _ fdgreater_ones := OQ.fun_of Dgreater_ones
  have bgreater_ones := Fgreater_ones.binds (ps := ["size"]) fun _ _ _ _ _ _ us hl => match us, hl with | [_], _ => rfl
  obtain ⟨fdRatio__init, DRatio__init⟩ := c.def_ 37 (d := dH_Ratio__init) rfl
  have FRatio__init : FunD K _ _ (defArgs s_Ratio__init) (defBody s_Ratio__init) (defScope s_Ratio__init) [V.int 1] [] _ fdRatio__init := DRatio__init
  have b1Ratio__init := FRatio__init.binds1 (ps := ["self", "top", "bottom"]) 2 0 (by simp) rfl (fun _ _ _ _ _ _ _ us its hl hi => match us, hl, its, hi with | [_, _], _, [_], _ => ⟨_, rfl, rfl⟩)
  have bRatio__init : Binds K fdRatio__init ["self", "top", "bottom"] [] := by
    obtain ⟨ds, hv, hb⟩ := FRatio__init.binds1 (ps := ["self", "top", "bottom"]) 3 1 (by simp) rfl (fun _ _ _ _ _ _ _ us its hl hi => match us, hl, its, hi with | [_, _, _], _, [_], _ => ⟨_, rfl, rfl⟩)
    cases hv; exact hb
  obtain ⟨fdNumbers__init, DNumbers__init⟩ := c.def_ 38 (d := dH_Numbers__init) rfl
  have FNumbers__init : Fun K _ _ s_Numbers__init _ fdNumbers__init := OQ.fun_of DNumbers__init
  have bNumbers__init := FNumbers__init.binds (ps := ["self"]) fun _ _ _ _ _ _ us hl => match us, hl with | [_], _ => rfl
  obtain ⟨fdNumbers__eq, DNumbers__eq⟩ := c.def_ 39 (d := dH_Numbers__eq) rfl
  have FNumbers__eq : Fun K _ _ s_Numbers__eq _ fdNumbers__eq := OQ.fun_of DNumbers__eq
  have bNumbers__eq := FNumbers__eq.binds (ps := ["self", "other"]) fun _ _ _ _ _ _ us hl => match us, hl with | [_, _], _ => rfl
  obtain ⟨fdlaw_hand, Dlaw_hand⟩ := c.def_ 40 (d := dH_law_hand) rfl
  have Flaw_hand : Fun K _ _ s_law_hand _ fdlaw_hand := OQ.fun_of Dlaw_hand
  have blaw_hand := Flaw_hand.binds (ps := ["script"]) fun _ _ _ _ _ _ us hl => match us, hl with | [_], _ => rfl
  obtain ⟨fdlaw_draw, Dlaw_draw⟩ := c.def_ 41 (d := dH_law_draw) rfl
  have Flaw_draw : Fun K _ _ s_law_draw _ fdlaw_draw := OQ.fun_of Dlaw_draw
  have blaw_draw := Flaw_draw.binds (ps := ["hand", "many"]) fun _ _ _ _ _ _ us hl => match us, hl with | [_, _], _ => rfl
  obtain ⟨fdlaw_length, Dlaw_length⟩ := c.def_ 42 (d := dH_law_length) rfl
  have Flaw_length : Fun K _ _ s_law_length _ fdlaw_length := OQ.fun_of Dlaw_length
  have blaw_length := Flaw_length.binds (ps := ["hand"]) fun _ _ _ _ _ _ us hl => match us, hl with | [_], _ => rfl
  obtain ⟨fdlaw_shorter, Dlaw_shorter⟩ := c.def_ 43 (d := dH_law_shorter) rfl
  have Flaw_shorter : Fun K _ _ s_law_shorter _ fdlaw_shorter := OQ.fun_of Dlaw_shorter
  have blaw_shorter := Flaw_shorter.binds (ps := ["a", "b"]) fun _ _ _ _ _ _ us hl => match us, hl with | [_, _], _ => rfl
  obtain ⟨fdlaw_join, Dlaw_join⟩ := c.def_ 44 (d := dH_law_join) rfl
  have Flaw_join : Fun K _ _ s_law_join _ fdlaw_join := OQ.fun_of Dlaw_join
  have blaw_join := Flaw_join.binds (ps := ["a", "b"]) fun _ _ _ _ _ _ us hl => match us, hl with | [_, _], _ => rfl
  obtain ⟨fdlaw_meet, Dlaw_meet⟩ := c.def_ 45 (d := dH_law_meet) rfl
  have Flaw_meet : Fun K _ _ s_law_meet _ fdlaw_meet := OQ.fun_of Dlaw_meet
  have blaw_meet := Flaw_meet.binds (ps := ["a", "b"]) fun _ _ _ _ _ _ us hl => match us, hl with | [_, _], _ => rfl
  obtain ⟨fdlaw_times, Dlaw_times⟩ := c.def_ 46 (d := dH_law_times) rfl
  have Flaw_times : Fun K _ _ s_law_times _ fdlaw_times := OQ.fun_of Dlaw_times
  have blaw_times := Flaw_times.binds (ps := ["a", "b"]) fun _ _ _ _ _ _ us hl => match us, hl with | [_, _], _ => rfl
  obtain ⟨fdlaw_is, Dlaw_is⟩ := c.def_ 47 (d := dH_law_is) rfl
  have Flaw_is : Fun K _ _ s_law_is _ fdlaw_is := OQ.fun_of Dlaw_is
  have blaw_is := Flaw_is.binds (ps := ["told", "due"]) fun _ _ _ _ _ _ us hl => match us, hl with | [_, _], _ => rfl
  obtain ⟨fdlaw_leaving_right, Dlaw_leaving_right⟩ := c.def_ 48 (d := dH_law_leaving_right) rfl
  have Flaw_leaving_right : Fun K _ _ s_law_leaving_right _ fdlaw_leaving_right := OQ.fun_of Dlaw_leaving_right
  have blaw_leaving_right := Flaw_leaving_right.binds (ps := ["told", "a", "c"]) fun _ _ _ _ _ _ us hl => match us, hl with | [_, _, _], _ => rfl
  obtain ⟨fdlaw, Dlaw⟩ := c.def_ 49 (d := dH_law) rfl
  have Flaw : Fun K _ _ s_law _ fdlaw := OQ.fun_of Dlaw
  have blaw := Flaw.binds (ps := ["script"]) fun _ _ _ _ _ _ us hl => match us, hl with | [_], _ => rfl
  have gWayError : mg "WayError" = some (.ref (He.ga K "WayError")) := He.glo_ok X G (c.fact 0 rfl)
  have gBadNumber : mg "BadNumber" = some (.ref (He.ga K "BadNumber")) := He.glo_ok X G (c.fact 1 rfl)
  have gRatio : mg "Ratio" = some (.ref (He.ga K "Ratio")) := He.glo_ok X G (c.fact 2 rfl)
  have gNumbers : mg "Numbers" = some (.ref (He.ga K "Numbers")) := He.glo_ok X G (c.fact 3 rfl)
  have gLengths : mg "Lengths" = some (.ref (He.ga K "Lengths")) := He.glo_ok X G (c.fact 4 rfl)
  have gReckoning : mg "Reckoning" = some (.ref (He.ga K "Reckoning")) := He.glo_ok X G (c.fact 5 rfl)
  have gis_integer : mg "is_integer" = some (.ref (He.ga K "is_integer")) := He.glo_ok X G (c.fact 6 rfl)
  have gis_row : mg "is_row" = some (.ref (He.ga K "is_row")) := He.glo_ok X G (c.fact 7 rfl)
  have gcheck_worths : mg "check_worths" = some (.ref (He.ga K "check_worths")) := He.glo_ok X G (c.fact 8 rfl)
  have glonger : mg "longer" = some (.ref (He.ga K "longer")) := He.glo_ok X G (c.fact 9 rfl)
  have gmissing : mg "missing" = some (.ref (He.ga K "missing")) := He.glo_ok X G (c.fact 10 rfl)
  have gfirst_fault : mg "first_fault" = some (.ref (He.ga K "first_fault")) := He.glo_ok X G (c.fact 11 rfl)
  have gsize_fault : mg "size_fault" = some (.ref (He.ga K "size_fault")) := He.glo_ok X G (c.fact 12 rfl)
  have gis_square : mg "is_square" = some (.ref (He.ga K "is_square")) := He.glo_ok X G (c.fact 13 rfl)
  have gis_side : mg "is_side" = some (.ref (He.ga K "is_side")) := He.glo_ok X G (c.fact 14 rfl)
  have gis_below : mg "is_below" = some (.ref (He.ga K "is_below")) := He.glo_ok X G (c.fact 15 rfl)
  have gnone_fault : mg "none_fault" = some (.ref (He.ga K "none_fault")) := He.glo_ok X G (c.fact 16 rfl)
  have gone_fault : mg "one_fault" = some (.ref (He.ga K "one_fault")) := He.glo_ok X G (c.fact 17 rfl)
  have gidle_fault : mg "idle_fault" = some (.ref (He.ga K "idle_fault")) := He.glo_ok X G (c.fact 18 rfl)
  have gswap_fault : mg "swap_fault" = some (.ref (He.ga K "swap_fault")) := He.glo_ok X G (c.fact 19 rfl)
  have ggrouping_fault : mg "grouping_fault" = some (.ref (He.ga K "grouping_fault")) := He.glo_ok X G (c.fact 20 rfl)
  have gover_fault : mg "over_fault" = some (.ref (He.ga K "over_fault")) := He.glo_ok X G (c.fact 21 rfl)
  have gsame_fault : mg "same_fault" = some (.ref (He.ga K "same_fault")) := He.glo_ok X G (c.fact 22 rfl)
  have gyes_no : mg "yes_no" = some (.ref (He.ga K "yes_no")) := He.glo_ok X G (c.fact 23 rfl)
  have gwidths : mg "widths" = some (.ref (He.ga K "widths")) := He.glo_ok X G (c.fact 24 rfl)
  have ggreater_ones : mg "greater_ones" = some (.ref (He.ga K "greater_ones")) := He.glo_ok X G (c.fact 25 rfl)
  have g_law_hand : mg "_law_hand" = some (.ref (He.ga K "_law_hand")) := He.glo_ok X G (c.fact 26 rfl)
  have g_law_draw : mg "_law_draw" = some (.ref (He.ga K "_law_draw")) := He.glo_ok X G (c.fact 27 rfl)
  have g_law_length : mg "_law_length" = some (.ref (He.ga K "_law_length")) := He.glo_ok X G (c.fact 28 rfl)
  have g_law_shorter : mg "_law_shorter" = some (.ref (He.ga K "_law_shorter")) := He.glo_ok X G (c.fact 29 rfl)
  have g_law_join : mg "_law_join" = some (.ref (He.ga K "_law_join")) := He.glo_ok X G (c.fact 30 rfl)
  have g_law_meet : mg "_law_meet" = some (.ref (He.ga K "_law_meet")) := He.glo_ok X G (c.fact 31 rfl)
  have g_law_times : mg "_law_times" = some (.ref (He.ga K "_law_times")) := He.glo_ok X G (c.fact 32 rfl)
  have g_law_is : mg "_law_is" = some (.ref (He.ga K "_law_is")) := He.glo_ok X G (c.fact 33 rfl)
  have g_law_leaving_right : mg "_law_leaving_right" = some (.ref (He.ga K "_law_leaving_right")) := He.glo_ok X G (c.fact 34 rfl)
  have glaw : mg "law" = some (.ref (He.ga K "law")) := He.glo_ok X G (c.fact 35 rfl)
  have zabs : mg "abs" = none := He.free_ok X G (c.fact 36 rfl)
  have zbool : mg "bool" = none := He.free_ok X G (c.fact 37 rfl)
  have zint : mg "int" = none := He.free_ok X G (c.fact 38 rfl)
  have zisinstance : mg "isinstance" = none := He.free_ok X G (c.fact 39 rfl)
  have zlen : mg "len" = none := He.free_ok X G (c.fact 40 rfl)
  have zlist : mg "list" = none := He.free_ok X G (c.fact 41 rfl)
  have zmax : mg "max" = none := He.free_ok X G (c.fact 42 rfl)
  have zmin : mg "min" = none := He.free_ok X G (c.fact 43 rfl)
  have zrange : mg "range" = none := He.free_ok X G (c.fact 44 rfl)
  have ztuple : mg "tuple" = none := He.free_ok X G (c.fact 45 rfl)
  have zall : mg "all" = none := He.free_ok X G (c.fact 46 rfl)
  obtain ⟨tkFEWEST_WORTHS, gFEWEST_WORTHS⟩ := He.int_ok X G (c.fact 47 (f := .int "FEWEST_WORTHS" 2) rfl)
  obtain ⟨tkMOST_WORTHS, gMOST_WORTHS⟩ := He.int_ok X G (c.fact 48 (f := .int "MOST_WORTHS" 16) rfl)
  obtain ⟨tkMOST_WIDTH, gMOST_WIDTH⟩ := He.int_ok X G (c.fact 49 (f := .int "MOST_WIDTH" 15) rfl)
  have r0 := x
  obtain ⟨qeBN, r1⟩ := OQ.two r0
  obtain ⟨qgcd, r2⟩ := OQ.two r1
  obtain ⟨qhnO, r3⟩ := OQ.two r2
  obtain ⟨qhtO, r4⟩ := OQ.two r3
  obtain ⟨qtI, r5⟩ := OQ.two r4
  obtain ⟨qhaRatio, r6⟩ := OQ.two r5
  obtain ⟨qhmRatio, r7⟩ := OQ.two r6
  obtain ⟨qhaNumbers, r8⟩ := OQ.two r7
  obtain ⟨qhmNumbers, r9⟩ := OQ.two r8
  obtain ⟨qhaLengths, r10⟩ := OQ.two r9
  obtain ⟨qhmLengths, r11⟩ := OQ.two r10
  obtain ⟨qhaReckoning, r12⟩ := OQ.two r11
  obtain ⟨qhmReckoning, r13⟩ := OQ.two r12
  obtain ⟨qneLengths, r14⟩ := OQ.two r13
  obtain ⟨qkILengths, r15⟩ := OQ.two r14
  obtain ⟨qkBLengths, r16⟩ := OQ.two r15
  obtain ⟨qkTLengths, r17⟩ := OQ.two r16
  obtain ⟨qkPReckoningLengths, r18⟩ := OQ.two r17
  obtain ⟨qkPNumbersLengths, r19⟩ := OQ.two r18
  obtain ⟨qkPLengthsReckoning, r20⟩ := OQ.two r19
  obtain ⟨qkPLengthsNumbers, r21⟩ := OQ.two r20
  have qsb := r21
  have hnO := OQ.isB_ok qhnO
  have htO := of_decide_eq_true qhtO
  have eBN := OQ.erB_ok hnO htO qeBN
  have e := hfa.symm.trans glaw
  cases e
  let T : Top K mg := { C_Ratio := _, cl_Ratio := He.cls_ok (c.fact 50 (f := .cls "Ratio") rfl), g_Ratio := gRatio, na_Ratio_top := He.noat_ok (c.fact 54 (f := .noat "Ratio" "top") rfl), na_Ratio_bottom := He.noat_ok (c.fact 55 (f := .noat "Ratio" "bottom") rfl), C_Numbers := _, cl_Numbers := He.cls_ok (c.fact 51 (f := .cls "Numbers") rfl), g_Numbers := gNumbers, na_Numbers_none := He.noat_ok (c.fact 56 (f := .noat "Numbers" "none") rfl), na_Numbers_one := He.noat_ok (c.fact 57 (f := .noat "Numbers" "one") rfl), C_Lengths := _, cl_Lengths := He.cls_ok (c.fact 52 (f := .cls "Lengths") rfl), g_Lengths := gLengths, na_Lengths_none := He.noat_ok (c.fact 58 (f := .noat "Lengths" "none") rfl), na_Lengths_one := He.noat_ok (c.fact 59 (f := .noat "Lengths" "one") rfl), C_Reckoning := _, cl_Reckoning := He.cls_ok (c.fact 53 (f := .cls "Reckoning") rfl), g_Reckoning := gReckoning, na_Reckoning_joins := He.noat_ok (c.fact 60 (f := .noat "Reckoning" "joins") rfl), na_Reckoning_products := He.noat_ok (c.fact 61 (f := .noat "Reckoning" "products") rfl), na_Reckoning_none := He.noat_ok (c.fact 62 (f := .noat "Reckoning" "none") rfl), na_Reckoning_one := He.noat_ok (c.fact 63 (f := .noat "Reckoning" "one") rfl), na_Reckoning__meets := He.noat_ok (c.fact 64 (f := .noat "Reckoning" "_meets") rfl), na_Reckoning__lefts := He.noat_ok (c.fact 65 (f := .noat "Reckoning" "_lefts") rfl), na_Reckoning__rights := He.noat_ok (c.fact 66 (f := .noat "Reckoning" "_rights") rfl), f_WayError__init := _, fd_WayError__init := fdWayError__init, F_WayError__init := FWayError__init, b_WayError__init := bWayError__init, f_is_integer := _, fd_is_integer := fdis_integer, F_is_integer := Fis_integer, b_is_integer := bis_integer, g_is_integer := gis_integer, f_is_row := _, fd_is_row := fdis_row, F_is_row := Fis_row, b_is_row := bis_row, g_is_row := gis_row, f_check_worths := _, fd_check_worths := fdcheck_worths, F_check_worths := Fcheck_worths, b_check_worths := bcheck_worths, g_check_worths := gcheck_worths, f_Lengths__init := _, fd_Lengths__init := fdLengths__init, F_Lengths__init := FLengths__init, b_Lengths__init := bLengths__init, M_Lengths := He.mkr_ok (c.fact 82 (f := .mkr "Lengths") rfl), f_Lengths__eq := _, fd_Lengths__eq := fdLengths__eq, F_Lengths__eq := FLengths__eq, b_Lengths__eq := bLengths__eq, m_Lengths__eq := He.meth_ok (c.fact 67 (f := .meth "Lengths" "__eq__") rfl), f_Lengths_is_worth := _, fd_Lengths_is_worth := fdLengths_is_worth, F_Lengths_is_worth := FLengths_is_worth, b_Lengths_is_worth := bLengths_is_worth, m_Lengths_is_worth := He.meth_ok (c.fact 68 (f := .meth "Lengths" "is_worth") rfl), f_Lengths_beneath := _, fd_Lengths_beneath := fdLengths_beneath, F_Lengths_beneath := FLengths_beneath, b_Lengths_beneath := bLengths_beneath, m_Lengths_beneath := He.meth_ok (c.fact 69 (f := .meth "Lengths" "beneath") rfl), f_Lengths_join := _, fd_Lengths_join := fdLengths_join, F_Lengths_join := FLengths_join, b_Lengths_join := bLengths_join, m_Lengths_join := He.meth_ok (c.fact 70 (f := .meth "Lengths" "join") rfl), f_Lengths_times := _, fd_Lengths_times := fdLengths_times, F_Lengths_times := FLengths_times, b_Lengths_times := bLengths_times, m_Lengths_times := He.meth_ok (c.fact 71 (f := .meth "Lengths" "times") rfl), f_Lengths_meet := _, fd_Lengths_meet := fdLengths_meet, F_Lengths_meet := FLengths_meet, b_Lengths_meet := bLengths_meet, m_Lengths_meet := He.meth_ok (c.fact 72 (f := .meth "Lengths" "meet") rfl), f_Lengths_greatest := _, fd_Lengths_greatest := fdLengths_greatest, F_Lengths_greatest := FLengths_greatest, b_Lengths_greatest := bLengths_greatest, m_Lengths_greatest := He.meth_ok (c.fact 73 (f := .meth "Lengths" "greatest") rfl), f_Lengths_left := _, fd_Lengths_left := fdLengths_left, F_Lengths_left := FLengths_left, b_Lengths_left := bLengths_left, m_Lengths_left := He.meth_ok (c.fact 74 (f := .meth "Lengths" "left") rfl), f_Lengths_right := _, fd_Lengths_right := fdLengths_right, F_Lengths_right := FLengths_right, b_Lengths_right := bLengths_right, m_Lengths_right := He.meth_ok (c.fact 75 (f := .meth "Lengths" "right") rfl), f_longer := _, fd_longer := fdlonger, F_longer := Flonger, b_longer := blonger, g_longer := glonger, f_missing := _, fd_missing := fdmissing, F_missing := Fmissing, b_missing := bmissing, g_missing := gmissing, f_first_fault := _, fd_first_fault := fdfirst_fault, F_first_fault := Ffirst_fault, b_first_fault := bfirst_fault, g_first_fault := gfirst_fault, f_size_fault := _, fd_size_fault := fdsize_fault, F_size_fault := Fsize_fault, b_size_fault := bsize_fault, g_size_fault := gsize_fault, f_is_square := _, fd_is_square := fdis_square, F_is_square := Fis_square, b_is_square := bis_square, g_is_square := gis_square, f_is_side := _, fd_is_side := fdis_side, F_is_side := Fis_side, b_is_side := bis_side, g_is_side := gis_side, f_is_below := _, fd_is_below := fdis_below, F_is_below := Fis_below, b_is_below := bis_below, g_is_below := gis_below, f_none_fault := _, fd_none_fault := fdnone_fault, F_none_fault := Fnone_fault, b_none_fault := bnone_fault, g_none_fault := gnone_fault, f_one_fault := _, fd_one_fault := fdone_fault, F_one_fault := Fone_fault, b_one_fault := bone_fault, g_one_fault := gone_fault, f_idle_fault := _, fd_idle_fault := fdidle_fault, F_idle_fault := Fidle_fault, b_idle_fault := bidle_fault, g_idle_fault := gidle_fault, f_swap_fault := _, fd_swap_fault := fdswap_fault, F_swap_fault := Fswap_fault, b_swap_fault := bswap_fault, g_swap_fault := gswap_fault, f_grouping_fault := _, fd_grouping_fault := fdgrouping_fault, F_grouping_fault := Fgrouping_fault, b_grouping_fault := bgrouping_fault, g_grouping_fault := ggrouping_fault, f_over_fault := _, fd_over_fault := fdover_fault, F_over_fault := Fover_fault, b_over_fault := bover_fault, g_over_fault := gover_fault, f_same_fault := _, fd_same_fault := fdsame_fault, F_same_fault := Fsame_fault, b_same_fault := bsame_fault, g_same_fault := gsame_fault, f_Reckoning__init := _, fd_Reckoning__init := fdReckoning__init, F_Reckoning__init := FReckoning__init, b_Reckoning__init := bReckoning__init, M_Reckoning := He.mkr_ok (c.fact 83 (f := .mkr "Reckoning") rfl), f_Reckoning__eq := _, fd_Reckoning__eq := fdReckoning__eq, F_Reckoning__eq := FReckoning__eq, b_Reckoning__eq := bReckoning__eq, m_Reckoning__eq := He.meth_ok (c.fact 76 (f := .meth "Reckoning" "__eq__") rfl), f_Reckoning_joined := _, fd_Reckoning_joined := fdReckoning_joined, F_Reckoning_joined := FReckoning_joined, b_Reckoning_joined := bReckoning_joined, m_Reckoning_joined := He.meth_ok (c.fact 77 (f := .meth "Reckoning" "_joined") rfl), f_Reckoning_meet := _, fd_Reckoning_meet := fdReckoning_meet, F_Reckoning_meet := FReckoning_meet, b_Reckoning_meet := bReckoning_meet, m_Reckoning_meet := He.meth_ok (c.fact 78 (f := .meth "Reckoning" "_meet") rfl), f_Reckoning_left := _, fd_Reckoning_left := fdReckoning_left, F_Reckoning_left := FReckoning_left, b_Reckoning_left := bReckoning_left, m_Reckoning_left := He.meth_ok (c.fact 79 (f := .meth "Reckoning" "_left") rfl), f_Reckoning_right := _, fd_Reckoning_right := fdReckoning_right, F_Reckoning_right := FReckoning_right, b_Reckoning_right := bReckoning_right, m_Reckoning_right := He.meth_ok (c.fact 80 (f := .meth "Reckoning" "_right") rfl), f_yes_no := _, fd_yes_no := fdyes_no, F_yes_no := Fyes_no, b_yes_no := byes_no, g_yes_no := gyes_no, f_widths := _, fd_widths := fdwidths, F_widths := Fwidths, b_widths := bwidths, g_widths := gwidths, f_greater_ones := _, fd_greater_ones := fdgreater_ones, F_greater_ones := Fgreater_ones, b_greater_ones := bgreater_ones, g_greater_ones := ggreater_ones, f_Ratio__init := _, fd_Ratio__init := fdRatio__init, F_Ratio__init := FRatio__init, b_Ratio__init := bRatio__init, b1_Ratio__init := b1Ratio__init, M_Ratio := He.mkr_ok (c.fact 84 (f := .mkr "Ratio") rfl), f_Numbers__init := _, fd_Numbers__init := fdNumbers__init, F_Numbers__init := FNumbers__init, b_Numbers__init := bNumbers__init, M_Numbers := He.mkr_ok (c.fact 85 (f := .mkr "Numbers") rfl), f_Numbers__eq := _, fd_Numbers__eq := fdNumbers__eq, F_Numbers__eq := FNumbers__eq, b_Numbers__eq := bNumbers__eq, m_Numbers__eq := He.meth_ok (c.fact 81 (f := .meth "Numbers" "__eq__") rfl), f_law_hand := _, fd_law_hand := fdlaw_hand, F_law_hand := Flaw_hand, b_law_hand := blaw_hand, g_law_hand := g_law_hand, f_law_draw := _, fd_law_draw := fdlaw_draw, F_law_draw := Flaw_draw, b_law_draw := blaw_draw, g_law_draw := g_law_draw, f_law_length := _, fd_law_length := fdlaw_length, F_law_length := Flaw_length, b_law_length := blaw_length, g_law_length := g_law_length, f_law_shorter := _, fd_law_shorter := fdlaw_shorter, F_law_shorter := Flaw_shorter, b_law_shorter := blaw_shorter, g_law_shorter := g_law_shorter, f_law_join := _, fd_law_join := fdlaw_join, F_law_join := Flaw_join, b_law_join := blaw_join, g_law_join := g_law_join, f_law_meet := _, fd_law_meet := fdlaw_meet, F_law_meet := Flaw_meet, b_law_meet := blaw_meet, g_law_meet := g_law_meet, f_law_times := _, fd_law_times := fdlaw_times, F_law_times := Flaw_times, b_law_times := blaw_times, g_law_times := g_law_times, f_law_is := _, fd_law_is := fdlaw_is, F_law_is := Flaw_is, b_law_is := blaw_is, g_law_is := g_law_is, f_law_leaving_right := _, fd_law_leaving_right := fdlaw_leaving_right, F_law_leaving_right := Flaw_leaving_right, b_law_leaving_right := blaw_leaving_right, g_law_leaving_right := g_law_leaving_right, f_law := _, fd_law := fdlaw, F_law := Flaw, b_law := blaw, g_law := glaw, n_abs := zabs, n_bool := zbool, n_int := zint, n_isinstance := zisinstance, n_len := zlen, n_list := zlist, n_max := zmax, n_min := zmin, n_range := zrange, n_tuple := ztuple, n_all := zall, C_BN := _, g_BadNumber := gBadNumber, g_gcd := PySem.W.mg_of X G (OQ.isB_ok qgcd), hnO := hnO, htO := htO, oex_BadNumber := eBN.oex, i_BadNumber := eBN.ini, tI := of_decide_eq_true qtI, v_BadNumber := eBN.va, xf_BadNumber := eBN.xf, exI_BadNumber := eBN.exi, exm := OQ.exm_is eBN.oex.exC eBN.cls eBN.oex.tyC (OQ.mro_has eBN (by simp)), kBN := kit_selfR, k_FEWEST_WORTHS := tkFEWEST_WORTHS, g_FEWEST_WORTHS := gFEWEST_WORTHS, k_MOST_WORTHS := tkMOST_WORTHS, g_MOST_WORTHS := gMOST_WORTHS, k_MOST_WIDTH := tkMOST_WIDTH, g_MOST_WIDTH := gMOST_WIDTH, ha_Numbers := OQ.isB_ok qhaNumbers, hm_Numbers := of_decide_eq_true qhmNumbers, ha_Lengths := OQ.isB_ok qhaLengths, hm_Lengths := of_decide_eq_true qhmLengths, ha_Reckoning := OQ.isB_ok qhaReckoning, hm_Reckoning := of_decide_eq_true qhmReckoning, ne_Lengths := OQ.isB_ok qneLengths, kLL := kit_selfR, kT_Lengths := all7 qkTLengths, kP_Reckoning_Lengths := pairP qkPReckoningLengths, kP_Numbers_Lengths := pairP qkPNumbersLengths, kP_Lengths_Reckoning := pairP qkPLengthsReckoning, kP_Lengths_Numbers := pairP qkPLengthsNumbers, sb_Lengths := fun t ht => of_decide_eq_true (List.all_eq_true.mp qsb t ht) }
  exact ⟨fdlaw, fun s v => FunD.bindsA (ps := ["script"]) Dlaw (fun _ _ _ _ _ _ us hl => match us, hl with | [_], _ => rfl) s [v] rfl, fun base _ _ => ok_law T⟩

end Toy
open PySem PySem.W PySem.Calls PyProof.Rows
set_option maxRecDepth 100000 in
set_option maxHeartbeats 0 in
theorem PySem.Challenge.cw_watchedways_k29_whole_lengths_holds : PySem.Challenge.rw_watchedways_k29_whole_lengths.Holds := by
  w_on; o_law
  refine HandSHeadRun.head_imp (r := OpenLaw.row PySem.Challenge.rw_watchedways_k29_whole_lengths) (q := view (OpenLaw.row PySem.Challenge.rw_watchedways_k29_whole_lengths).prog [0, 57]) (H := Toy.hk) (ob := Toy.ob) (M := 30000) (loose := Toy.looseH) (d := HandSHeadRun.topDef (OpenLaw.row PySem.Challenge.rw_watchedways_k29_whole_lengths).prog 57) (kwd := []) (OQ.obB_eq 5 Toy.faH Toy.fnH Toy.exH)
    Toy.run (by kernel_rfl) (by kernel_rfl) (by kernel_rfl) (by rfl) (by first | assumption | decide +kernel) (by decide +kernel) ⟨rfl, rfl, rfl, rfl, rfl, by decide +kernel⟩ ?hw ?hc
  case hw => w_witness2
  case hc =>
    refine L2.walk_ofE (l := PySem.Challenge.rw_watchedways_k29_whole_lengths) (n := 63) (k := 18) (x := "script") (CX := L2.CX0) rfl (by decide) (by kernel_rfl) ⟨rfl, by decide, by decide⟩ ?F (fun _ _ _ _ z => z)
    intro w mg fa h Y G hmg0
    obtain ⟨K, KX, c, x⟩ := Y
    have hmg : mg ("law" : PySem.Str) = some (.ref fa) := by
      have e : (HandSHeadRun.topDef (OpenLaw.row PySem.Challenge.rw_watchedways_k29_whole_lengths).prog 57).name = ("law" : PySem.Str) := by kernel_rfl
      rw [← e]
      exact hmg0
    obtain ⟨fd, hb, hF⟩ := Toy.facts (P := (PySem.Challenge.rw_watchedways_k29_whole_lengths).prog) (w := w) KX G hmg c x
    exact ⟨K, fd, Toy.spLaw K, KX, hb, fun H a ns hl _ hS => ⟨a, ns, rfl, hS, hl, fun _ => rfl⟩, hF⟩

