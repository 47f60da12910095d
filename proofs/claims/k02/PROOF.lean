import PyProof.Rows.All
import Wide.All
import OpenK.AllK
import Wide.FinOn
import KE.KExcIs
import HandS.ForMost
import HandS.ForExc
import HandS.Codes
import HandS.Wide
import HandS.IsInst
import HandS.ExcInit
import HandS.ExcField
import HandS.ExcIs
import HandS.TryMany
import HandS.CallSlots
import HandS.Defaults
import HandS.Gcd
import HandS.DeepEq
import HandS.Flow
import HandS.TupLe
import PyProof.SumWalk
import PyProof.Rows.CountFlat

import HandS.DictComp
import HandS.Head0
import HandS.Head1
import HandS.Head2
import HandS.HeadEnd
import HandS.HeadHook1
import HandS.HeadHook2
import KE.KStateDown
import PySem.Challenge.RW_watchedways_k02_errors_apart
set_option Elab.async false
set_option linter.all false
set_option maxRecDepth 100000
set_option maxHeartbeats 4000000
set_option exponentiation.threshold 3000

/-! ### readings, step by step -/
namespace RD
open PySem L2
section
variable {σ : St} {H : Hp} {Q : VK} {B : Bool → Hp → Prop} {A : List V → Hp → Prop} {K : PySem.W.Frag} {v x y : V} {i j : Int} {n : Nat} {ta tb tc te : TE} {tA tB' : TT} {r r' : R2} {t : TA}
theorem d_var {n : Nat} {v : V} (e : σ[n]? = some (some v)) (h : Q v H) : tVar n σ H Q := ⟨v, e, h⟩
theorem d_c (h : Q v H) : tC v σ H Q := h
theorem d_op (h : ta σ H fun x H1 => tb σ H1 fun y H2 => r x y H2 Q) : tOp r ta tb σ H Q := h
theorem d_un {r : V → Hp → VK → Prop} (h : ta σ H fun x H1 => r x H1 Q) : tUn r ta σ H Q := h
theorem d_cb {r : List V → Hp → VK → Prop} (h : t σ H fun vs H1 => r vs H1 Q) : tCB r t σ H Q := h
theorem d_call {sp : Sp} {dvs : List V} {E : XK} (h : t σ H fun vs H1 => sp (vs ++ dvs) H1 Q E) : tCall sp dvs E t σ H Q := h
theorem d_nil (h : A [] H) : tNil σ H A := h
theorem d_cons {ta : TE} {tr : TA} (h : ta σ H fun x H1 => tr σ H1 fun xs H2 => A (x :: xs) H2) : tCons ta tr σ H A := h
theorem d_lst (h : t σ H fun xs H1 => xs.length ≤ sizeLine ∧ ∀ p, H1 p = none → Q (.ref p) (upd H1 p (.lst xs))) : tLst t σ H Q := h
theorem d_tup (h : t σ H fun xs H1 => xs.length ≤ sizeLine ∧ ∀ p, H1 p = none → Q (.ref p) (upd H1 p (.tup xs))) : tTup t σ H Q := h
theorem d_test (h : ta σ H fun x H' => ∃ k, x = .bl k ∧ B k H') : tTest ta σ H B := h
theorem d_tB (h : ta σ H fun x H' => ∃ k, x = .bl k ∧ B k H') : L2.tB ta σ H B := h
theorem d_bl {b : Bool} {R : Bool → Prop} (h : R b) : ∃ k, V.bl b = .bl k ∧ R k := ⟨b, rfl, h⟩
theorem d_and (h : tA σ H fun c H1 => if c = true then tB' σ H1 B else B false H1) : tAnd tA tB' σ H B := h
theorem d_or (h : tA σ H fun c H1 => if c = true then B true H1 else tB' σ H1 B) : tOr tA tB' σ H B := h
theorem d_not (h : tA σ H fun c H1 => B (!c) H1) : tNot tA σ H B := h
theorem d_andV (h : ta σ H fun x H1 => ∃ c, x = .bl c ∧ if c = true then tb σ H1 Q else Q (.bl false) H1) : tAndV ta tb σ H Q := h
theorem d_orV (h : ta σ H fun x H1 => ∃ c, x = .bl c ∧ if c = true then Q (.bl true) H1 else tb σ H1 Q) : tOrV ta tb σ H Q := h
theorem d_notV (h : ta σ H fun x H1 => ∃ c, x = .bl c ∧ Q (.bl (!c)) H1) : tNotV ta σ H Q := h
theorem d_if (h : tA σ H fun c H1 => if c = true then ta σ H1 Q else tb σ H1 Q) : tIf tA ta tb σ H Q := h
theorem d_rI0 {g : Int → Int → V} (h : Q (g i j) H) : rI0 g (.int i) (.int j) H Q := ⟨i, j, rfl, rfl, h⟩
theorem d_rI {C : Int → Int → Prop} {g : Int → Int → V} (c : C i j) (h : Q (g i j) H) : rI C g (.int i) (.int j) H Q := ⟨i, j, rfl, rfl, c, h⟩
theorem d_rU {g : Int → V} (h : Q (g i) H) : rU g (.int i) H Q := ⟨i, rfl, h⟩
theorem d_eqI (h : Q (.bl (decide (i = j))) H) : rEq (.int i) (.int j) H Q := ⟨rfl, by
  have e : decide (V.int i = V.int j) = decide (i = j) := by rw [dec_int, Bool.eq_iff_iff]; simp
  rw [e]; exact h⟩
theorem d_neI (h : Q (.bl (!decide (i = j))) H) : rNe (.int i) (.int j) H Q := ⟨rfl, by
  have e : decide (V.int i = V.int j) = decide (i = j) := by rw [dec_int, Bool.eq_iff_iff]; simp
  rw [e]; exact h⟩
theorem d_eqB {i j : Bool} (h : Q (.bl (decide (i = j))) H) : rEq (.bl i) (.bl j) H Q := ⟨rfl, by
  have e : decide (V.bl i = V.bl j) = decide (i = j) := by rw [dec_bl, Bool.eq_iff_iff]; simp
  rw [e]; exact h⟩
theorem d_eqS {i j : Str} (h : Q (.bl (decide (i = j))) H) : rEq (.str i) (.str j) H Q := ⟨rfl, by
  have e : decide (V.str i = V.str j) = decide (i = j) := by rw [dec_str, Bool.eq_iff_iff]; simp
  rw [e]; exact h⟩
theorem d_neS {i j : Str} (h : Q (.bl (!decide (i = j))) H) : rNe (.str i) (.str j) H Q := ⟨rfl, by
  have e : decide (V.str i = V.str j) = decide (i = j) := by rw [dec_str, Bool.eq_iff_iff]; simp
  rw [e]; exact h⟩
theorem d_ixL {p : Addr} {xs : List V} {v : V} (hs : SqL K H p xs) (e : atI xs i = some v) (h : Q v H) : rIxL K (.ref p) (.int i) H Q := ⟨p, xs, i, v, rfl, rfl, hs, e, h⟩
theorem d_ixT {p : Addr} {xs : List V} {v : V} (hs : SqT K H p xs) (e : atI xs i = some v) (h : Q v H) : rIxT K (.ref p) (.int i) H Q := ⟨p, xs, i, v, rfl, rfl, hs, e, h⟩
theorem d_setL {p : Addr} {xs : List V} {k : Nat} {R : Hp → Prop} (hp : H p = some (.lst xs)) (e : ixN xs.length i = some k) (h : R (upd H p (.lst (xs.set k v)))) : rSetL (.ref p) (.int i) v H R := ⟨p, xs, i, k, rfl, rfl, hp, e, h⟩
theorem d_gname {R : St → Hp → Prop} (h : R (σ.set n (some v)) H) : gName n v σ H R := h
theorem d_gsub {to ti : TE} {ts : TSet} {R : St → Hp → Prop} (h : to σ H fun o H1 => ti σ H1 fun i H2 => ts o i v H2 fun H3 => R σ H3) : gSub to ti ts v σ H R := h
section
variable {nx bk ct : St → Hp → Prop} {rt : VK} {u w : TS} {g : TG}
theorem d_seq (h : u ⟨w ⟨nx, rt, bk, ct⟩, rt, bk, ct⟩ σ H) : tSeq u w ⟨nx, rt, bk, ct⟩ σ H := h
theorem d_asg (h : te σ H fun x H1 => g x σ H1 nx) : tAsg te g ⟨nx, rt, bk, ct⟩ σ H := h
theorem d_ret (h : te σ H rt) : tRet te ⟨nx, rt, bk, ct⟩ σ H := h
theorem d_next (h : nx σ H) : tNext ⟨nx, rt, bk, ct⟩ σ H := h
theorem d_drop (h : te σ H fun _ H1 => nx σ H1) : tDrop te ⟨nx, rt, bk, ct⟩ σ H := h
theorem d_ifS (h : tA σ H fun b H1 => if b = true then u ⟨nx, rt, bk, ct⟩ σ H1 else w ⟨nx, rt, bk, ct⟩ σ H1) : tIfS tA u w ⟨nx, rt, bk, ct⟩ σ H := h
theorem d_cut (Mid : St → Hp → Prop) (h : u ⟨Mid, rt, bk, ct⟩ σ H) (k : ∀ σ' H', Mid σ' H' → w ⟨nx, rt, bk, ct⟩ σ' H') : C8.tCut u w ⟨nx, rt, bk, ct⟩ σ H := ⟨Mid, h, k⟩
theorem d_par {t : TA} {i j : Nat} (h : t σ H fun vs H1 => ∃ v w, vs = [v, w] ∧ nx ((σ.set i (some v)).set j (some w)) H1) : tPar i j t ⟨nx, rt, bk, ct⟩ σ H := h
end
def rInt1 : List V → Hp → VK → Prop := fun xs H Q => (∃ i, xs = [.int i] ∧ Q (.int i) H) ∨ ∃ k, xs = [.bl k] ∧ Q (.int (if k then 1 else 0)) H
theorem c_int {X : Cx} : CallR X (.type "int") rInt1 := call_int1
theorem d_int (h : Q (.int i) H) : rInt1 [.int i] H Q := .inl ⟨i, rfl, h⟩
theorem d_intB {b : Bool} (h : Q (.int (if b then 1 else 0)) H) : rInt1 [.bl b] H Q := .inr ⟨b, rfl, h⟩
def rAbs : List V → Hp → VK → Prop := fun xs H Q => ∃ i, xs = [.int i] ∧ Q (.int (if i < 0 then -i else i)) H
theorem c_abs {X : Cx} : CallR X (.builtin "abs") rAbs := call_abs
theorem d_abs (h : Q (.int (if i < 0 then -i else i)) H) : rAbs [.int i] H Q := ⟨i, rfl, h⟩
def rLen (K : PySem.W.Frag) : List V → Hp → VK → Prop := fun xs H Q => ∃ x n, xs = [x] ∧ LenV K x H n ∧ Q (.int n) H
theorem c_len {X : Cx} : CallR X (.builtin "len") (rLen X.K) := call_len
theorem d_lenL {p : Addr} {xs : List V} (hs : SqL K H p xs) (h : Q (.int xs.length) H) : rLen K [.ref p] H Q := ⟨_, _, rfl, .inl ⟨xs, hs, rfl⟩, h⟩
theorem d_lenT {p : Addr} {xs : List V} (hs : SqT K H p xs) (h : Q (.int xs.length) H) : rLen K [.ref p] H Q := ⟨_, _, rfl, .inr ⟨xs, hs, rfl⟩, h⟩
theorem d_lenS {z : Str} (hs : z.length ≤ sizeLine) (h : Q (.int z.length) H) : rLen K [.str z] H Q := ⟨_, _, rfl, ⟨hs, rfl⟩, h⟩
def rIsN : R2 := fun x y H Q => y = .non ∧ Q (.bl (decide (x = .non))) H
theorem o_isN {X : Cx} : OpR X (compareOp .Is) rIsN := op_isN
theorem d_isN (h : Q (.bl (decide (x = .non))) H) : rIsN x .non H Q := ⟨rfl, h⟩
def rNotN : R2 := fun x y H Q => y = .non ∧ Q (.bl (!decide (x = .non))) H
theorem o_notN {X : Cx} : OpR X (compareOp .IsNot) rNotN := op_notN
theorem d_notN (h : Q (.bl (!decide (x = .non))) H) : rNotN x .non H Q := ⟨rfl, h⟩
theorem d_iList {tl : TE} {R : It → Hp → Prop} (h : tl σ H fun x H1 => ∃ a, x = .ref a ∧ (∃ xs, SqL K H1 a xs) ∧ R (Itl K a) H1) : iList K tl σ H R := h
theorem d_refL {p : Addr} {xs : List V} {R : Addr → Prop} (hs : SqL K H p xs) (h : R p) : ∃ a, V.ref p = .ref a ∧ (∃ xs, SqL K H a xs) ∧ R a := ⟨p, rfl, ⟨xs, hs⟩, h⟩
theorem d_rng1 {t : TA} {R : It → Hp → Prop} (h : t σ H fun vs H1 => ∃ j : Int, vs = [.int j] ∧ -(2 ^ 62) ≤ j ∧ j < 2 ^ 62 ∧ R (Itr 0 j.toNat) H1) : iRng1 t σ H R := h
theorem d_lc {wi : TI} {g : TG} {tt : TT} {vs : List Nat} (h : wi σ H fun J H1 => ∀ D, H1 D = none → ∃ W : Nat → Nat → Hp → Prop, (∃ m, W 0 m (upd H1 D (.lst []))) ∧ ∀ i m H, W i m H →
  (J.stop i H ∧ Q (.ref D) H) ∨ (J.go i H ∧ ∃ Nx : Hp → Prop, (∀ H', Nx H' → ∃ m', m' < m ∧ W (i + 1) m' H') ∧ ∀ x H', J.yld i H x H' → g x (wipe σ vs) H' fun σ2 H2 => wipe σ2 vs = wipe σ vs ∧ tt σ2 H2 fun b H3 =>
    if b = true then te σ2 H3 fun y H4 => ∃ acc, H4 D = some (.lst acc) ∧ acc.length < sizeLine ∧ Nx (upd H4 D (.lst (acc ++ [y]))) else Nx H3)) : tLc wi g tt te vs σ H Q := h
theorem d_yes (h : B true H) : tYes σ H B := h
theorem d_iteT {X Y : Prop} (h : X) : if true = true then X else Y := by rw [if_pos rfl]; exact h
theorem d_iteF {X Y : Prop} (h : Y) : if false = true then X else Y := by rw [if_neg Bool.false_ne_true]; exact h
theorem d_wipe {R : Prop} {vs : List Nat} {σ' : St} (e : wipe σ' vs = wipe σ vs) (h : R) : wipe σ' vs = wipe σ vs ∧ R := ⟨e, h⟩
theorem d_sl {r : V → Option Int → Option Int → Hp → VK → Prop} {tl th : TO} (h : te σ H fun x H1 => tl σ H1 fun l H2 => th σ H2 fun u H3 => r x l u H3 Q) : tSl r te tl th σ H Q := h
theorem d_noPart {Q : Option Int → Hp → Prop} (h : Q none H) : tNoPart σ H Q := h
theorem d_part {Q : Option Int → Hp → Prop} (h : te σ H fun x H1 => ∃ i, x = .int i ∧ Q (some i) H1) : tPart te σ H Q := h
theorem d_exI {R : Int → Prop} (h : R i) : ∃ k, V.int i = .int k ∧ R k := ⟨i, rfl, h⟩
theorem d_isi {c : V} {t u : Value} {b : Bool} (hc : ClsV c u) (ty : TyX K H x t) (e : PySem.W.kitOne K t u = some b) (h : Q (.bl b) H) : rIsi K [x, c] H Q := ⟨x, c, t, u, b, rfl, hc, ty, e, h⟩
theorem d_fld {f : Str} (h : ta σ H fun x H1 => ∃ a C dx fs v, x = .ref a ∧ H1 a = some (.ins C dx fs) ∧ Cls K C ∧ NoAttr K C f ∧ fs.lookup f = some v ∧ Q v H1) : tFld K ta f σ H Q := h
theorem d_iteNF {X Y : Prop} (h : X) : if (!false) = true then X else Y := by rw [if_pos (show (!false) = true from rfl)]; exact h
theorem d_iteNT {X Y : Prop} (h : Y) : if (!true) = true then X else Y := by rw [if_neg (by decide)]; exact h
theorem d_iteDT {P X Y : Prop} {inst : Decidable P} (c : P) (h : X) : if decide P = true then X else Y := by rw [if_pos (decide_eq_true c)]; exact h
theorem d_iteDF {P X Y : Prop} {inst : Decidable P} (c : ¬ P) (h : Y) : if decide P = true then X else Y := by rw [if_neg (by simpa using c)]; exact h
theorem d_gcd (h : Q (.int ((Nat.gcd i.natAbs j.natAbs : Nat) : Int)) H) : rGcd [.int i, .int j] H Q := ⟨i, j, rfl, h⟩
theorem d_sfld {f : Str} {tv : TE} {nx bk ct : St → Hp → Prop} {rt : VK} (h : tv σ H fun y H1 => ta σ H1 fun x H2 => ∃ a C dx fs, x = .ref a ∧ H2 a = some (.ins C dx fs) ∧ Cls K C ∧ NoAttr K C f ∧ fs.length < 1000 ∧
  nx σ (upd H2 a (.ins C dx (putF f y fs)))) : sFld K ta tv f ⟨nx, rt, bk, ct⟩ σ H := h
theorem d_for {wi : TI} {g : TG} {tb : TS} {nx bk ct : St → Hp → Prop} {rt : VK} (h : wi σ H fun J H1 => ∃ W : Nat → Nat → St → Hp → Prop, (∃ m, W 0 m σ H1) ∧ ∀ i m σ H, W i m σ H →
  (J.stop i H ∧ nx σ H) ∨ (J.go i H ∧ ∃ N : St → Hp → Prop, (∀ σ' H', N σ' H' → ∃ m', m' < m ∧ W (i + 1) m' σ' H') ∧ ∀ x H', J.yld i H x H' → g x σ H' fun σ2 H2 => tb ⟨N, rt, nx, N⟩ σ2 H2)) :
  tFor wi g tb ⟨nx, rt, bk, ct⟩ σ H := h
theorem f_range {lo : Int} {n : Nat} {g : TG} {tb : TS} {nx : St → Hp → Prop} {rt : VK} (Pv : Nat → St → Hp → Prop) (h0 : Pv 0 σ H)
    (hs : ∀ i σ H, i < n → Pv i σ H → g (.int (lo + i)) σ H fun σ2 H2 => tb ⟨Pv (i + 1), rt, nx, Pv (i + 1)⟩ σ2 H2) (hd : ∀ σ H, Pv n σ H → nx σ H) :
    ∃ W : Nat → Nat → St → Hp → Prop, (∃ m, W 0 m σ H) ∧ ∀ i m σ H, W i m σ H → ((Itr lo n).stop i H ∧ nx σ H) ∨ ((Itr lo n).go i H ∧ ∃ N : St → Hp → Prop, (∀ σ' H', N σ' H' → ∃ m', m' < m ∧ W (i + 1) m' σ' H') ∧
      ∀ x H', (Itr lo n).yld i H x H' → g x σ H' fun σ2 H2 => tb ⟨N, rt, nx, N⟩ σ2 H2) := for_range (D := ⟨nx, rt, fun _ _ => False, fun _ _ => False⟩) Pv h0 hs hd
theorem f_list {K : PySem.W.Frag} {a : Addr} {xs : List V} {g : TG} {tb : TS} {nx : St → Hp → Prop} {rt : VK} (Pv : Nat → St → Hp → Prop) (h0 : Pv 0 σ H) (hl : ∀ i σ H, i ≤ xs.length → Pv i σ H → SqL K H a xs)
    (hs : ∀ i x σ H, xs[i]? = some x → Pv i σ H → g x σ H fun σ2 H2 => tb ⟨Pv (i + 1), rt, nx, Pv (i + 1)⟩ σ2 H2) (hd : ∀ σ H, Pv xs.length σ H → nx σ H) :
    ∃ W : Nat → Nat → St → Hp → Prop, (∃ m, W 0 m σ H) ∧ ∀ i m σ H, W i m σ H → ((Itl K a).stop i H ∧ nx σ H) ∨ ((Itl K a).go i H ∧ ∃ N : St → Hp → Prop, (∀ σ' H', N σ' H' → ∃ m', m' < m ∧ W (i + 1) m' σ' H') ∧
      ∀ x H', (Itl K a).yld i H x H' → g x σ H' fun σ2 H2 => tb ⟨N, rt, nx, N⟩ σ2 H2) := for_list (D := ⟨nx, rt, fun _ _ => False, fun _ _ => False⟩) Pv h0 hl hs hd
theorem iteD {P X Y : Prop} {inst : Decidable P} (h1 : P → X) (h2 : ¬ P → Y) : if decide P = true then X else Y := by
  by_cases h : P
  · rw [if_pos (decide_eq_true h)]; exact h1 h
  · rw [if_neg (by simpa using h)]; exact h2 h
theorem iteN {P X Y : Prop} {inst : Decidable P} (h1 : ¬ P → X) (h2 : P → Y) : if (!decide P) = true then X else Y := by
  by_cases h : P
  · rw [if_neg (by simpa using h)]; exact h2 h
  · rw [if_pos (by simpa using h)]; exact h1 h
end
end RD

/-! ### own == and != of a class of the text -/
namespace OQ
open PySem L2 PySem.Spec PyProof.Rows
section
variable {X : Cx} {CX : CXT} {C f : Addr} {fd : FuncData} {ps : List Str} {sp : Sp} {E : XK} {k : Nat}
/-- a def of the text called somewhere below the body that runs -/
theorem run_at {A : Around} (hA : A.frames = X.A.frames) (hr : Room k A) {pins : List (Addr × Obj)} {σ : L2.St} {H : Hp} {s : Shared} {Q : VK} {us : List Value} {vs : List V}
    (F : FnOk X.prog X.w X.K X.mg X.base CX k f fd ps sp) (hb : Binds X.K fd ps []) (hx : Passes CX X E) (I : Inv X pins σ H s) (r : Vals vs us) (h : sp vs H Q E) :
    wpAny (model X.prog X.w) A (call (.ref f) us) (EP X pins σ Q) X.xe s := by
  have z := I.env0
  have e0 : Env0 X.prog X.w X.K X.mg X.base A X.stack s H := ⟨hA ▸ z.frames, z.mod, z.bs, z.bsz, z.funs, z.frf, z.hok, z.bare⟩
  have hl : us.length = ps.length := by rw [← r.length]; exact F.len _ _ _ _ h
  have b := hb s us I.kIn (by rw [List.append_nil]; exact hl)
  rw [List.append_nil] at b
  refine wpAny_call (codeAny_mono (F.run A X.stack s H ⟨us, []⟩ us vs Q E hr e0 b r h) ?_)
  rintro (e | fl) s' hq
  · exact hx pins σ H s e s' I hq
  · cases fl with
    | ret u => exact I.after hq
    | next => exact hq.elim
    | brk => exact hq.elim
    | cont => exact hq.elim
theorem cmpBack_of {pins : List (Addr × Obj)} {σ : L2.St} {Q : VK} {u : Value} {s' : Shared} (h : EP X pins σ Q u s') : PySem.W.CmpBack (EP X pins σ Q) u s' := by
  obtain ⟨v, H', I', r, q⟩ := h
  have e : EP X pins σ Q u s' := ⟨v, H', I', r, q⟩
  cases u <;> first
    | exact e
    | (exfalso; cases v <;> first | exact Value.noConfusion r | (obtain ⟨t, rt⟩ := r; exact Value.noConfusion rt))
/-- x == y by the __eq__ of x's class -/
def rOwnEq (K : PySem.W.Frag) (C : Addr) (sp : Sp) (E : XK) : R2 := fun x y H Q => ∃ a dx fs t, x = .ref a ∧ H a = some (.ins C dx fs) ∧ TyX K H y t ∧ PySem.W.notFirst K C t = true ∧ sp [x, y] H Q E
theorem op_ownEq (F : FnOk X.prog X.w X.K X.mg X.base CX k f fd ps sp) (hr : Room k X.A) (hs : PySem.W.findIn X.K (.ref C) "__eq__" = some (some (.ref f))) (hf : PySem.W.isFn X.K (.ref f) = true)
    (hb : Binds X.K fd ps []) (hx : Passes CX X E) : OpR X (compareOp .Eq) (rOwnEq X.K C sp E) := by
  intro pins s σ H x y v u Q I rx ry hq
  obtain ⟨a, dx, fs, t, rfl, ha, ty, nf, q⟩ := hq
  cases rx
  obtain ⟨_, J0, _⟩ := ins_get I.hok ha
  obtain ⟨_, J, _⟩ := J0.look
  obtain ⟨_, hF⟩ := I.fr
  obtain ⟨_, kx, hp, _⟩ := kit_of I ry ty
  exact PySem.W.cmp_K (op := .Eq) hr.units0 hF I.ok.mod.kin J (kx.ty _ _ I.kIn hp) nf hs hf
    (wpAny_mono (run_at rfl hr F hb hx I (vs := [V.ref a, y]) (us := [Value.ref a, u]) (Paired.cons (show RelV (V.ref a) (Value.ref a) from rfl) (Paired.cons ry .nil)) q) (fun _ _ z => cmpBack_of z) fun _ _ z => z)
/-- looking a builtin slot up at an instance and calling it -/
theorem ifBound_B {M : Model} {A : Around} {E : Value → Shared → Prop} {s : Shared} {K : PySem.W.Frag} {x C : Addr} {ox : Obj} {od : Option Obj} {name : Str} {id : String} {args : List Value} {Q : Option Value → Shared → Prop} (Z : K.In s.heap)
    (I : PySem.W.InstAt s.heap x ox C od) (hs : PySem.W.findIn K (.ref C) name = some (some (.builtin id))) (S : bindSpecial (.builtin id) (.ref x) = pure (Value.builtin id, [Value.ref x]))
    (h : wpAny M A (call (.builtin id) (.ref x :: args)) (fun v => Q (some v)) E s) : wpAny M A (callSpecialIfBound? (.ref x) name args) Q E s := by
  have fin : wpAny M A (call (.builtin id) ([Value.ref x] ++ args) >>= fun v => pure (some v)) Q E s :=
    wpAny_bind (wpAny_mono h (fun _ _ z => wpAny_pure z) fun _ _ z => z)
  have tail : wpAny M A (some <$> (pure (Value.builtin id, [Value.ref x]) : Sem (Value × List Value))) (fun a s' => wpAny M A (match a with
    | some (g, first) => call g (first ++ args) >>= fun v => pure (some v)
    | none => pure none) Q E s') E s := wpAny_bind (wpAny_pure (wpAny_pure fin))
  simp only [callSpecialIfBound?, bindSpecialIfBound?]
  refine wpAny_holding ?_
  refine wpAny_bind ?_
  refine wpAny_bind ?_
  refine wpAny_bind (I.type.here ?_)
  refine (PySem.W.looks_findIn Z hs).here ?_
  simp only [S]
  refine wpAny_bind ?_
  refine wpAny_askSetting ?_
  refine wpAny_ite ?_
  split
  · refine wpAny_bind ?_
    exact wpAny_pure (wpAny_pure fin)
  · refine wpAny_tryCatch ?_
    refine wpAny_bind ?_
    exact wpAny_pure (wpAny_pure fin)
/-- object.__ne__(x, y) by the own __eq__ -/
theorem ne_body {M : Program} {w : World} {A : Around} {E : Value → Shared → Prop} {s : Shared} {K : PySem.W.Frag} {x C f : Addr} {ox : Obj} {od : Option Obj} {b : Value} {Q : Fin → Shared → Prop} (Z : K.In s.heap) (hu : A.units < cLine)
    (I : PySem.W.InstAt s.heap x ox C od) (hs : PySem.W.findIn K (.ref C) "__eq__" = some (some (.ref f))) (hf : PySem.W.isFn K (.ref f) = true)
    (h : wpAny (model M w) A (call (.ref f) [.ref x, b]) (fun v s' => ∃ r, v = .bool r ∧ Q (.done (.ret (.bool (!r)))) s') E s) :
    wpAny (model M w) A (Builtin.«object.__ne__» ⟨[.ref x, b], []⟩) Q E s := by
  unfold Builtin.«object.__ne__»
  have step : wpAny (model M w) A (callSpecialIfBound? (.ref x) "__eq__" [b]) (fun o s' => ∃ r, o = some (.bool r) ∧ Q (.done (.ret (.bool (!r)))) s') E s :=
    PySem.W.ifBound_K Z I hs hf (wpAny_mono h (fun v s' ⟨r, e, q⟩ => ⟨r, by rw [e], q⟩) fun _ _ z => z)
  refine wpAny_bind (wpAny_of_eq (a := ((Value.ref x : Value), [b])) (by first | rfl | (simp only [slotArgs]; rfl)) ?_)
  dsimp only
  refine wpAny_bind (wpAny_cRoomFor hu ?_)
  refine wpAny_bind (wpAny_mono step (fun o s' hv => ?_) fun _ _ z => z)
  obtain ⟨r, rfl, q⟩ := hv
  dsimp only
  refine wpAny_bind ?_
  refine wpAny_truthy_bool ?_
  exact wpAny_pure q
end
/-- x != y by the __eq__ of x's class -/
def rOwnNe (K : PySem.W.Frag) (C : Addr) (sp : Sp) (E : XK) : R2 := fun x y H Q => ∃ a dx fs t, x = .ref a ∧ H a = some (.ins C dx fs) ∧ TyX K H y t ∧ PySem.W.notFirst K C t = true ∧ sp [x, y] H (fun v H' => ∃ r, v = .bl r ∧ Q (.bl (!r)) H') E
section
variable {X : Cx} {CX : CXT} {C f : Addr} {fd : FuncData} {ps : List Str} {sp : Sp} {E : XK} {k : Nat}
theorem op_ownNe (F : FnOk X.prog X.w X.K X.mg X.base CX k f fd ps sp) (hr : Room (k + 1) X.A) (hs : PySem.W.findIn X.K (.ref C) "__eq__" = some (some (.ref f))) (hf : PySem.W.isFn X.K (.ref f) = true)
    (hn : PySem.W.findIn X.K (.ref C) "__ne__" = some (some (.builtin "object.__ne__"))) (hm : PySem.W.mroIn X.K C (.type "object") = some true)
    (hb : Binds X.K fd ps []) (hx : Passes CX X E) : OpR X (compareOp .NotEq) (rOwnNe X.K C sp E) := by
  intro pins s σ H x y v u Q I rx ry hq
  obtain ⟨a, dx, fs, t, rfl, ha, ty, nf, q⟩ := hq
  cases rx
  obtain ⟨_, J0, _⟩ := ins_get I.hok ha
  obtain ⟨_, J, _⟩ := J0.look
  obtain ⟨_, hF⟩ := I.fr
  obtain ⟨_, kx, hp, _⟩ := kit_of I ry ty
  have hlook := kx.ty (model X.prog X.w) _ I.kIn hp
  have hu := hr.units0
  have body := ne_body (M := X.prog) (w := X.w) (A := X.A.in1) (E := X.xe) (b := u) (Q := fun fin s' => ∃ r : Bool, fin = .done (.ret (.bool r)) ∧ EP X pins σ Q (.bool r) s') I.kIn hr.in1.units0 J hs hf
    (wpAny_mono (run_at (A := X.A.in1) rfl hr.in1 F hb hx I (vs := [V.ref a, y]) (us := [Value.ref a, u]) (Paired.cons (show RelV (V.ref a) (Value.ref a) from rfl) (Paired.cons ry .nil)) q) (fun w' s' z => by
      obtain ⟨v', H', I', rr, r, e, q'⟩ := z
      subst e
      exact ⟨r, rr, !r, rfl, .bl (!r), H', I', rfl, q'⟩) fun _ _ z => z)
  have one : wpAny (model X.prog X.w) X.A (tryCompare (.ref a) "__ne__" u) (fun o s' => ∃ r : Bool, o = some (.bool r) ∧ EP X pins σ Q (.bool r) s') X.xe s := by
    unfold tryCompare
    refine wpAny_bind (ifBound_B I.kIn J hn (PySem.F.cmp_object.ne.bind _) (wpAny_call (codeAny_call_builtin PySem.F.cmp_object.ne.plain PySem.F.cmpEntry_ne ?_)))
    refine PySem.W.check_slot PySem.F.cmpKind_ne PySem.F.cmpSplit_ne (J.type.andThen (PySem.W.looks_mroIn I.kIn hm)) (PySem.F.cmpArgs_ne _ _) ?_
    refine wpAny_mono body (fun fin s' z => ?_) fun _ _ z => z
    obtain ⟨r, rfl, ep⟩ := z
    exact wpAny_pure ⟨r, rfl, ep⟩
  show wpAny (model X.prog X.w) X.A (richCompare .NotEq (.ref a) u) (EP X pins σ Q) X.xe s
  unfold richCompare
  simp only [oneThing_ref]
  refine wpAny_holding ?_
  refine wpAny_bind (wpAny_cRoomFor hu ?_)
  refine wpAny_bind (J.type.here ?_)
  refine wpAny_bind (hlook.here ?_)
  have fin : ∀ {β : Type} {z : Value → Sem Value} {y : Sem Value}, True := fun {_ _ _} => trivial
  split
  · rename_i qq
    have e : PySem.W.subIn X.K t (.ref C) = some false := by
      rcases Bool.or_eq_true_iff.mp nf with e | e
      · rw [beq_iff_eq.mp e] at qq
        simp at qq
      · exact beq_iff_eq.mp e
    refine wpAny_bind ((PySem.W.looks_subIn I.kIn e).here ?_)
    simp only [Bool.false_eq_true, if_false]
    refine wpAny_bind (wpAny_mono one (fun o s' z => ?_) fun _ _ z => z)
    obtain ⟨r, rfl, ep⟩ := z
    exact wpAny_pure ep
  · refine wpAny_bind (wpAny_pure ?_)
    simp only [Bool.false_eq_true, if_false]
    refine wpAny_bind (wpAny_mono one (fun o s' z => ?_) fun _ _ z => z)
    obtain ⟨r, rfl, ep⟩ := z
    exact wpAny_pure ep
end
end OQ

/-! ### errors: isinstance of a caught one that has fields; making an instance within a try -/
namespace OQ
open PySem L2 PySem.Spec PyProof.Rows
/-- isinstance(e, c), e the error that the suite holds at a: its class cls, its dict d -/
def rIsX (K : PySem.W.Frag) (D a : Addr) (cls : Value) (d : Option Addr) : List V → Hp → VK → Prop := fun xs H Q => ∃ (c : V) (cv : Value) (b : Bool) (dd : Addr) (fs : List (Str × V)),
  xs = [.ref a, c] ∧ cls = .ref D ∧ d = some dd ∧ H dd = some (.xd fs) ∧ ClsV c cv ∧ PySem.W.kitOne K (.ref D) cv = some b ∧ Q (.bl b) H
theorem call_isX {X : Cx} {a D : Addr} {cls : Value} {d : Option Addr} {oe : Obj} {pn : List (Addr × Obj)} (C : ExcC X.K D) (hz : Zc cls d oe) (hf : ∃ vs, oe.data = .fields vs) :
    CallR (X.suite a ((a, oe) :: pn)) (.builtin "isinstance") (rIsX X.K D a cls d) := by
  rintro pins s σ H xs us Q I r ⟨c, cv, b, dd, fs, rfl, rfl, rfl, hx, hc, e, q⟩
  cases r with
  | cons rx rr => cases rr with
    | cons rt rr =>
      cases rr
      cases rx
      have ec := hc.eq rt
      subst ec
      obtain ⟨hget, _⟩ := I.pin (a, oe) (List.mem_append_left _ (List.mem_cons_self ..))
      obtain ⟨vs, hv⟩ := hf
      obtain ⟨_, hns, _⟩ := (show ObjOk X.prog X.w H s.heap dd (.xd fs) from I.hok dd _ hx)
      obtain ⟨od, ho, _⟩ := lookIn_ns hns
      have J : PySem.W.InstAt s.heap a oe D (some od) := ⟨hget, hz.1, (by unfold PySem.W.notCls; rw [hv] <;> rfl), (by rw [hz.2]; exact ho)⟩
      have hcl : (PySem.W.clsIn X.K D).isSome = true := by
        obtain ⟨cd, h1, _⟩ := PySem.W.any_some C.hd
        rw [h1]; rfl
      exact PySem.W.kia_one (PySem.W.kitx_exc hcl C.hg C.hk C.hs C.ha C.hn C.ht C.hm) I.kIn J e (fun z => Value.noConfusion z) fun tk => ⟨.bl b, H, I.kept (t' := tk) fun _ _ z => z, rfl, q⟩
section
variable {X : Cx} {CX : CXT} {C f : Addr} {fd : FuncData} {ps : List Str} {sp : Sp} {k : Nat} {ds : List Value} {dvs : List V} {E : L2.St → XK} {x : Str} {p pos : Pos} {e : Expr} {es : List Expr} {t : TA}
/-- C(e, ..), what is raised wished for at the slots -/
def tMakeS (C : Addr) (sp : Sp) (dvs : List V) (E : L2.St → XK) (t : TA) : TE := fun σ H Q => t σ H fun vs H1 => ∀ x dx, H1 x = none → H1 dx = none → dx ≠ x →
  sp (.ref x :: (vs ++ dvs)) (upd (upd H1 dx (.own x)) x (.ins C dx [])) (fun v H2 => v = .non ∧ Q (.ref x) H2) (E σ)
theorem pe_makeS (M : Mk X.K C f) (F : FnOk X.prog X.w X.K X.mg X.base CX k f fd ps sp) (hr : Room (k + 1) X.A) (hg : Gl X x) (hm : X.mg x = some (.ref C)) (hb : Binds X.K fd ps ds) (hd : Vals dvs ds)
    (hx : ∀ σ, PassesAt CX X σ (E σ)) (ha : PA X (e :: es) t) (hdb : (x == ("__debug__" : Str)) = false := by decide)
    (he : starEach (e :: es) X.env = (false, eval e X.env) :: starEach es X.env := by rfl) (hpl : (backTo pos (starEach es X.env)).any (·.1) = false := by rfl) :
    PE X (.Call (.Name x p) (e :: es) [] pos) (tMakeS C sp dvs E t) := by
  refine ⟨fun pins s σ H Q I h => ?_⟩
  refine wpAny_Call_Name_kw (ld_glob I hg hm ?_ hdb)
  refine PySem.W.callWith_K (h₀ := X.base) I.ok.mod.kin M.kp (thn (ha.run pos pins s σ H _ I h) ?_) he hpl
  rintro us s1 ⟨vs, H1, I1, r, q⟩
  refine ⟨I1.kIn, ?_⟩
  have nx : H1 (s1.heap.objs.size + 1) = none := I1.hok.fresh (Nat.le_succ _)
  have ndx : H1 s1.heap.objs.size = none := I1.hok.fresh (Nat.le_refl _)
  have hq := q _ _ nx ndx (Nat.ne_of_lt (Nat.lt_succ_self _))
  have I2 := Inv.made (C := C) I1
  have r2 : Vals (V.ref (s1.heap.objs.size + 1) :: (vs ++ dvs)) (Value.ref (s1.heap.objs.size + 1) :: (us ++ ds)) := .cons rfl (r.append hd)
  have hl : (Value.ref (s1.heap.objs.size + 1) :: us ++ ds).length = ps.length := (r2.length.symm).trans (F.len _ _ _ _ hq)
  refine wpAny_call (make_map (f := f) I1.kIn M.makes M.init (beq_iff_eq.mp M.fn) (codeAny_mono (F.run _ X.stack _ _ _ _ _ _ (E σ) (hr.make C us []) (I2.env0.make C us []) (hb _ (_ :: us) I2.kIn hl) r2 hq) ?_))
  rintro (er | fl) s' hq'
  · exact hx σ pins _ _ er s' I2 hq'
  · cases fl with
    | ret u =>
      obtain ⟨v, H', I3, rv, ev, q3⟩ := I2.after hq'
      subst ev
      exact ⟨rv, V.ref (s1.heap.objs.size + 1), H', I3, rfl, q3⟩
    | next => exact hq'.elim
    | brk => exact hq'.elim
    | cont => exact hq'.elim
end
/-- // by a divisor of either sign, below 2 ^ 9000 -/
def CDivX (_ j : Int) : Prop := j ≠ 0 ∧ j.natAbs.log2 < 9000
theorem op_fdivX {X : Cx} : OpR X (binaryOp .FloorDiv) (rI CDivX fun i j => .int (i.fdiv j)) := opI fun i j _ _ _ _ _ hc q => floordiv_int hc.1 q (.inl (PyProof.noPylong_of_log2 hc.2))
end OQ

namespace RM
/-- what both parts are divided by -/
def shr (i j : Int) : Int := if j < 0 then -((Nat.gcd i.natAbs j.natAbs : Nat) : Int) else ((Nat.gcd i.natAbs j.natAbs : Nat) : Int)
theorem gcd_pos {i j : Int} (h : j ≠ 0) : 0 < Nat.gcd i.natAbs j.natAbs := Nat.gcd_pos_of_pos_right _ (Int.natAbs_pos.mpr h)
theorem shr_ne {i j : Int} (h : j ≠ 0) : shr i j ≠ 0 := by
  have := gcd_pos (i := i) h
  unfold shr; split <;> omega
theorem shr_le {i j : Int} (h : j ≠ 0) : (shr i j).natAbs ≤ j.natAbs := by
  have := Nat.gcd_le_right i.natAbs (Int.natAbs_pos.mpr h)
  unfold shr; split <;> omega
theorem num_eq {i j : Int} (h : j ≠ 0) : i.fdiv (shr i j) = (Rat.divInt i j).num := by
  have g0 := gcd_pos (i := i) h
  have hd : ((Nat.gcd i.natAbs j.natAbs : Nat) : Int) ∣ i := Int.ofNat_dvd_left.mpr (Nat.gcd_dvd_left _ _)
  obtain ⟨k, hk⟩ := hd
  have e : j.gcd i = Nat.gcd i.natAbs j.natAbs := Nat.gcd_comm _ _
  rw [Rat.num_divInt, e]
  unfold shr
  generalize Nat.gcd i.natAbs j.natAbs = g at *
  split
  · rename_i hj
    rw [Int.sign_eq_neg_one_of_neg hj]
    have e1 : i = (-(g : Int)) * (-k) := by rw [hk, Int.neg_mul_neg]
    have e2 : -1 * i = (g : Int) * (-k) := by rw [hk, Int.mul_neg]; omega
    rw [e2, Int.mul_ediv_cancel_left _ (by omega)]
    conv => lhs; rw [e1]
    exact Int.mul_fdiv_cancel_left _ (by omega)
  · rename_i hj
    rw [Int.sign_eq_one_of_pos (by omega), Int.one_mul]
    conv => lhs; rw [hk]
    conv => rhs; rw [hk]
    rw [Int.mul_fdiv_cancel_left _ (by omega), Int.mul_ediv_cancel_left _ (by omega)]
theorem den_eq {i j : Int} (h : j ≠ 0) : j.fdiv (shr i j) = ((Rat.divInt i j).den : Int) := by
  have g0 := gcd_pos (i := i) h
  have hd : ((Nat.gcd i.natAbs j.natAbs : Nat) : Int) ∣ j := Int.ofNat_dvd_left.mpr (Nat.gcd_dvd_right _ _)
  obtain ⟨k, hk⟩ := hd
  have e : j.gcd i = Nat.gcd i.natAbs j.natAbs := Nat.gcd_comm _ _
  rw [Rat.den_divInt, if_neg h, e]
  unfold shr
  generalize Nat.gcd i.natAbs j.natAbs = g at *
  have ea : j.natAbs / g = k.natAbs := by rw [hk, Int.natAbs_mul, Int.natAbs_natCast, Nat.mul_div_cancel_left _ g0]
  rw [ea]
  split
  · rename_i hj
    have kn : k < 0 := by
      rcases Int.lt_or_le k 0 with q | q
      · exact q
      · have := Int.mul_nonneg (Int.natCast_nonneg g) q
        omega
    have e1 : j = (-(g : Int)) * (-k) := by rw [hk, Int.neg_mul_neg]
    conv => lhs; rw [e1]
    rw [Int.mul_fdiv_cancel_left _ (by omega)]
    omega
  · rename_i hj
    have kn : 0 ≤ k := by
      rcases Int.lt_or_le k 0 with q | q
      · have := Int.mul_neg_of_pos_of_neg (show (0 : Int) < g by omega) q
        omega
      · exact q
    conv => lhs; rw [hk]
    rw [Int.mul_fdiv_cancel_left _ (by omega)]
    omega
end RM

namespace OQ
open PySem L2
/-- one of two rules -/
theorem op_or {X : Cx} {f : Value → Value → Sem Value} {r1 r2 : R2} (h1 : OpR X f r1) (h2 : OpR X f r2) : OpR X f (fun x y H Q => r1 x y H Q ∨ r2 x y H Q) :=
  fun pins s σ H x y v u Q I rx ry h => h.elim (h1 pins s σ H x y v u Q I rx ry) (h2 pins s σ H x y v u Q I rx ry)
/-- what lets nothing out where the wish is empty -/
theorem passN {X : Cx} : Passes (L2.CX X.prog X.w) X E0 := fun pins σ H s e s' I h => by
  obtain ⟨_, _, _, _, _, _, _, _, _, _, _, _, f⟩ := h
  exact f.elim
section
variable {σ : L2.St} {H : Hp} {Q : VK} {K : PySem.W.Frag}
theorem d_makeS {C : Addr} {sp : Sp} {dvs : List V} {E : L2.St → XK} {t : TA} (h : t σ H fun vs H1 => ∀ x dx, H1 x = none → H1 dx = none → dx ≠ x →
  sp (.ref x :: (vs ++ dvs)) (upd (upd H1 dx (.own x)) x (.ins C dx [])) (fun v H2 => v = .non ∧ Q (.ref x) H2) (E σ)) : tMakeS C sp dvs E t σ H Q := h
theorem d_make {C : Addr} {sp : Sp} {dvs : List V} {E : XK} {t : TA} (h : t σ H fun vs H1 => ∀ x dx, H1 x = none → H1 dx = none → dx ≠ x →
  sp (.ref x :: (vs ++ dvs)) (upd (upd H1 dx (.own x)) x (.ins C dx [])) (fun v H2 => v = .non ∧ Q (.ref x) H2) E) : tMake C sp dvs E t σ H Q := h
end
end OQ
namespace OQ
open PySem L2
theorem d_isX {K : PySem.W.Frag} {D a : Addr} {cls : Value} {d : Option Addr} {H : Hp} {Q : VK} {c : V} {cv : Value} {b : Bool} {dd : Addr} {fs : List (Str × V)} (e1 : cls = .ref D) (e2 : d = some dd) (hx : H dd = some (.xd fs)) (hc : ClsV c cv)
    (e : PySem.W.kitOne K (.ref D) cv = some b) (h : Q (.bl b) H) : rIsX K D a cls d [.ref a, c] H Q := ⟨c, cv, b, dd, fs, rfl, e1, e2, hx, hc, e, h⟩
end OQ

/-! ### two tuples of the very same items -/
namespace OQ
open PySem L2 PySem.Spec PyProof.Rows
def SameIt (v : V) : Prop := flatB v = true ∨ ∃ r, v = .ref r
theorem eqAt_it {A : Around} {s : Shared} {v : V} {u u' : Value} (h : SameIt v) (r : RelV v u) (r' : RelV v u') : SeqAt.EqAt A s u u' true := by
  rcases h with h | ⟨a, rfl⟩
  · exact eqAt_same r r' h
  · cases r
    cases r'
    exact SeqAt.EqAt.same _
def rTupS (K : PySem.W.Frag) (ans : Bool) : R2 := fun x y H Q => ∃ a b xs, x = .ref a ∧ y = .ref b ∧ SqT K H a xs ∧ SqT K H b xs ∧ (∀ v ∈ xs, SameIt v) ∧ Q (.bl ans) H
theorem its_same {A : Around} {s : Shared} {xs : List V} {us ws : List Value} (h : ∀ v ∈ xs, SameIt v) (r1 : Vals xs us) (r2 : Vals xs ws) (j : Nat) (h1 : j < us.toArray.size) (h2 : j < ws.toArray.size) :
    SeqAt.EqAt A s us.toArray[j] ws.toArray[j] true := by
  have k1 : j < us.length := by simpa using h1
  have k2 : j < ws.length := by simpa using h2
  have kx : j < xs.length := by rw [r1.length]; exact k1
  obtain ⟨u, hu, ru⟩ := r1.get (List.getElem?_eq_getElem kx)
  obtain ⟨v, hv, rv⟩ := r2.get (List.getElem?_eq_getElem kx)
  rw [List.getElem?_eq_getElem k1] at hu
  rw [List.getElem?_eq_getElem k2] at hv
  have e1 : us.toArray[j] = u := by simpa using Option.some.inj hu
  have e2 : ws.toArray[j] = v := by simpa using Option.some.inj hv
  rw [e1, e2]
  exact eqAt_it (h _ (List.getElem_mem kx)) ru rv
theorem op_neTS {X : Cx} (hu : X.A.units < cLine) : OpR X (compareOp .NotEq) (rTupS X.K false) := by
  rintro pins s σ H x y v u Q I rx ry ⟨a, b, xs, rfl, rfl, ha, hb, hs, q⟩
  cases rx
  cases ry
  obtain ⟨us, r1, p1, _⟩ := I.tuple ha
  obtain ⟨ws, r2, p2, _⟩ := I.tuple hb
  have e := SeqAt.RcNeAt.tuples (e := fun _ => true) p1 p2 hu (fun j h1 h2 => its_same hs r1 r2 j h1 h2)
  refine e X.prog X.w X.xe _ ?_
  have sz : us.toArray.size = ws.toArray.size := by rw [List.size_toArray, List.size_toArray, ← r1.length, ← r2.length]
  have all : (!((List.range (min us.toArray.size ws.toArray.size)).all (fun _ => true) && us.toArray.size == ws.toArray.size)) = false := by rw [sz]; simp
  rw [all]
  exact ⟨.bl false, H, I, rfl, q⟩
section
variable {X : Cx} {CX : CXT} {C f : Addr} {fd : FuncData} {ps : List Str} {sp : Sp} {k : Nat} {ds : List Value} {dvs : List V} {E : L2.St → XK}
/-- o.m(e, ..), what is raised wished for at the slots -/
def tMethS (C : Addr) (m : Str) (sp : Sp) (dvs : List V) (E : L2.St → XK) (ta : TE) (t : TA) : TE := fun σ H Q => ta σ H fun x H1 => ∃ a dx fs, x = .ref a ∧ H1 a = some (.ins C dx fs) ∧ fs.lookup m = none ∧
  t σ H1 fun vs H2 => sp (x :: (vs ++ dvs)) H2 Q (E σ)
theorem d_methS {m : Str} {ta : TE} {t : TA} {σ : L2.St} {H : Hp} {Q : VK} (h : ta σ H fun x H1 => ∃ a dx fs, x = .ref a ∧ H1 a = some (.ins C dx fs) ∧ fs.lookup m = none ∧ t σ H1 fun vs H2 => sp (x :: (vs ++ dvs)) H2 Q (E σ)) :
    tMethS C m sp dvs E ta t σ H Q := h
theorem d_meth {E : XK} {m : Str} {ta : TE} {t : TA} {σ : L2.St} {H : Hp} {Q : VK} (h : ta σ H fun x H1 => ∃ a dx fs, x = .ref a ∧ H1 a = some (.ins C dx fs) ∧ fs.lookup m = none ∧ t σ H1 fun vs H2 => sp (x :: (vs ++ dvs)) H2 Q E) :
    tMeth C m sp dvs E ta t σ H Q := h
theorem pe_methX {o e : Expr} {m : Str} {es : List Expr} {ta : TE} {t : TA} {apos pos : Pos} {pl : Sem Bool} (he : PE X o ta) (c : Cls X.K C) (hm : Meth X.K C m f) (F : FnOk X.prog X.w X.K X.mg X.base CX k f fd ps sp) (hr : Room k X.A)
    (hb : Binds X.K fd ps ds) (hd : Vals dvs ds) (hx : ∀ σ, PassesAt CX X σ (E σ)) (ha : PA X (e :: es) t)
    (hst : starEach (e :: es) X.env = (false, eval e X.env) :: starEach es X.env := by rfl) (hpl : (backTo pos (starEach es X.env)).any (·.1) = false := by rfl)
    (ht : eval (.Call (.Attribute o m apos) (e :: es) [] pos) X.env = (eval o X.env >>= fun ov => standAt apos.atName >>= fun _ => holding [ov] (getMethod ov m pl) >>= fun z =>
      callWith pos z.1 z.2 (backTo pos (starEach (e :: es) X.env)) (backToKw pos (keywordEach [] X.env))) := by rfl) :
    PE X (.Call (.Attribute o m apos) (e :: es) [] pos) (tMethS C m sp dvs E ta t) := by
  refine ⟨fun pins s σ H Q I h => ?_⟩
  refine PySem.W.methodCall_KW (pl := pl) (thn (he.run pins s σ H _ I h) ?_) ht
  rintro u s1 ⟨x, H1, I1, rx, a, dx, fs, rfl, ea, l, q⟩
  cases rx
  refine getmeth_ok I1 ea c hm l ?_
  refine PySem.W.callWith_K (first := [.ref a]) (h₀ := X.base) I.ok.mod.kin hm.kp (thn (ha.run pos pins s1 σ H1 _ I1 q) ?_) hst hpl
  rintro us s2 ⟨vs, H2, I2, r, q2⟩
  exact ⟨I2.kIn, run_fnSD (us := Value.ref a :: us) (vs := V.ref a :: vs) F hr hb hd (hx σ) I2 (.cons rfl r) q2⟩
end
end OQ

/-! ### own errors as values: made, their fields read, isinstance of them -/
namespace OQ
open PySem L2 PySem.Spec PyProof.Rows
section
variable {X : Cx} {CX : CXT} {x n : Str} {C fI : Addr} {k : Nat} {fd : FuncData} {ps : List Str} {sp : Sp} {ds : List Value} {dvs : List V} {p pos : Pos} {e : Expr} {es : List Expr} {ta : TA} {te : TE} {E : XK}
/-- C(e, ..), C an own error: it stands as it was made -/
def tMkV (C : Addr) (sp : Sp) (dvs : List V) (E : XK) (ta : TA) : TE := fun σ H Q => ta σ H fun vs H1 => ∀ a, H1 a = none → sp (.ref a :: (vs ++ dvs)) (upd H1 a (exo a C none)) (fun v H2 => v = .non ∧ Q (.ref a) H2) E
/-- a new error: its place, and the state with it -/
theorem newErr {pins : List (Addr × Obj)} {st : Shared} {σ : L2.St} {H : Hp} (us : List Value) (D : Addr) (J : Inv X pins σ H st) :
    H (st.heap.objs.size + 1) = none ∧ Inv X pins σ (upd H (st.heap.objs.size + 1) (exo (st.heap.objs.size + 1) D none)) { st with heap := (st.heap.push (PySem.W.kdv_tup us)).push (PySem.HandSPX.excO D st.heap.objs.size) } := by
  have le := Nat.le_succ st.heap.objs.size
  refine ⟨J.hok.fresh le, J.laid (t' := st.toks) (fun _ _ z => Heap.get?_push_of_some _ (Heap.get?_push_of_some _ z)) le (exo_ok (t1 := st.heap.objs.size) ?_)⟩
  have z := Heap.get?_push_size (h := st.heap.push (PySem.W.kdv_tup us)) (o := PySem.HandSPX.excO D st.heap.objs.size) rfl
  have y : (st.heap.push (PySem.W.kdv_tup us)).objs.size = st.heap.objs.size + 1 := by simp [Heap.push]
  rw [y] at z
  exact z
theorem run_mkV {pins : List (Addr × Obj)} {st : Shared} {σ : L2.St} {H1 : Hp} {Q : VK} {vs : List V} {us : List Value} (T : OexC X.K C) (iC : PySem.W.findIn X.K (.ref C) "__init__" = some (some (.ref fI))) (tI : PySem.W.typeIn X.K (.ref fI) = some (.type "function"))
    (F1 : FnOk X.prog X.w X.K X.mg X.base CX k fI fd ps sp) (hr : Room (k + 1) X.A) (hb : Binds X.K fd ps ds) (hd : Vals dvs ds) (hx : Passes CX X E) (few : ps.length ≤ 100) (J : Inv X pins σ H1 st) (rv : Vals vs us)
    (wish : ∀ a, H1 a = none → sp (.ref a :: (vs ++ dvs)) (upd H1 a (exo a C none)) (fun v H2 => v = .non ∧ Q (.ref a) H2) E) : wpAny (model X.prog X.w) X.A (call (.ref C) us) (EP X pins σ Q) X.xe st := by
  obtain ⟨free, J2⟩ := newErr us C J
  have asked := wish _ free
  have all : Vals (V.ref (st.heap.objs.size + 1) :: (vs ++ dvs)) (Value.ref (st.heap.objs.size + 1) :: (us ++ ds)) := .cons rfl (rv.append hd)
  have many : (Value.ref (st.heap.objs.size + 1) :: us ++ ds).length = ps.length := (all.length.symm).trans (F1.len _ _ _ _ asked)
  have short : us.length ≤ sizeLine := by
    have q : (Value.ref (st.heap.objs.size + 1) :: us ++ ds).length ≤ 100 := many ▸ few
    simp only [List.cons_append, List.length_cons, List.length_append] at q
    exact Nat.le_trans (show us.length ≤ 100 by omega) (by decide)
  have body := F1.run _ X.stack _ _ ⟨Value.ref (st.heap.objs.size + 1) :: us, []⟩ _ _ _ E (hr.make C us []) (J2.env0.make C us []) (hb _ (_ :: us) J2.kIn many) all asked
  obtain ⟨_, _, _, _, bm, _, _, _, _, _, _, _, _, _, _, look, good⟩ := T.cls
  refine wpAny_call (PySem.HandSPX.call_own F.excBase_ValueError (fun _ => PySem.HandSPX.refsVE_contains _ bm good) (J.kIn _ _ look) (PySem.W.looks_findIn J.kIn iC) (fun v => PySem.W.bind_fn J.kIn v tI) short (codeAny_mono body ?_))
  rintro (er | fl) s2 post
  · exact hx pins σ _ _ er s2 J2 post
  · match fl, post with
    | .ret u, post =>
      obtain ⟨v, H2, J3, ru, e, q⟩ := J2.after post
      subst e
      exact ⟨ru, V.ref (st.heap.objs.size + 1), H2, J3, rfl, q⟩
theorem pe_mkV (T : OexC X.K C) (iC : PySem.W.findIn X.K (.ref C) "__init__" = some (some (.ref fI))) (tI : PySem.W.typeIn X.K (.ref fI) = some (.type "function"))
    (F1 : FnOk X.prog X.w X.K X.mg X.base CX k fI fd ps sp) (hr : Room (k + 1) X.A) (hb : Binds X.K fd ps ds) (hd : Vals dvs ds) (hx : Passes CX X E) (hsz : ps.length ≤ 100) (hg : Gl X x) (hm : X.mg x = some (.ref C)) (ha : PA X (e :: es) ta)
    (hdb : (x == ("__debug__" : Str)) = false := by decide) (he : starEach (e :: es) X.env = (false, eval e X.env) :: starEach es X.env := by rfl) (hpl : (backTo pos (starEach es X.env)).any (·.1) = false := by rfl) :
    PE X (.Call (.Name x p) (e :: es) [] pos) (tMkV C sp dvs E ta) := by
  refine ⟨fun pins s σ H Q I h => ?_⟩
  refine wpAny_Call_Name_kw (ld_glob I hg hm ?_ hdb)
  refine PySem.W.callWith_K (h₀ := X.base) I.ok.mod.kin T.kC (thn (ha.run pos pins s σ H _ I h) fun us s1 ⟨vs, H1, I1, r1, q1⟩ => ⟨I1.kIn, ?_⟩) he hpl
  exact run_mkV T iC tI F1 hr hb hd hx hsz I1 r1 q1
theorem pe_mkV0 (T : OexC X.K C) (iC : PySem.W.findIn X.K (.ref C) "__init__" = some (some (.ref fI))) (tI : PySem.W.typeIn X.K (.ref fI) = some (.type "function"))
    (F1 : FnOk X.prog X.w X.K X.mg X.base CX k fI fd ps sp) (hr : Room (k + 1) X.A) (hb : Binds X.K fd ps ds) (hd : Vals dvs ds) (hx : Passes CX X E) (hsz : ps.length ≤ 100) (hg : Gl X x) (hm : X.mg x = some (.ref C))
    (hdb : (x == ("__debug__" : Str)) = false := by decide) : PE X (.Call (.Name x p) [] [] pos) (tMkV C sp dvs E tNil) := by
  refine ⟨fun pins s σ H Q I h => ?_⟩
  refine wpAny_Call_Name_kw (ld_glob I hg hm ?_ hdb)
  exact PySem.W.callWith_K0 I.kIn T.kC (run_mkV (us := []) (vs := []) T iC tI F1 hr hb hd hx hsz I .nil h)
/-- an own error at a, with its fields -/
def ErrAt (H : Hp) (a C : Addr) (fs : List (Str × V)) : Prop := ∃ d, H a = some (exo a C (some d)) ∧ H d = some (exd d fs)
theorem errInst {pins : List (Addr × Obj)} {s : Shared} {σ : L2.St} {H : Hp} {a : Addr} {fs : List (Str × V)} (I : Inv X pins σ H s) (h : ErrAt H a C fs) :
    ∃ (oe : Obj) (od : Obj) (mA : Str → Option Value), PySem.W.InstAt s.heap a oe C (some od) ∧ (∀ f, RelO (fs.lookup f) (mA f)) ∧ ∀ n, PySem.W.lookIn n od = some (mA n) := by
  obtain ⟨d, e1, e2⟩ := h
  obtain ⟨t1, ho⟩ := exo_at I.hok e1
  obtain ⟨mA, hns, rel⟩ := exd_at I.hok e2
  obtain ⟨od, hd, hl⟩ := lookIn_ns hns
  exact ⟨_, od, mA, ⟨ho, rfl, rfl, hd⟩, rel, hl⟩
/-- e.f -/
def tVf (K : PySem.W.Frag) (n : Str) (te : TE) : TE := fun σ H Q => te σ H fun x H1 => ∃ (a C : Addr) (fs : List (Str × V)) (v : V), x = .ref a ∧ ErrAt H1 a C fs ∧ XfC K C ∧ PySem.W.findIn K (.ref C) n = some none ∧ fs.lookup n = some v ∧ Q v H1
theorem pe_vf (he : PE X e te) (hb : attributeBase e n X.env (eval e X.env) = eval e X.env := by rfl) : PE X (.Attribute e n pos) (tVf X.K n te) := by
  refine ⟨fun pins s σ H Q I h => ?_⟩
  refine attr_of hb (thn (he.run pins s σ H _ I h) fun u s1 hh => ?_)
  obtain ⟨x, H1, I1, rx, a, D, fs, v, ex, er, T, hno, l, q⟩ := hh
  subst ex
  obtain rfl : u = Value.ref a := rx
  obtain ⟨oe, od, mA, J, hr, hl⟩ := errInst I1 er
  obtain ⟨u, hu, ru⟩ := RelO.some_of (v := v) (o := mA n) (by rw [← l]; exact hr n)
  exact HandSPX.exc_get I1.kIn J T.ga T.gg T.exC (PySem.W.findObj_own T.hdC hno rfl (by rw [hl, hu])) (handed_of ru) ⟨v, H1, I1.tok _, ru, q⟩
/-- isinstance(x, c), x such an error -/
def rIsV (K : PySem.W.Frag) : List V → Hp → VK → Prop := fun xs H Q => ∃ (a D : Addr) (fs : List (Str × V)) (c : V) (cv : Value) (b : Bool), xs = [.ref a, c] ∧ ErrAt H a D fs ∧ ExcC K D ∧ ClsV c cv ∧ PySem.W.kitOne K (.ref D) cv = some b ∧ Q (.bl b) H
theorem call_isV : CallR X (.builtin "isinstance") (rIsV X.K) := by
  rintro pins s σ H xs us Q I r ⟨a, D, fs, c, cv, b, rfl, er, C, hc, e, q⟩
  cases r with
  | cons rx rr => cases rr with
    | cons rt rr =>
      cases rr
      cases rx
      have ec := hc.eq rt
      subst ec
      obtain ⟨oe, od, mA, J, _, _⟩ := errInst I er
      have hcl : (PySem.W.clsIn X.K D).isSome = true := by
        obtain ⟨cd, h1, _⟩ := PySem.W.any_some C.hd
        rw [h1]; rfl
      exact PySem.W.kia_one (PySem.W.kitx_exc hcl C.hg C.hk C.hs C.ha C.hn C.ht C.hm) I.kIn J e (fun z => Value.noConfusion z) fun tk => ⟨.bl b, H, I.kept (t' := tk) fun _ _ z => z, rfl, q⟩
end
end OQ

/-! ### own errors: what is known of their classes -/
namespace OQ
open PySem L2 PySem.Spec PyProof.Rows
structure ErC (K : PySem.W.Frag) (W fI C : Addr) : Prop where
  oex : OexC K C
  ini : PySem.W.findIn K (.ref C) "__init__" = some (some (.ref fI))
  va : PySem.W.findIn K (.ref C) "value" = some none
  xf : XfC K C
  exi : ExcC K C
  mro : ∃ cd, PySem.W.clsIn K C = some cd ∧ cd.mro = [.ref C, .ref W, .type "ValueError", .type "Exception", .type "BaseException", .type "object"]
theorem kit_er {K : PySem.W.Frag} {W f g C D : Addr} (a : ErC K W f C) (b : ErC K W g D) (n : D ≠ W) : PySem.W.kitOne K (.ref C) (.ref D) = some (decide (C = D)) := by
  by_cases h : C = D
  · subst h
    unfold PySem.W.kitOne
    rw [if_pos (by simp), decide_eq_true rfl]
  · have hb : ((Value.ref C : Value) == Value.ref D) = false := Bool.eq_false_iff.mpr fun q => h (by cases beq_iff_eq.mp q; rfl)
    unfold PySem.W.kitOne
    rw [if_neg (by rw [hb]; decide), decide_eq_false h]
    obtain ⟨cd, e1, _⟩ := b.mro
    obtain ⟨cc, e2, e3⟩ := a.mro
    have t : ((PySem.W.clsIn K D).isSome && PySem.W.typeIn K (.ref D) == some (.type "type")) = true := by rw [e1, b.oex.tyC] <;> rfl
    show (if ((PySem.W.clsIn K D).isSome && PySem.W.typeIn K (.ref D) == some (.type "type")) = true then PySem.W.mroIn K C (.ref D) else none) = some false
    rw [if_pos t]
    unfold PySem.W.mroIn
    rw [e2]
    show (if cc.mro.isEmpty = true then none else some (cc.mro.contains (.ref D))) = some false
    rw [e3, if_neg (by simp)]
    congr 1
    refine Bool.eq_false_iff.mpr fun q => ?_
    have m := List.contains_iff_mem.mp q
    simp only [List.mem_cons, List.not_mem_nil, or_false] at m
    rcases m with m | m | m | m | m | m
    · cases m; exact h rfl
    · cases m; exact n rfl
    all_goals cases m
end OQ

/-! ### C.f(..), C an own class of the text: the def itself -/
namespace OQ
open PySem L2 PySem.Spec PyProof.Rows
/-- C.f read off the class: the def at g -/
structure CDef (K : PySem.W.Frag) (C g : Addr) (n : Str) : Prop where
  rd : PySem.W.readsIn K C (.type "type") = true
  ga : PySem.W.specialIn K (.ref C) "__getattribute__" = some (some (.builtin "type.__getattribute__"))
  val : PySem.W.findCls K (.ref C) (.type "type") n = some (.val (.ref g))
  kp : PySem.W.keepIn K (.ref g) = true
section
variable {X : Cx} {CX : CXT} {n : Str} {C g : Addr} {k : Nat} {fd : FuncData} {ps : List Str} {sp : Sp} {o e : Expr} {es : List Expr} {to : TE} {t : TA} {E : XK} {pos apos : Pos} {pl : Sem Bool}
def tCDef (C : Addr) (sp : Sp) (E : XK) (to : TE) (t : TA) : TE := fun σ H Q => to σ H fun x H1 => x = .ref C ∧ t σ H1 fun vs H2 => sp vs H2 Q E
theorem pe_cdef (ho : PE X o to) (c : CDef X.K C g n) (F : FnOk X.prog X.w X.K X.mg X.base CX k g fd ps sp) (hr : Room k X.A) (hb : Binds X.K fd ps []) (hx : Passes CX X E) (ha : PA X (e :: es) t)
    (ht : eval (.Call (.Attribute o n apos) (e :: es) [] pos) X.env = (do
      let ov ← eval o X.env
      standAt apos.atName
      let (f, first) ← holding [ov] (getMethod ov n pl)
      callWith pos f first (backTo pos (starEach (e :: es) X.env)) (backToKw pos (keywordEach [] X.env))) := by rfl)
    (he : starEach (e :: es) X.env = (false, eval e X.env) :: starEach es X.env := by rfl) (hpl : (backTo pos (starEach es X.env)).any (·.1) = false := by rfl) :
    PE X (.Call (.Attribute o n apos) (e :: es) [] pos) (tCDef C sp E to t) := by
  refine ⟨fun pins s σ H Q I h => ?_⟩
  refine PySem.W.methodCall_KW (pl := pl) (thn (ho.run pins s σ H _ I h) fun u s1 ⟨x, H1, I1, rx, ex, q⟩ => ?_) ht
  subst ex
  obtain rfl : u = Value.ref C := rx
  refine PySem.W.method_cls I1.kIn c.ga (PySem.W.cls_value I1.kIn c.rd c.val rfl ?_)
  show wpAny _ _ (callWith pos (Value.ref g) [] (backTo pos (starEach (e :: es) X.env)) []) _ _ _
  refine PySem.W.callWith_K (h₀ := X.base) I1.ok.mod.kin c.kp (thn (ha.run pos pins _ σ H1 _ (I1.tok _) q) fun us s2 ⟨vs, H2, I2, rv, q2⟩ => ⟨I2.kIn, ?_⟩) he hpl
  exact run_at (A := X.A) rfl hr F hb hx I2 rv q2
end
end OQ

/-! ### try with clauses `except C as n`, as many as there are -/
namespace OQ
open PySem L2 PySem.Spec PyProof.Rows
/-- a clause: its class, the slot of its name, what its suite does -/
structure Cl where
  cl : Value
  sl : Nat
  su : Addr → Value → Option Addr → TS
/-- the ends of a suite whose name, in slot i, goes behind it -/
def Drop (i : Nat) (D : Ends) : Ends :=
  { nx := fun τ G => D.nx (τ.set i none) G, rt := D.rt, bk := fun τ G => D.bk (τ.set i none) G, ct := fun τ G => D.ct (τ.set i none) G }
/-- what clauses wish of an error: the first one of its class serves -/
def wCls (K : PySem.W.Frag) (W : WX) (D : Ends) : List Cl → WX
  | [] => W
  | k :: r => fun C d τ G => (PySem.W.exmOne K C k.cl = some true ∧ ∀ e, G e = none → k.su e C d (Drop k.sl D) (τ.set k.sl (some (.ref e))) G) ∨ (PySem.W.exmOne K C k.cl = some false ∧ wCls K W D r C d τ G)
/-- clauses as they stand in the text -/
inductive Cls (X : Cx) : List ExceptHandler → List Cl → Prop
  | nil : Cls X [] []
  | cons {x n : Str} {p q : Pos} {b : Stmt} {bs : List Stmt} {r : List ExceptHandler} {ks : List Cl} (k : Cl) (slot : X.N[k.sl]? = some n) (own : X.env.kindOf n = some .local) (named : Names X x k.cl)
      (suite : ∀ (e : Addr) (o : Obj) (C : Value) (d : Option Addr) (pn : List (Addr × Obj)), Zc C d o → (∃ vs, o.data = .fields vs) → PSs (X.suite e ((e, o) :: pn)) (b :: bs) (k.su e C d)) (rest : Cls X r ks) :
      Cls X (.ExceptHandler (some (.Name x p)) (some n) (b :: bs) q :: r) (k :: ks)
/-- an error that came down in this frame -/
structure Got (X : Cx) (pins : List (Addr × Obj)) (e : Addr) (C : Value) (d : Option Addr) (τ : L2.St) (G : Hp) (B : Heap) (t : Shared) : Prop where
  ok : X.Ok
  fly : HandSPX.FlyingZ B (X.env :: X.outer) e (Zc C d) t.heap
  inv : ∀ g, B.StaysIn g → t.heap.UpToSlots g → Inv X pins τ G { t with heap := g }
  new : G e = none
  off : ∀ W, Takes X W → W C d τ G → ∀ g, t.heap.UpToSlots g → HandSPX.HeldZ B (X.env :: X.outer) e (Zc C d) X.env.locals g → X.xe (.ref e) { t with heap := g }
section
variable {X : Cx} {pins : List (Addr × Obj)} {e : Addr} {C : Value} {d : Option Addr} {τ : L2.St} {G : Hp} {B : Heap} {t : Shared} {D : Ends}
theorem Got.at (hf : X.env.frame = some X.env.locals) (g : Got X pins e C d τ G B t) : ∃ o, t.heap.get? e = some o ∧ Zc C d o ∧ (∃ vs, o.data = .fields vs) ∧ Inv (X.suite e ((e, o) :: (X.pn ++ pins))) [] τ G t := by
  obtain ⟨o, vs, there, zz, flds⟩ := g.fly.there
  have away : ∀ l : List Env, (∀ v ∈ l, v ∈ X.env :: X.outer) → e ∉ l.filterMap (·.frame) := fun l hl m => by
    obtain ⟨v, hv, fv⟩ := List.mem_filterMap.mp m
    have : e ∈ frs (X.env :: X.outer) := List.mem_filterMap.mpr ⟨v, hl v hv, fv⟩
    obtain ⟨_, o', at', no⟩ := (g.fly.2.2.1).mem this
    exact no vs (by rw [there] at at'; cases at'; exact flds)
  refine ⟨o, there, zz, ⟨vs, flds⟩, (g.inv _ g.fly.1 (Heap.UpToSlots.refl _)).suite there flds g.new (fun z => ?_) (fun m => ?_)⟩
  · exact away [X.env] (fun v hv => by rw [List.mem_singleton.mp hv]; exact List.mem_cons_self) (List.mem_filterMap.mpr ⟨X.env, List.mem_singleton.mpr rfl, by rw [hf, z]⟩)
  · exact away X.outer (fun v hv => List.mem_cons_of_mem _ hv) m
/-- no clause is left: it goes on -/
theorem Got.on (hf : X.env.frame = some X.env.locals) (g : Got X pins e C d τ G B t) {W : WX} (tk : Takes X W) (w : W C d τ G) {Q : Flow → Shared → Prop} :
    wpAny (model X.prog X.w) X.A (handleBy (.ref e) X.env []) Q X.xe t := by
  refine wpAny_handleBy_nil ?_
  have leave : wpAny (model X.prog X.w) X.A (setFlight (.ref e) X.env.frame) (fun _ t2 => wpAny (model X.prog X.w) X.A (throw (.ref e) : Sem Flow) Q X.xe t2) X.xe t := by
    rw [hf]
    exact HandSPX.setFlight_upZ g.fly fun g2 held up2 => wpAny_throw (g.off W tk w g2 up2 held)
  obtain ⟨_, _, _, o, vs, tr, _, _, there, _, flds, fst, _⟩ := id g.fly
  unfold PySem.passOn
  refine wpAny_bind (wpAny_field there flds fst ?_)
  rw [if_neg (show ¬ ((Value.ref tr == Value.none) = true) by simp)]
  first
    | exact wpAny_bind (wpAny_pure (wpAny_bind leave))
    | exact wpAny_bind leave
theorem Got.handled (hf : X.env.frame = some X.env.locals) (hN : X.N.Nodup) (g : Got X pins e C d τ G B t) {W : WX} (tk : Takes X W) {hs : List ExceptHandler} {ks : List Cl} (c : Cls X hs ks) :
    wCls X.K W D ks C d τ G → wpAny (model X.prog X.w) X.A (handleBy (.ref e) X.env hs) (SP X pins D) X.xe t := by
  induction c with
  | nil => exact fun w => g.on hf tk w
  | @cons x n p q b bs r ks k slot own named suite rest ih =>
    intro w
    obtain ⟨o, there, zz, flds, S⟩ := g.at hf
    refine wpAny_handleBy_cons (codeAny_handlers_test ?_) (fun z => Value.noConfusion z)
    have cls : PySem.W.Looks (model X.prog X.w) t.heap (typeOf (.ref e)) C := fun _ _ _ s' keeps z => wpAny_typeOf_ref (keeps _ _ there) (by rw [zz.1]; exact z)
    have name : ∀ {Q E : Value → Shared → Prop}, Q k.cl t → wpAny (model X.prog X.w) (X.A.mark (some (.ref e))) (eval (.Name x p) X.env) Q E t := by
      intro Q E z
      rcases named with ⟨gl, nd, here | ⟨no, built, nn⟩⟩
      · exact ld_glob (X := X.suite e ((e, o) :: (X.pn ++ pins))) S gl here z nd
      · exact ld_blt (X := X.suite e ((e, o) :: (X.pn ++ pins))) S gl no built z nn nd
    rcases w with ⟨yes, go⟩ | ⟨no, go⟩
    · refine name ((PySem.W.exm_one (M := model X.prog X.w) S.kIn cls yes).here ?_)
      refine codeAny_handlers_suite_as (HandSPX.lands_againZ g.fly fun h2 fly2 up2 => ?_)
      have g2 : Got X pins e C d τ G B { t with heap := h2 } := ⟨g.ok, fly2, fun h3 st up3 => g.inv h3 st (up2.trans up3), g.new, fun W tk w h3 up3 held => g.off W tk w h3 (up2.trans up3) held⟩
      obtain ⟨o2, _, zz2, flds2, S2⟩ := g2.at hf
      refine store_ok (X := X.suite e ((e, o2) :: (X.pn ++ pins))) (v := V.ref e) S2 hN slot (.inl own) rfl (fun t3 S3 => ?_) (.inr own)
      refine wpAny_mono ((suite e o2 C d (X.pn ++ pins) zz2 flds2).run [] t3 _ G _ S3 (go e g.new)) (fun f t4 done => ?_) (fun _ _ z => z.elim)
      rcases f with _ | _ | _ | u
      · obtain ⟨τ4, G4, S4, z⟩ := done
        exact gone_ok (S4.unsuite g.ok) hN slot own fun t5 S5 => ⟨_, G4, S5, z⟩
      · obtain ⟨τ4, G4, S4, z⟩ := done
        exact gone_ok (S4.unsuite g.ok) hN slot own fun t5 S5 => ⟨_, G4, S5, z⟩
      · obtain ⟨τ4, G4, S4, z⟩ := done
        exact gone_ok (S4.unsuite g.ok) hN slot own fun t5 S5 => ⟨_, G4, S5, z⟩
      · obtain ⟨v, τ4, G4, S4, rv, z⟩ := done
        exact gone_ok (S4.unsuite g.ok) hN slot own fun t5 S5 => ⟨v, _, G4, S5, rv, z⟩
    · refine name ((PySem.W.exm_one (M := model X.prog X.w) S.kIn cls no).here ?_)
      exact ih go
end
section
variable {X : Cx} {body : List Stmt} {h₀ : ExceptHandler} {hs : List ExceptHandler} {ks : List Cl} {pos : Pos} {tb : WX → TS} {W : WX}
theorem ps_try_cls (st : X.stack = X.env :: X.outer) (hf : X.env.frame = some X.env.locals) (hN : X.N.Nodup) (tk : Takes X W)
    (hb : ∀ (W : WX) (pn : List (Addr × Obj)) (xe : Value → Shared → Prop), Takes (X.tr pn xe) W → PassesOwn (model X.prog X.w) X.A X.env xe → PSs (X.tr pn xe) body (tb W))
    (c : Cls X (h₀ :: hs) ks) : PS X (.Try body (h₀ :: hs) [] [] pos) (fun D σ H => tb (wCls X.K W D ks) D σ H) := by
  refine ⟨fun pins s σ H D I asked => ?_⟩
  let down : Value → Shared → Prop := fun e t => wpAny (model X.prog X.w) X.A (noteFrame e X.env) (fun _ t2 => wpAny (model X.prog X.w) X.A (setFlight e none) (fun _ t3 => wpAny (model X.prog X.w) X.A (handleBy e X.env (h₀ :: hs)) (SP X pins D) X.xe t3) X.xe t2) X.xe t
  have took : Takes (X.tr (X.pn ++ pins) down) (wCls X.K W D ks) := by
    rintro _ t ⟨e, B, t0, pins', τ, G, C, d, rfl, J', apart, up, sky, new, os, bare, w⟩
    have J : Inv X pins τ G t0 := J'.ofTry I.ok
    have sky2 : Sky B (X.env :: X.outer) e (Zc C d) X.env.locals t.heap := st ▸ sky
    refine Sky.land Zc.steady (by rw [I.ok.frames, st]) hf sky2 fun h2 fly up2 => ?_
    refine Got.handled (B := B) (t := { t with heap := h2 }) hf hN ⟨I.ok, fly, fun g kept up3 => J.landed apart kept ((up.trans up2).trans up3) os bare, new, fun V tv v g up3 held => tv _ _ ?_⟩ tk c w
    exact ⟨e, B, t0, pins, τ, G, C, d, rfl, J, apart, (up.trans up2).trans up3, .inr (.inr (st.symm ▸ held)), new, os, bare, v⟩
  refine wpAny_Try_except (wpAny_mono ((hb _ _ down took PassesOwn.looking).run [] s σ H D (I.toTry down) asked) (fun f t done => ?_) (fun _ _ z => z))
  rcases f with _ | _ | _ | u
  · obtain ⟨τ, G, J, z⟩ := done
    exact wpAny_execs_nil ⟨τ, G, J.ofTry I.ok, z⟩
  · obtain ⟨τ, G, J, z⟩ := done
    exact ⟨τ, G, J.ofTry I.ok, z⟩
  · obtain ⟨τ, G, J, z⟩ := done
    exact ⟨τ, G, J.ofTry I.ok, z⟩
  · obtain ⟨v, τ, G, J, rv, z⟩ := done
    exact ⟨v, τ, G, J.ofTry I.ok, rv, z⟩
end
end OQ

/-! ### raising without an argument, a caught error's field, == of lists of tuples -/
namespace OQ
open PySem L2 PySem.Spec PyProof.Rows
section
variable {X : Cx} {CX : CXT} {x : Str} {C fI : Addr} {k : Nat} {fd : FuncData} {ps : List Str} {sp : Sp} {ds : List Value} {dvs : List V} {p pos : Pos}
/-- C(), C an own error whose __init__ sets a field -/
theorem pmk_mk0 (T : OexC X.K C) (iC : PySem.W.findIn X.K (.ref C) "__init__" = some (some (.ref fI))) (tI : PySem.W.typeIn X.K (.ref fI) = some (.type "function"))
    (F1 : FnOk X.prog X.w X.K X.mg X.base CX k fI fd ps sp) (hr : Room (k + 1) X.A) (hb : Binds X.K fd ps ds) (hd : Vals dvs ds) (hx : Passes CX X (fun _ _ _ => False)) (hg : Gl X x) (hm : X.mg x = some (.ref C))
    (hdb : (x == ("__debug__" : Str)) = false := by decide) : PMk X (.Call (.Name x p) [] [] pos) (tMkO C sp dvs tNil) := by
  intro pins s σ H Q I asked
  refine wpAny_Call_Name_kw (ld_glob I hg hm ?_ hdb)
  refine PySem.W.callWith_K0 I.kIn T.kC ?_
  obtain ⟨free, J⟩ := newErr (X := X) [] C I
  have wish := asked.2 _ free
  have all : Vals (V.ref (s.heap.objs.size + 1) :: ([] ++ dvs)) (Value.ref (s.heap.objs.size + 1) :: ([] ++ ds)) := .cons rfl hd
  have many : (Value.ref (s.heap.objs.size + 1) :: [] ++ ds).length = ps.length := (all.length.symm).trans (F1.len _ _ _ _ wish)
  have body := F1.run _ X.stack _ _ ⟨[Value.ref (s.heap.objs.size + 1)], []⟩ _ _ _ (fun _ _ _ => False) (hr.make C [] []) (J.env0.make C [] []) (hb _ [_] J.kIn many) all wish
  obtain ⟨_, _, _, _, bm, _, _, _, _, _, _, _, _, _, _, look, good⟩ := T.cls
  refine wpAny_call (PySem.HandSPX.call_own F.excBase_ValueError (fun _ => PySem.HandSPX.refsVE_contains _ bm good) (I.kIn _ _ look) (PySem.W.looks_findIn I.kIn iC) (fun v => PySem.W.bind_fn I.kIn v tI) (by decide) (codeAny_mono body ?_))
  rintro (er | fl) s2 post
  · exact hx pins σ _ _ er s2 J post
  · match fl, post with
    | .ret u, ⟨v, H2, os2, bare2, un2, hok2, rv, ev, d, fs, ea, ed, hd1, q2⟩ =>
      subst ev
      exact ⟨rv, mk_end (raises_own T.exC T.tyC) I (Nat.le_succ _) (fun _ _ z => Heap.get?_push_of_some _ (Heap.get?_push_of_some _ z)) un2 hok2 os2 bare2 ea ed hd1 q2⟩
end
section
variable {X : Cx} {a : Addr} {oe : Obj} {cls : Value} {d : Option Addr} {pn : List (Addr × Obj)} {e : Expr} {te : TE} {pos : Pos} {n : Str}
/-- e.n, e the error that the suite holds, of whatever own class -/
def tXe (K : PySem.W.Frag) (a : Addr) (cls : Value) (d : Option Addr) (n : Str) (te : TE) : TE := fun σ H Q => ∃ C, XfC K C ∧ PySem.W.findIn K (.ref C) n = some none ∧ tXf a cls d C n te σ H Q
theorem pe_xe (hz : Zc cls d oe) (hf : ∃ vs, oe.data = .fields vs) (he : PE (X.suite a ((a, oe) :: pn)) e te) (hb : attributeBase e n X.env (eval e X.env) = eval e X.env := by rfl) :
    PE (X.suite a ((a, oe) :: pn)) (.Attribute e n pos) (tXe X.K a cls d n te) :=
  ⟨fun pins s σ H Q I ⟨_, T, hno, w⟩ => (pe_xf T hno hz hf he hb).run pins s σ H Q I w⟩
end
section
variable {X : Cx}
/-- one rule or the other -/
theorem op_either {o : Value → Value → Sem Value} {r r' : R2} (h : OpR X o r) (h' : OpR X o r') : OpR X o (fun x y H Q => r x y H Q ∨ r' x y H Q) := fun pins s σ H x y v u Q I rx ry w =>
  w.elim (h pins s σ H x y v u Q I rx ry) (h' pins s σ H x y v u Q I rx ry)
/-- two tuples of the very same items -/
def TwinT (K : PySem.W.Frag) (H : Hp) (x y : V) : Prop := ∃ a b zs, x = .ref a ∧ y = .ref b ∧ SqT K H a zs ∧ SqT K H b zs ∧ ∀ v ∈ zs, SameIt v
def rEqTw (K : PySem.W.Frag) : R2 := fun x y H Q => ∃ a b xs ys, x = .ref a ∧ y = .ref b ∧ SqL K H a xs ∧ SqL K H b ys ∧ Paired (TwinT K H) xs ys ∧ Q (.bl true) H
theorem twin_at {pins : List (Addr × Obj)} {σ : L2.St} {H : Hp} {s : Shared} (I : Inv X pins σ H s) {A : Around} (hu : A.units < cLine) {x y : V} {v u : Value} (h : TwinT X.K H x y) (rx : RelV x v) (ry : RelV y u) : SeqAt.EqAt A s v u true := by
  obtain ⟨a, b, zs, rfl, rfl, ha, hb, hs⟩ := h
  cases rx
  cases ry
  by_cases e : a = b
  · subst e; exact SeqAt.EqAt.same _
  · obtain ⟨us, r1, p1, _⟩ := I.tuple ha
    obtain ⟨ws, r2, p2, _⟩ := I.tuple hb
    have q := SeqAt.RcAt.tuples (e := fun _ => true) p1 p2 hu (fun j h1 h2 => its_same hs r1 r2 j h1 h2)
    have sz : us.toArray.size = ws.toArray.size := by rw [List.size_toArray, List.size_toArray, ← r1.length, ← r2.length]
    have yes : ((List.range (min us.toArray.size ws.toArray.size)).all (fun _ => true) && us.toArray.size == ws.toArray.size) = true := by rw [sz]; simp
    rw [yes] at q
    exact SeqAt.EqAt.of_refs e q
theorem twins_at {pins : List (Addr × Obj)} {σ : L2.St} {H : Hp} {s : Shared} (I : Inv X pins σ H s) {A : Around} (hu : A.units < cLine) {xs ys : List V} (hp : Paired (TwinT X.K H) xs ys) :
    ∀ {us ws : List Value}, Vals xs us → Vals ys ws → ∀ j (h1 : j < us.length) (h2 : j < ws.length), SeqAt.EqAt A s us[j] ws[j] true := by
  induction hp with
  | nil => intro us ws r1 _ j h1 _; cases r1; exact absurd h1 (Nat.not_lt_zero j)
  | cons h _ ih =>
    intro us ws r1 r2 j h1 h2
    cases r1 with
    | cons a1 b1 =>
      cases r2 with
      | cons a2 b2 =>
        rcases j with _ | j
        · exact twin_at I hu h a1 a2
        · exact ih b1 b2 j _ _
theorem op_eqTw (hu : X.A.units + 1 < cLine) : OpR X (compareOp .Eq) (rEqTw X.K) := by
  rintro pins s σ H x y v u Q I rx ry ⟨a, b, xs, ys, rfl, rfl, ha, hb, hp, q⟩
  cases rx
  cases ry
  obtain ⟨us, r1, p1, _⟩ := I.list ha
  obtain ⟨ws, r2, p2, _⟩ := I.list hb
  have len : us.length = ws.length := by rw [← r1.length, ← r2.length]; exact Paired.length hp
  have e := SeqAt.RcAt.lists (A := X.A) (e := fun _ => true) p1.isList p2.isList (by rw [List.size_toArray, List.size_toArray]; exact len) (by omega) (fun j h1 h2 => by
    have k := twins_at I (A := X.A.in1) (by rw [Around.in1_units]; exact hu) hp r1 r2 j (by simpa using h1) (by simpa using h2)
    simpa using k)
  refine e X.prog X.w X.xe _ ?_
  rw [show ((List.range us.toArray.size).all fun _ => true) = true by simp]
  exact ⟨.bl true, H, I, rfl, q⟩
end
end OQ

/-! ### own errors: of which classes above -/
namespace OQ
open PySem L2 PySem.Spec PyProof.Rows
theorem mro_has {K : PySem.W.Frag} {W f C : Addr} (a : ErC K W f C) {B : Value} (h : B ∈ [Value.ref C, .ref W, .type "ValueError", .type "Exception", .type "BaseException", .type "object"]) : PySem.W.mroIn K C B = some true := by
  obtain ⟨cc, e1, e2⟩ := a.mro
  unfold PySem.W.mroIn
  rw [e1]
  show (if cc.mro.isEmpty = true then none else some (cc.mro.contains B)) = some true
  rw [e2, if_neg (by simp), List.contains_iff_mem.mpr h]
theorem kit_eV {K : PySem.W.Frag} {W f C : Addr} (a : ErC K W f C) : PySem.W.kitOne K (.ref C) (.type "ValueError") = some true := by
  unfold PySem.W.kitOne
  rw [if_neg (by simp)]
  show (if PySem.W.kitMeta "ValueError" = true then PySem.W.mroIn K C (.type "ValueError") else none) = some true
  rw [if_pos (by decide +kernel), mro_has a (by simp)]
theorem kit_eW {K : PySem.W.Frag} {W f C : Addr} (a : ErC K W f C) (hc : PySem.W.isClsIn K W = true) (ht : PySem.W.typeIn K (.ref W) = some (.type "type")) : PySem.W.kitOne K (.ref C) (.ref W) = some true := by
  by_cases n : (Value.ref C == Value.ref W) = true
  · unfold PySem.W.kitOne
    rw [if_pos n]
  · unfold PySem.W.kitOne
    rw [if_neg n]
    have h : ((PySem.W.clsIn K W).isSome && PySem.W.typeIn K (.ref W) == some (.type "type")) = true := by
      rw [show (PySem.W.clsIn K W).isSome = true from hc, ht]; rfl
    show (if ((PySem.W.clsIn K W).isSome && PySem.W.typeIn K (.ref W) == some (.type "type")) = true then PySem.W.mroIn K C (.ref W) else none) = some true
    rw [if_pos h, mro_has a (by simp)]
end OQ

/-! ### all that is asked of an own error's class, in one look -/
namespace OQ
open PySem L2 PySem.Spec PyProof.Rows
/-- the classes above such a one -/
def upVE (C W : Addr) : List Value := [.ref C, .ref W, .type "ValueError", .type "Exception", .type "BaseException", .type "object"]
def shpB (W C : Addr) : Option Obj → Bool
  | some ⟨.type "type", _, .cls k, z⟩ => k.hasDict && (!k.hasDel && (decide (k.mro = upVE C W) && decide (z.size = 6 ∧ z[4]? = some (some (.builtin "ValueError.__new__")))))
  | _ => false
theorem six {z : Array (Option Value)} {u : Option Value} (n : z.size = 6) (e : z[4]? = some u) : ∃ a b c d f, z = #[a, b, c, d, u, f] := by
  obtain ⟨l⟩ := z
  match l, n, e with
  | [a, b, c, d, v, f], _, e => exact ⟨a, b, c, d, f, by cases e; rfl⟩
def fndB (K : PySem.W.Frag) (C : Addr) (n : Str) (v : Option Value) : Bool := decide (PySem.W.findIn K (.ref C) n = some v)
def erB (K : PySem.W.Frag) (W f C : Addr) : Bool :=
  shpB W C (K.lookup C) && (fndB K C "__setattr__" (some (.builtin "object.__setattr__")) && (decide (PySem.W.subIn K (.ref C) (.type "BaseException") = some true) && (decide (PySem.W.typeIn K (.ref C) = some (.type "type")) &&
    (PySem.W.keepIn K (.ref C) && (fndB K C "__init__" (some (.ref f)) && (fndB K C "value" none && (fndB K C "__getattribute__" (some (.builtin "BaseException.__getattribute__")) && (fndB K C "__getattr__" none &&
      (PySem.W.hasDictIn K C && fndB K C "__class__" (some (.builtin "object.__class__")))))))))))
/-- f of all of them -/
def allB {α : Type} (f : α → Bool) : List α → Bool
  | [] => true
  | x :: r => f x && allB f r
theorem allB_at {α : Type} {f : α → Bool} : ∀ {l : List α}, allB f l = true → ∀ x ∈ l, f x = true
  | [], _, _, m => nomatch m
  | y :: r, h, x, m => by
    have q : (f y && allB f r) = true := h
    rw [Bool.and_eq_true] at q
    rcases List.mem_cons.mp m with e | m
    · rw [e]; exact q.1
    · exact allB_at q.2 x m
theorem two {a b : Bool} (h : (a && b) = true) : a = true ∧ b = true := by simpa using h
theorem erB_ok {K : PySem.W.Frag} {W f C : Addr} (hn : PySem.W.specialIn K (.builtin "object.__class__") "__get__" = some (some (.builtin "getset_descriptor.__get__"))) (ht : PySem.W.takesIn K (.builtin "object.__class__") = some true)
    (h : erB K W f C = true) : ErC K W f C := by
  obtain ⟨c1, h⟩ := two h
  obtain ⟨c2, h⟩ := two h
  obtain ⟨c3, h⟩ := two h
  obtain ⟨c4, h⟩ := two h
  obtain ⟨c5, h⟩ := two h
  obtain ⟨c6, h⟩ := two h
  obtain ⟨c7, h⟩ := two h
  obtain ⟨c8, h⟩ := two h
  obtain ⟨c9, h⟩ := two h
  obtain ⟨c10, c11⟩ := two h
  have F : ∀ {n : Str} {v : Option Value}, fndB K C n v = true → PySem.W.findIn K (.ref C) n = some v := fun q => of_decide_eq_true q
  have sub := of_decide_eq_true c3
  cases e : K.lookup C with
  | none => rw [e] at c1; cases c1
  | some o =>
    rw [e] at c1
    unfold shpB at c1
    split at c1
    · rename_i dd k z eo
      have eo' := Option.some.inj eo
      subst eo'
      obtain ⟨d1, c1⟩ := two c1
      obtain ⟨d2, c1⟩ := two c1
      obtain ⟨d3, d4⟩ := two c1
      obtain ⟨s1, s2⟩ := of_decide_eq_true d4
      obtain ⟨k0, k1, k2, k3, k5, rfl⟩ := six s1 s2
      have mr := of_decide_eq_true d3
      obtain ⟨nm, bs, mro, ns, qn, hdct, sn, sub2, ab, col, hdel⟩ := k
      simp only [Bool.not_eq_true'] at d1 d2 mr
      subst d1 d2 mr
      have cl : PySem.W.clsIn K C = some { name := nm, bases := bs, mro := upVE C W, ns := ns, qualname := qn, hasDict := true, slotNames := sn, subclasses := sub2, abstract := ab, collection := col, hasDel := false } := by
        unfold PySem.W.clsIn
        rw [e]
      have up : PySem.W.mroIn K C (.type "object") = some true := by
        unfold PySem.W.mroIn
        rw [cl]
        show (if (upVE C W).isEmpty = true then none else some ((upVE C W).contains (.type "object"))) = some true
        rw [if_neg (by simp [upVE]), List.contains_iff_mem.mpr (by simp [upVE])]
      exact ⟨⟨⟨nm, qn, ns, bs, [.ref W, .type "ValueError", .type "Exception", .type "BaseException", .type "object"], sn, sub2, ab, col, dd, k0, k1, k2, k3, k5, e, by rfl⟩, F c2, sub, of_decide_eq_true c4, c5⟩, F c6, F c7,
        ⟨F c8, F c9, sub, c10⟩, ⟨F c8, F c9, sub, c10, F c11, hn, ht, up⟩, ⟨_, cl, rfl⟩⟩
    · cases c1
end OQ
namespace OQ
open PySem L2 PySem.Spec PyProof.Rows
theorem ErC.cls {K : PySem.W.Frag} {W f C : Addr} (a : ErC K W f C) : PySem.W.isClsIn K C = true := by
  obtain ⟨cc, e, _⟩ := a.mro
  show (PySem.W.clsIn K C).isSome = true
  rw [e]; rfl
/-- what «except D» says of an error of C -/
theorem exm_is {K : PySem.W.Frag} {C D : Addr} {b : Bool} (h1 : PySem.W.subIn K (.ref D) (.type "BaseException") = some true) (h2 : PySem.W.isClsIn K D = true) (h3 : PySem.W.typeIn K (.ref D) = some (.type "type")) (h : PySem.W.mroIn K C (.ref D) = some b) :
    PySem.W.exmOne K (.ref C) (.ref D) = some b := by
  unfold PySem.W.exmOne
  rw [h1, if_pos (by rfl)]
  have q : ((PySem.W.clsIn K D).isSome && PySem.W.typeIn K (.ref D) == some (.type "type")) = true := by
    rw [show (PySem.W.clsIn K D).isSome = true from h2, h3]; rfl
  unfold PySem.W.kitCls
  exact (if_pos q).trans h
theorem mro_er {K : PySem.W.Frag} {W f C : Addr} (a : ErC K W f C) {D : Addr} (n : D ≠ W) : PySem.W.mroIn K C (.ref D) = some (decide (C = D)) := by
  by_cases h : C = D
  · subst h; rw [mro_has a (by simp), decide_eq_true rfl]
  · obtain ⟨cc, e1, e2⟩ := a.mro
    unfold PySem.W.mroIn
    rw [e1, decide_eq_false h]
    show (if cc.mro.isEmpty = true then none else some (cc.mro.contains (.ref D))) = some false
    rw [e2, if_neg (by simp)]
    refine congrArg some (Bool.eq_false_iff.mpr fun q => ?_)
    have m := List.contains_iff_mem.mp q
    simp only [List.mem_cons, Value.ref.injEq, reduceCtorEq, List.not_mem_nil, or_false] at m
    exact m.elim (fun z => h z.symm) n
theorem exm_er {K : PySem.W.Frag} {W f g C D : Addr} (a : ErC K W f C) (b : ErC K W g D) (n : D ≠ W) : PySem.W.exmOne K (.ref C) (.ref D) = some (decide (C = D)) := exm_is b.oex.exC b.cls b.oex.tyC (mro_er a n)
theorem exm_eW {K : PySem.W.Frag} {W f C : Addr} (a : ErC K W f C) (h1 : PySem.W.subIn K (.ref W) (.type "BaseException") = some true) (h2 : PySem.W.isClsIn K W = true) (h3 : PySem.W.typeIn K (.ref W) = some (.type "type")) :
    PySem.W.exmOne K (.ref C) (.ref W) = some true := exm_is h1 h2 h3 (mro_has a (by simp))
end OQ

/-! ### the head by one run: facts by names, and one more look -/
namespace OQ
open PySem L2 PySem.Spec PyProof.Rows
/-- what of the heap is looked at: what the module's names reach, and the host's own names -/
def frB (n : Nat) (g : Addr → Option Obj) : PySem.W.Frag := He.frG g (cStatics :: He.asD g n)
def hookB (n : Nat) (fa : List He.Fa) (fn : List He.DefD) (ex : PySem.W.Frag → Bool) : PySem.W.Hook where
  α := He.AlD × Bool
  obs := fun s => (He.obsD fa fn (frB n s.heap.get?), ex (frB n s.heap.get?))
  val := fun _ => (He.valD fn, true)
  says := fun _ h => ∃ K : PySem.W.Frag, K.In h ∧ He.SaysD fa fn K ∧ ex K = true
  of := fun _ _ e => ⟨_, He.frG_in, congrArg Prod.fst e, congrArg Prod.snd e⟩
  keeps := fun _ _ _ ⟨K, hK, c, x⟩ k => ⟨K, PySem.W.Frag.In.keeps hK k, c, x⟩
def obB (n : Nat) (fa : List He.Fa) (fn : List He.DefD) (ex : PySem.W.Frag → Bool) (s : PySem.W.SharedT) : He.AlD × Bool :=
  (He.obsD fa fn (frB n (HandSHeadRun.getT s)), ex (frB n (HandSHeadRun.getT s)))
theorem obB_eq (n : Nat) (fa : List He.Fa) (fn : List He.DefD) (ex : PySem.W.Frag → Bool) (s : PySem.W.SharedT) : obB n fa fn ex s = (hookB n fa fn ex).obs s.abs := by
  have e : HandSHeadRun.getT s = s.abs.heap.get? := funext (HandSHeadRun.getT_eq s)
  unfold obB
  rw [e]
  rfl
theorem fun_of {K : PySem.W.Frag} {x q : Str} {st : Stmt} {f : Addr} {fd : FuncData} (F : FunD K x q (defArgs st) (defBody st) (defScope st) [] [] f fd) : Fun K x q st f fd := by
  obtain ⟨oc, od, dV, kV, doc, pm, an, cd, ct, sl, e, look, code, df, _⟩ := F.ex
  rcases df with ⟨_, rfl⟩ | ⟨no, _⟩
  · exact ⟨⟨oc, od, kV, doc, pm, an, cd, ct, sl, e, look, code⟩, F.kp⟩
  · exact absurd rfl no
/-- v as an option's option -/
def isB (a : Option (Option Value)) (v : Option Value) : Bool := decide (a = some v)
theorem isB_ok {a : Option (Option Value)} {v : Option Value} (h : isB a v = true) : a = some v := of_decide_eq_true h
end OQ

open RD in
local macro_rules | `(tactic| walk_at "rd1") => `(tactic| with_reducible first
  | refine d_seq ?_ | refine d_asg ?_ | refine d_op ?_ | refine d_c ?_ | refine d_gname ?_ | refine d_ifS ?_ | refine d_test ?_ | refine d_bl ?_ | refine d_ret ?_ | refine d_next ?_ | refine d_drop ?_
  | refine d_and ?_ | refine d_or ?_ | refine d_not ?_ | refine d_andV ?_ | refine d_orV ?_ | refine d_notV ?_ | refine d_if ?_ | refine d_tB ?_
  | refine d_rI0 ?_ | refine d_rU ?_ | refine d_eqI ?_ | refine d_neI ?_ | refine d_eqS ?_ | refine d_neS ?_ | refine d_eqB ?_ | refine d_isN ?_ | refine d_notN ?_ | refine d_intB ?_ | refine d_un ?_ | refine d_cb ?_ | refine d_cons ?_ | refine d_nil ?_ | refine d_lst ?_ | refine d_tup ?_ | refine d_call ?_
  | refine d_iList ?_ | refine d_rng1 ?_ | refine d_lc ?_ | refine d_yes ?_ | refine d_iteT ?_ | refine d_iteF ?_ | refine d_sl ?_ | refine d_noPart ?_ | refine d_part ?_ | refine d_exI ?_ | refine d_fld ?_ | refine d_iteNF ?_ | refine d_iteNT ?_ | refine d_gcd ?_ | refine d_sfld ?_ | refine d_for ?_ | refine OQ.d_makeS ?_ | refine OQ.d_make ?_ | refine OQ.d_methS ?_ | refine OQ.d_meth ?_ | refine d_gsub ?_ | refine d_par ?_ | refine d_int ?_ | refine d_abs ?_)
local macro_rules | `(tactic| walk_at "rdH") => `(tactic| first | assumption | exact L2.upd_same | (simp only [L2.upd_same, L2.upd_ne, ne_eq, not_false_eq_true, *]; done))
local macro_rules | `(tactic| walk_at "rdC") => `(tactic| first | assumption | (refine Or.inr ⟨?_, ?_⟩ <;> first | decide | omega) | (refine Or.inl ⟨?_, ?_⟩ <;> first | decide | omega) | (show (0 : Int) < _; first | assumption | decide | omega) | exact ⟨by decide, by decide +kernel⟩ | exact ⟨by decide, by decide, by decide +kernel⟩ | exact ⟨by assumption, by assumption⟩)
local macro_rules | `(tactic| walk_at "rd2") => `(tactic| first
  | refine RD.d_var rfl ?_
  | ((with_reducible (refine' RD.d_ixL ?hs ?e ?k)); (case hs => exact L2.SqL.of (by walk_at "rdH")); (case e => rfl))
  | ((with_reducible (refine' RD.d_ixT ?hs ?e ?k)); (case hs => exact L2.SqT.of (by walk_at "rdH")); (case e => rfl))
  | ((with_reducible (refine' RD.d_lenL ?hs ?k)); (case hs => exact L2.SqL.of (by walk_at "rdH")))
  | ((with_reducible (refine' RD.d_wipe ?e ?k)); (case e => rfl))
  | ((with_reducible (refine' RD.d_refL ?hs ?k)); (case hs => exact L2.SqL.of (by walk_at "rdH")))
  | ((with_reducible (refine' RD.d_lenT ?hs ?k)); (case hs => exact L2.SqT.of (by walk_at "rdH")))
  | ((with_reducible (refine' RD.d_lenS ?hs ?k)); (case hs => first | assumption | omega))
  | ((with_reducible (refine' RD.d_rI ?c ?k)); (case c => walk_at "rdC"))
  | ((with_reducible (refine' RD.d_setL ?hs ?e ?k)); (case hs => walk_at "rdH"); (case e => rfl)))
local macro_rules | `(tactic| walk_at "rd") => `(tactic| repeat (first | walk_at "rd1" | walk_at "rd2"))

namespace Toy
open PySem L2
def top (i : Nat) : Stmt := PySem.Challenge.pw_watchedways_k02_errors_apart.main.body.getD i (.Pass ⟨0, 0, 0, 0⟩)
abbrev s_WayError__init : Stmt := inClass (top 1) 0
theorem sc_WayError__init : FnScope ["self", "value"] ["self", "value"] (defScope s_WayError__init) := ⟨rfl, rfl, rfl, by decide +kernel, rfl, by decide +kernel, by decide +kernel⟩
abbrev s_TooMany__init : Stmt := inClass (top 45) 0
theorem sc_TooMany__init : FnScope ["self"] ["self"] (defScope s_TooMany__init) := ⟨rfl, rfl, rfl, by decide +kernel, rfl, by decide +kernel, by decide +kernel⟩
abbrev s_NothingDone__init : Stmt := inClass (top 46) 0
theorem sc_NothingDone__init : FnScope ["self"] ["self"] (defScope s_NothingDone__init) := ⟨rfl, rfl, rfl, by decide +kernel, rfl, by decide +kernel, by decide +kernel⟩
abbrev s_law_tape : Stmt := top 48
theorem sc_law_tape : FnScope ["script"] ["script"] (defScope s_law_tape) := ⟨rfl, rfl, rfl, by decide +kernel, rfl, by decide +kernel, by decide +kernel⟩
abbrev s_law_pick : Stmt := top 49
theorem sc_law_pick : FnScope ["tape", "size", "digit", "cell", "mixed"] ["tape", "size"] (defScope s_law_pick) := ⟨rfl, rfl, rfl, by decide +kernel, rfl, by decide +kernel, by decide +kernel⟩
abbrev s_law_kinds : Stmt := top 50
theorem sc_law_kinds : FnScope ["e", "kinds"] ["e"] (defScope s_law_kinds) := ⟨rfl, rfl, rfl, by decide +kernel, rfl, by decide +kernel, by decide +kernel⟩
abbrev s_law_first : Stmt := top 51
theorem sc_law_first : FnScope ["value", "made"] ["value"] (defScope s_law_first) := ⟨rfl, rfl, rfl, by decide +kernel, rfl, by decide +kernel, by decide +kernel⟩
abbrev s_law_caught : Stmt := top 52
theorem sc_law_caught : FnScope ["which", "value", "told", "e"] ["which", "value"] (defScope s_law_caught) := ⟨rfl, rfl, rfl, by decide +kernel, rfl, by decide +kernel, by decide +kernel⟩
abbrev s_law : Stmt := top 53
theorem sc_law : FnScope ["script", "tape", "value", "made", "k", "due", "place", "which"] ["script"] (defScope s_law) := ⟨rfl, rfl, rfl, by decide +kernel, rfl, by decide +kernel, by decide +kernel⟩
structure Top (K : PySem.W.Frag) (mg : Str → Option Value) where
  f_WayError__init : Addr
  fd_WayError__init : FuncData
  F_WayError__init : Fun K "__init__" "WayError.__init__" s_WayError__init f_WayError__init fd_WayError__init
  b_WayError__init : Binds K fd_WayError__init ["self", "value"] []
  f_TooMany__init : Addr
  fd_TooMany__init : FuncData
  F_TooMany__init : Fun K "__init__" "TooMany.__init__" s_TooMany__init f_TooMany__init fd_TooMany__init
  b_TooMany__init : Binds K fd_TooMany__init ["self"] []
  f_NothingDone__init : Addr
  fd_NothingDone__init : FuncData
  F_NothingDone__init : Fun K "__init__" "NothingDone.__init__" s_NothingDone__init f_NothingDone__init fd_NothingDone__init
  b_NothingDone__init : Binds K fd_NothingDone__init ["self"] []
  f_law_tape : Addr
  fd_law_tape : FuncData
  F_law_tape : Fun K "_law_tape" "_law_tape" s_law_tape f_law_tape fd_law_tape
  b_law_tape : Binds K fd_law_tape ["script"] []
  g_law_tape : mg "_law_tape" = some (.ref f_law_tape)
  f_law_pick : Addr
  fd_law_pick : FuncData
  F_law_pick : Fun K "_law_pick" "_law_pick" s_law_pick f_law_pick fd_law_pick
  b_law_pick : Binds K fd_law_pick ["tape", "size"] []
  g_law_pick : mg "_law_pick" = some (.ref f_law_pick)
  f_law_kinds : Addr
  fd_law_kinds : FuncData
  F_law_kinds : Fun K "_law_kinds" "_law_kinds" s_law_kinds f_law_kinds fd_law_kinds
  b_law_kinds : Binds K fd_law_kinds ["e"] []
  g_law_kinds : mg "_law_kinds" = some (.ref f_law_kinds)
  f_law_first : Addr
  fd_law_first : FuncData
  F_law_first : Fun K "_law_first" "_law_first" s_law_first f_law_first fd_law_first
  b_law_first : Binds K fd_law_first ["value"] []
  g_law_first : mg "_law_first" = some (.ref f_law_first)
  f_law_caught : Addr
  fd_law_caught : FuncData
  F_law_caught : Fun K "_law_caught" "_law_caught" s_law_caught f_law_caught fd_law_caught
  b_law_caught : Binds K fd_law_caught ["which", "value"] []
  g_law_caught : mg "_law_caught" = some (.ref f_law_caught)
  f_law : Addr
  fd_law : FuncData
  F_law : Fun K "law" "law" s_law f_law fd_law
  b_law : Binds K fd_law ["script"] []
  g_law : mg "law" = some (.ref f_law)
  n_ValueError : mg "ValueError" = none
  n_bool : mg "bool" = none
  n_int : mg "int" = none
  n_isinstance : mg "isinstance" = none
  n_len : mg "len" = none
  n_list : mg "list" = none
  n_range : mg "range" = none
  C_WayError : Addr
  g_WayError : mg "WayError" = some (.ref C_WayError)
  tI : PySem.W.typeIn K (.ref f_WayError__init) = some (.type "function")
  c_WE : OQ.CDef K C_WayError f_WayError__init "__init__"
  C_BadBook : Addr
  g_BadBook : mg "BadBook" = some (.ref C_BadBook)
  e_BadBook : OQ.ErC K C_WayError f_WayError__init C_BadBook
  C_BadFlat : Addr
  g_BadFlat : mg "BadFlat" = some (.ref C_BadFlat)
  e_BadFlat : OQ.ErC K C_WayError f_WayError__init C_BadFlat
  C_BadKnown : Addr
  g_BadKnown : mg "BadKnown" = some (.ref C_BadKnown)
  e_BadKnown : OQ.ErC K C_WayError f_WayError__init C_BadKnown
  C_BadLengths : Addr
  g_BadLengths : mg "BadLengths" = some (.ref C_BadLengths)
  e_BadLengths : OQ.ErC K C_WayError f_WayError__init C_BadLengths
  C_BadLetter : Addr
  g_BadLetter : mg "BadLetter" = some (.ref C_BadLetter)
  e_BadLetter : OQ.ErC K C_WayError f_WayError__init C_BadLetter
  C_BadLetters : Addr
  g_BadLetters : mg "BadLetters" = some (.ref C_BadLetters)
  e_BadLetters : OQ.ErC K C_WayError f_WayError__init C_BadLetters
  C_BadMany : Addr
  g_BadMany : mg "BadMany" = some (.ref C_BadMany)
  e_BadMany : OQ.ErC K C_WayError f_WayError__init C_BadMany
  C_BadMost : Addr
  g_BadMost : mg "BadMost" = some (.ref C_BadMost)
  e_BadMost : OQ.ErC K C_WayError f_WayError__init C_BadMost
  C_BadName : Addr
  g_BadName : mg "BadName" = some (.ref C_BadName)
  e_BadName : OQ.ErC K C_WayError f_WayError__init C_BadName
  C_BadNames : Addr
  g_BadNames : mg "BadNames" = some (.ref C_BadNames)
  e_BadNames : OQ.ErC K C_WayError f_WayError__init C_BadNames
  C_BadNumber : Addr
  g_BadNumber : mg "BadNumber" = some (.ref C_BadNumber)
  e_BadNumber : OQ.ErC K C_WayError f_WayError__init C_BadNumber
  C_BadOffers : Addr
  g_BadOffers : mg "BadOffers" = some (.ref C_BadOffers)
  e_BadOffers : OQ.ErC K C_WayError f_WayError__init C_BadOffers
  C_BadPart : Addr
  g_BadPart : mg "BadPart" = some (.ref C_BadPart)
  e_BadPart : OQ.ErC K C_WayError f_WayError__init C_BadPart
  C_BadPrice : Addr
  g_BadPrice : mg "BadPrice" = some (.ref C_BadPrice)
  e_BadPrice : OQ.ErC K C_WayError f_WayError__init C_BadPrice
  C_BadReckoning : Addr
  g_BadReckoning : mg "BadReckoning" = some (.ref C_BadReckoning)
  e_BadReckoning : OQ.ErC K C_WayError f_WayError__init C_BadReckoning
  C_BadRoads : Addr
  g_BadRoads : mg "BadRoads" = some (.ref C_BadRoads)
  e_BadRoads : OQ.ErC K C_WayError f_WayError__init C_BadRoads
  C_BadRow : Addr
  g_BadRow : mg "BadRow" = some (.ref C_BadRow)
  e_BadRow : OQ.ErC K C_WayError f_WayError__init C_BadRow
  C_BadRule : Addr
  g_BadRule : mg "BadRule" = some (.ref C_BadRule)
  e_BadRule : OQ.ErC K C_WayError f_WayError__init C_BadRule
  C_BadRules : Addr
  g_BadRules : mg "BadRules" = some (.ref C_BadRules)
  e_BadRules : OQ.ErC K C_WayError f_WayError__init C_BadRules
  C_BadSpot : Addr
  g_BadSpot : mg "BadSpot" = some (.ref C_BadSpot)
  e_BadSpot : OQ.ErC K C_WayError f_WayError__init C_BadSpot
  C_BadTable : Addr
  g_BadTable : mg "BadTable" = some (.ref C_BadTable)
  e_BadTable : OQ.ErC K C_WayError f_WayError__init C_BadTable
  C_BadTables : Addr
  g_BadTables : mg "BadTables" = some (.ref C_BadTables)
  e_BadTables : OQ.ErC K C_WayError f_WayError__init C_BadTables
  C_BadText : Addr
  g_BadText : mg "BadText" = some (.ref C_BadText)
  e_BadText : OQ.ErC K C_WayError f_WayError__init C_BadText
  C_BadTimes : Addr
  g_BadTimes : mg "BadTimes" = some (.ref C_BadTimes)
  e_BadTimes : OQ.ErC K C_WayError f_WayError__init C_BadTimes
  C_BadWatch : Addr
  g_BadWatch : mg "BadWatch" = some (.ref C_BadWatch)
  e_BadWatch : OQ.ErC K C_WayError f_WayError__init C_BadWatch
  C_BadWatchers : Addr
  g_BadWatchers : mg "BadWatchers" = some (.ref C_BadWatchers)
  e_BadWatchers : OQ.ErC K C_WayError f_WayError__init C_BadWatchers
  C_BadWatches : Addr
  g_BadWatches : mg "BadWatches" = some (.ref C_BadWatches)
  e_BadWatches : OQ.ErC K C_WayError f_WayError__init C_BadWatches
  C_BadWeb : Addr
  g_BadWeb : mg "BadWeb" = some (.ref C_BadWeb)
  e_BadWeb : OQ.ErC K C_WayError f_WayError__init C_BadWeb
  C_BadWord : Addr
  g_BadWord : mg "BadWord" = some (.ref C_BadWord)
  e_BadWord : OQ.ErC K C_WayError f_WayError__init C_BadWord
  C_BadWords : Addr
  g_BadWords : mg "BadWords" = some (.ref C_BadWords)
  e_BadWords : OQ.ErC K C_WayError f_WayError__init C_BadWords
  C_BadWorth : Addr
  g_BadWorth : mg "BadWorth" = some (.ref C_BadWorth)
  e_BadWorth : OQ.ErC K C_WayError f_WayError__init C_BadWorth
  C_BadZigzag : Addr
  g_BadZigzag : mg "BadZigzag" = some (.ref C_BadZigzag)
  e_BadZigzag : OQ.ErC K C_WayError f_WayError__init C_BadZigzag
  C_ManyRows : Addr
  g_ManyRows : mg "ManyRows" = some (.ref C_ManyRows)
  e_ManyRows : OQ.ErC K C_WayError f_WayError__init C_ManyRows
  C_NoRow : Addr
  g_NoRow : mg "NoRow" = some (.ref C_NoRow)
  e_NoRow : OQ.ErC K C_WayError f_WayError__init C_NoRow
  C_NotTold : Addr
  g_NotTold : mg "NotTold" = some (.ref C_NotTold)
  e_NotTold : OQ.ErC K C_WayError f_WayError__init C_NotTold
  C_BadEnds : Addr
  g_BadEnds : mg "BadEnds" = some (.ref C_BadEnds)
  e_BadEnds : OQ.ErC K C_WayError f_WayError__init C_BadEnds
  C_BadMap : Addr
  g_BadMap : mg "BadMap" = some (.ref C_BadMap)
  e_BadMap : OQ.ErC K C_WayError f_WayError__init C_BadMap
  C_BadMenu : Addr
  g_BadMenu : mg "BadMenu" = some (.ref C_BadMenu)
  e_BadMenu : OQ.ErC K C_WayError f_WayError__init C_BadMenu
  C_BadMoves : Addr
  g_BadMoves : mg "BadMoves" = some (.ref C_BadMoves)
  e_BadMoves : OQ.ErC K C_WayError f_WayError__init C_BadMoves
  C_BadSigns : Addr
  g_BadSigns : mg "BadSigns" = some (.ref C_BadSigns)
  e_BadSigns : OQ.ErC K C_WayError f_WayError__init C_BadSigns
  C_BadTexts : Addr
  g_BadTexts : mg "BadTexts" = some (.ref C_BadTexts)
  e_BadTexts : OQ.ErC K C_WayError f_WayError__init C_BadTexts
  C_BadTies : Addr
  g_BadTies : mg "BadTies" = some (.ref C_BadTies)
  e_BadTies : OQ.ErC K C_WayError f_WayError__init C_BadTies
  C_BadTongue : Addr
  g_BadTongue : mg "BadTongue" = some (.ref C_BadTongue)
  e_BadTongue : OQ.ErC K C_WayError f_WayError__init C_BadTongue
  C_NothingDone : Addr
  g_NothingDone : mg "NothingDone" = some (.ref C_NothingDone)
  tI_NothingDone : PySem.W.typeIn K (.ref f_NothingDone__init) = some (.type "function")
  e_NothingDone : OQ.ErC K C_WayError f_NothingDone__init C_NothingDone
  C_TooMany : Addr
  g_TooMany : mg "TooMany" = some (.ref C_TooMany)
  tI_TooMany : PySem.W.typeIn K (.ref f_TooMany__init) = some (.type "function")
  e_TooMany : OQ.ErC K C_WayError f_TooMany__init C_TooMany
  nd : [C_BadBook, C_BadFlat, C_BadKnown, C_BadLengths, C_BadLetter, C_BadLetters, C_BadMany, C_BadMost, C_BadName, C_BadNames, C_BadNumber, C_BadOffers, C_BadPart, C_BadPrice, C_BadReckoning, C_BadRoads, C_BadRow, C_BadRule, C_BadRules, C_BadSpot, C_BadTable, C_BadTables, C_BadText, C_BadTimes, C_BadWatch, C_BadWatchers, C_BadWatches, C_BadWeb, C_BadWord, C_BadWords, C_BadWorth, C_BadZigzag, C_ManyRows, C_NoRow, C_NotTold, C_BadEnds, C_BadMap, C_BadMenu, C_BadMoves, C_BadSigns, C_BadTexts, C_BadTies, C_BadTongue, C_NothingDone, C_TooMany].Nodup
  nW : C_WayError ∉ [C_BadBook, C_BadFlat, C_BadKnown, C_BadLengths, C_BadLetter, C_BadLetters, C_BadMany, C_BadMost, C_BadName, C_BadNames, C_BadNumber, C_BadOffers, C_BadPart, C_BadPrice, C_BadReckoning, C_BadRoads, C_BadRow, C_BadRule, C_BadRules, C_BadSpot, C_BadTable, C_BadTables, C_BadText, C_BadTimes, C_BadWatch, C_BadWatchers, C_BadWatches, C_BadWeb, C_BadWord, C_BadWords, C_BadWorth, C_BadZigzag, C_ManyRows, C_NoRow, C_NotTold, C_BadEnds, C_BadMap, C_BadMenu, C_BadMoves, C_BadSigns, C_BadTexts, C_BadTies, C_BadTongue, C_NothingDone, C_TooMany]
  x_BadWord_TooMany : PySem.W.exmOne K (.ref C_BadWord) (.ref C_TooMany) = some false
  x_BadWord_WayError : PySem.W.exmOne K (.ref C_BadWord) (.ref C_WayError) = some true
  x_NotTold_TooMany : PySem.W.exmOne K (.ref C_NotTold) (.ref C_TooMany) = some false
  x_NotTold_WayError : PySem.W.exmOne K (.ref C_NotTold) (.ref C_WayError) = some true
  x_TooMany_TooMany : PySem.W.exmOne K (.ref C_TooMany) (.ref C_TooMany) = some true
  w_cls : PySem.W.isClsIn K C_WayError = true
  w_ty : PySem.W.typeIn K (.ref C_WayError) = some (.type "type")
/-! ### the tape of a script (55 laws) -/
def TapeAt (H : Hp) (h c : Addr) : Prop := ∃ (cs : List Int) (p q m n : Int), H h = some (.lst [.ref c, .int p, .int q, .int m, .int n]) ∧ H c = some (.lst (cs.map V.int)) ∧ c ≠ h ∧ 0 ≤ p
/-- all but what stands at h is as it was -/
def But (h : Addr) (H H' : Hp) : Prop := ∀ b, b ≠ h → H' b = H b
def spPick : Sp := fun vs H Q _ => ∃ (h c : Addr) (size : Int), vs = [.ref h, .int size] ∧ TapeAt H h c ∧ 0 < size ∧ size.natAbs.log2 < 9000 ∧
  ∀ (r : Int) (H' : Hp), 0 ≤ r → r < size → TapeAt H' h c → But h H H' → Q (.int r) H'
def spTape (K : PySem.W.Frag) : Sp := fun vs H Q _ => ∃ (a : Addr) (ns : List Int), vs = [.ref a] ∧ SqL K H a (ns.map V.int) ∧
  ∀ (h c : Addr) (H' : Hp), TapeAt H' h c → Same H H' → H h = none → H c = none → Q (.ref h) H'
theorem upd_upd {H : Hp} {p : Addr} {o u : HO} : upd (upd H p o) p u = upd H p u := by
  funext b
  by_cases e : b = p
  · subst e; rw [upd_same, upd_same]
  · rw [upd_ne e, upd_ne e, upd_ne e]
theorem upd_id {H : Hp} {p : Addr} {o : HO} (e : H p = some o) : upd H p o = H := by
  funext b
  by_cases h : b = p
  · subst h; rw [upd_same, e]
  · rw [upd_ne h]
theorem same_upd {H : Hp} {p : Addr} {o : HO} (h : H p = none) : Same H (upd H p o) := fun b u e => by
  rw [upd_ne (ne_of_none e h)]; exact e
section
variable {P : Program} {w : World} {K : PySem.W.Frag} {mg : Str → Option Value} {base : Heap}
theorem ok_law_tape (T : Top K mg) : FnOk P w K mg base CX0 1 T.f_law_tape T.fd_law_tape ["script"] (spTape K) := by
  refine T.F_law_tape.ok sc_law_tape (fun vs H Q E h => ?_) (fun cdv A outer s H vs Q E hr h => ?_)
  · obtain ⟨a, ns, rfl, _⟩ := h; rfl
  · obtain ⟨a, ns, rfl, hS, k⟩ := h
    refine ⟨_, (pss_one (ps_ret (pe_lst (pa_cons (pe_callTy call_list_of (by rfl) T.n_list (by decide +kernel) (pa_cons (pv 0) pa_nil)) (pa_cons pe_int (pa_cons pe_int (pa_cons pe_int (pa_cons pe_int pa_nil)))))))), ?_⟩
    walk_at "rd"
    refine ⟨a, ns.map V.int, rfl, .inl hS, fun c hc => ?_⟩
    walk_at "rd"
    refine ⟨by show 5 ≤ sizeLine; decide, fun h hh => ?_⟩
    have nh : h ≠ c := fun z => by rw [z, upd_same] at hh; cases hh
    have hh' : H h = none := by rw [upd_ne nh] at hh; exact hh
    exact k h c _ ⟨ns, 0, 0, 1, 0, upd_same, by rw [upd_ne (Ne.symm nh)]; exact upd_same, Ne.symm nh, Int.le_refl _⟩ (fun b u e => same_upd hh _ _ (same_upd hc _ _ e)) hh' hc
theorem ok_law_pick (T : Top K mg) : FnOk P w K mg base CX0 1 T.f_law_pick T.fd_law_pick ["tape", "size"] spPick := by
  refine T.F_law_pick.ok sc_law_pick (fun vs H Q E h => ?_) (fun cdv A outer s H vs Q E hr h => ?_)
  · obtain ⟨h, c, size, rfl, _⟩ := h; rfl
  · obtain ⟨h, c, size, rfl, ⟨cs, p, q, m, n, e1, e2, ne, hp⟩, m0, ml, k⟩ := h
    refine ⟨_, (pss_cons (ps_if (pt_cmpR op_gt (pe_ix ix_list (pv 0) pe_int (fun _ _ => rfl)) pe_int (nomark _))
 (pss_cons (ps_set (i := 2) sc_law_pick.nd rfl (Or.inl rfl) (pe_op op_mod (pe_callTy RD.c_int (by rfl) T.n_int (by decide +kernel) (pa_cons (pe_ix ix_list (pv 0) pe_int (fun _ _ => rfl)) pa_nil)) (pv 1)))
 (pss_cons (ps_asg (pe_op op_fdivW (pe_ix ix_list (pv 0) pe_int (fun _ _ => rfl)) (pv 1)) (pg_sub (pv 0) pe_int set_list))
 (pss_one (ps_ret (pv 2)))))
 pss_nil)
 (pss_cons (ps_asg (pe_op op_add (pe_ix ix_list (pv 0) pe_int (fun _ _ => rfl)) pe_int) (pg_sub (pv 0) pe_int set_list))
 (pss_cons (ps_set (i := 3) sc_law_pick.nd rfl (Or.inl rfl) pe_int)
 (C8.pss_cut (ps_if (pt_cmpR op_lt (pe_ix ix_list (pv 0) pe_int (fun _ _ => rfl)) (pe_callB RD.c_len (by rfl) T.n_len (by decide +kernel) (pa_cons (pe_ix ix_list (pv 0) pe_int (fun _ _ => rfl)) pa_nil)) (nomark _))
 (pss_cons (ps_set (i := 3) sc_law_pick.nd rfl (Or.inl rfl) (pe_ix ix_list (pe_ix ix_list (pv 0) pe_int (fun _ _ => rfl)) (pe_ix ix_list (pv 0) pe_int (fun _ _ => rfl)) (fun _ _ => rfl)))
 (pss_one (ps_asg (pe_op op_add (pe_ix ix_list (pv 0) pe_int (fun _ _ => rfl)) pe_int) (pg_sub (pv 0) pe_int set_list))))
 pss_nil)
 (pss_cons (ps_if (pt_cmpR op_ge (pv 3) (pe_op op_pow pe_int pe_int) (nomark _))
 (pss_cons (ps_asg (pe_op op_fdivW (pv 3) (pv 1)) (pg_sub (pv 0) pe_int set_list))
 (pss_one (ps_ret (pe_op op_mod (pe_callTy RD.c_int (by rfl) T.n_int (by decide +kernel) (pa_cons (pv 3) pa_nil)) (pv 1)))))
 pss_nil)
 (pss_cons (ps_set (i := 4) sc_law_pick.nd rfl (Or.inl rfl) (pe_op op_mod (pe_callTy RD.c_int (by rfl) T.n_int (by decide +kernel) (pa_cons (pe_op op_add (pe_op op_add (pe_op op_mul (pe_ix ix_list (pv 0) pe_int (fun _ _ => rfl)) pe_int) (pe_op op_mod (pe_callTy RD.c_int (by rfl) T.n_int (by decide +kernel) (pa_cons (pv 3) pa_nil)) pe_int)) (pe_op op_mul (pe_ix ix_list (pv 0) pe_int (fun _ _ => rfl)) pe_int)) pa_nil)) pe_int))
 (pss_cons (ps_set (i := 4) sc_law_pick.nd rfl (Or.inl rfl) (pe_op op_mod (pe_callTy RD.c_int (by rfl) T.n_int (by decide +kernel) (pa_cons (pe_op op_mul (pv 4) (pe_op op_add (pe_op op_fdivW (pv 4) pe_int) pe_int)) pa_nil)) pe_int))
 (pss_cons (ps_asg (pv 4) (pg_sub (pv 0) pe_int set_list))
 (pss_one (ps_ret (pe_op op_mod (pe_callTy RD.c_int (by rfl) T.n_int (by decide +kernel) (pa_cons (pe_op op_fdivW (pv 4) pe_int) pa_nil)) (pv 1)))))))))))), ?_⟩
    have fin : ∀ p2 q2 m2 n2 : Int, 0 ≤ p2 → TapeAt (upd H h (.lst [.ref c, .int p2, .int q2, .int m2, .int n2])) h c ∧ But h H (upd H h (.lst [.ref c, .int p2, .int q2, .int m2, .int n2])) := fun p2 q2 m2 n2 h0 =>
      ⟨⟨cs, p2, q2, m2, n2, upd_same, (by rw [upd_ne ne]; exact e2), ne, h0⟩, fun b hb => upd_ne hb⟩
    walk_at "rd"
    refine RD.iteD (fun c1 => ?_) (fun c1 => ?_)
    · walk_at "rd"
      exact k _ _ (Int.emod_nonneg _ (by omega)) (Int.emod_lt_of_pos _ m0) (fin _ _ _ _ hp).1 (fin _ _ _ _ hp).2
    · walk_at "rd"
      refine RD.d_cut (fun σ' H' => ∃ (x y : Option V) (p' cell : Int), σ' = [some (.ref h), some (.int size), x, some (.int cell), y] ∧ H' = upd H h (.lst [.ref c, .int p', .int q, .int m, .int (n + 1)]) ∧ 0 ≤ p') ?_ ?_
      · walk_at "rd"
        refine RD.d_lenL (SqL.of (by rw [upd_ne ne]; exact e2)) ?_
        walk_at "rd"
        refine RD.iteD (fun c2 => ?_) (fun c2 => ?_)
        · have hl : p.toNat < cs.length := by rw [List.length_map] at c2; omega
          have hg : (cs.map V.int)[p.toNat]? = some (V.int cs[p.toNat]) := by simp [hl]
          have ha : atI (cs.map V.int) p = some (V.int cs[p.toNat]) := by
            have z := atI_nat hg
            rwa [Int.toNat_of_nonneg hp] at z
          walk_at "rd"
          refine RD.d_ixL (SqL.of (by rw [upd_ne ne]; exact e2)) ha ?_
          walk_at "rd"
          exact ⟨_, _, p + 1, cs[p.toNat], rfl, (by rw [upd_upd]; rfl), by omega⟩
        · walk_at "rd"
          exact ⟨_, _, p, 0, rfl, rfl, hp⟩
      · rintro σ' H' ⟨x, y, p', cell, rfl, rfl, hp'⟩
        walk_at "rd"
        refine RD.iteD (fun c2 => ?_) (fun c2 => ?_)
        · walk_at "rd"
          rw [upd_upd]
          exact k _ _ (Int.emod_nonneg _ (by omega)) (Int.emod_lt_of_pos _ m0) (fin _ _ _ _ hp').1 (fin _ _ _ _ hp').2
        · walk_at "rd"
          rw [upd_upd]
          exact k _ _ (Int.emod_nonneg _ (by omega)) (Int.emod_lt_of_pos _ m0) (fin _ _ _ _ hp').1 (fin _ _ _ _ hp').2
end

/-! ### of which classes an error is -/
def ers {K : PySem.W.Frag} {mg : Str → Option Value} (T : Top K mg) : List Addr := [T.C_BadBook, T.C_BadFlat, T.C_BadKnown, T.C_BadLengths, T.C_BadLetter, T.C_BadLetters, T.C_BadMany, T.C_BadMost, T.C_BadName, T.C_BadNames, T.C_BadNumber, T.C_BadOffers, T.C_BadPart, T.C_BadPrice, T.C_BadReckoning, T.C_BadRoads, T.C_BadRow, T.C_BadRule, T.C_BadRules, T.C_BadSpot, T.C_BadTable, T.C_BadTables, T.C_BadText, T.C_BadTimes, T.C_BadWatch, T.C_BadWatchers, T.C_BadWatches, T.C_BadWeb, T.C_BadWord, T.C_BadWords, T.C_BadWorth, T.C_BadZigzag, T.C_ManyRows, T.C_NoRow, T.C_NotTold, T.C_BadEnds, T.C_BadMap, T.C_BadMenu, T.C_BadMoves, T.C_BadSigns, T.C_BadTexts, T.C_BadTies, T.C_BadTongue, T.C_NothingDone, T.C_TooMany]
def spKinds {K : PySem.W.Frag} {mg : Str → Option Value} (T : Top K mg) : Sp := fun vs H Q _ => ∃ (a D f : Addr) (fs : List (Str × V)), vs = [.ref a] ∧ OQ.ErrAt H a D fs ∧ OQ.ErC K T.C_WayError f D ∧ ∀ p H', Same H H' → H p = none → H' p = some (.lst ((ers T).map fun C => V.bl (decide (D = C)))) → Q (.ref p) H'
section
variable {P : Program} {w : World} {K : PySem.W.Frag} {mg : Str → Option Value} {base : Heap}
theorem isV (T : Top K mg) {H : Hp} {Q : VK} {a D C f g : Addr} {fs : List (Str × V)} (er : OQ.ErrAt H a D fs) (e1 : OQ.ErC K T.C_WayError f D) (e2 : OQ.ErC K T.C_WayError g C) (n : C ≠ T.C_WayError) (k : Q (.bl (decide (D = C))) H) : OQ.rIsV K [.ref a, .ref C] H Q :=
  ⟨a, D, fs, _, _, _, rfl, er, e1.exi, .own _, OQ.kit_er e1 e2 n, k⟩
theorem neW (T : Top K mg) {C : Addr} (h : C ∈ ers T) : C ≠ T.C_WayError := fun z => T.nW (by rw [← z]; exact h)
theorem ErrSame {H H' : Hp} {a D : Addr} {fs : List (Str × V)} (e : OQ.ErrAt H a D fs) (s : Same H H') : OQ.ErrAt H' a D fs := by
  obtain ⟨d, e1, e2⟩ := e
  exact ⟨d, s _ _ e1, s _ _ e2⟩
theorem ok_law_kinds (T : Top K mg) : FnOk P w K mg base CX0 1 T.f_law_kinds T.fd_law_kinds ["e"] (spKinds T) := by
  refine T.F_law_kinds.ok sc_law_kinds (fun vs H Q E h => ?_) (fun cdv A outer s H vs Q E hr h => ?_)
  · obtain ⟨a, D, f, fs, rfl, _⟩ := h; rfl
  · obtain ⟨a, D, f, fs, rfl, er, e1, k⟩ := h
    have n : ∀ {C : Addr}, C ∈ ers T → C ≠ T.C_WayError := fun h => neW T h
    refine ⟨_, (pss_cons (ps_set (i := 1) sc_law_kinds.nd rfl (Or.inl rfl) (pe_lst (pa_cons (pe_callB OQ.call_isV (by rfl) T.n_isinstance (by decide +kernel) (pa_cons (pv 0) (pa_cons (pe_glob (v := V.ref T.C_BadBook) (by rfl) T.g_BadBook rfl) pa_nil))) (pa_cons (pe_callB OQ.call_isV (by rfl) T.n_isinstance (by decide +kernel) (pa_cons (pv 0) (pa_cons (pe_glob (v := V.ref T.C_BadFlat) (by rfl) T.g_BadFlat rfl) pa_nil))) (pa_cons (pe_callB OQ.call_isV (by rfl) T.n_isinstance (by decide +kernel) (pa_cons (pv 0) (pa_cons (pe_glob (v := V.ref T.C_BadKnown) (by rfl) T.g_BadKnown rfl) pa_nil))) (pa_cons (pe_callB OQ.call_isV (by rfl) T.n_isinstance (by decide +kernel) (pa_cons (pv 0) (pa_cons (pe_glob (v := V.ref T.C_BadLengths) (by rfl) T.g_BadLengths rfl) pa_nil))) pa_nil))))))
 (pss_cons (ps_set (i := 1) sc_law_kinds.nd rfl (Or.inl rfl) (pe_op op_cat (pv 1) (pe_lst (pa_cons (pe_callB OQ.call_isV (by rfl) T.n_isinstance (by decide +kernel) (pa_cons (pv 0) (pa_cons (pe_glob (v := V.ref T.C_BadLetter) (by rfl) T.g_BadLetter rfl) pa_nil))) (pa_cons (pe_callB OQ.call_isV (by rfl) T.n_isinstance (by decide +kernel) (pa_cons (pv 0) (pa_cons (pe_glob (v := V.ref T.C_BadLetters) (by rfl) T.g_BadLetters rfl) pa_nil))) (pa_cons (pe_callB OQ.call_isV (by rfl) T.n_isinstance (by decide +kernel) (pa_cons (pv 0) (pa_cons (pe_glob (v := V.ref T.C_BadMany) (by rfl) T.g_BadMany rfl) pa_nil))) (pa_cons (pe_callB OQ.call_isV (by rfl) T.n_isinstance (by decide +kernel) (pa_cons (pv 0) (pa_cons (pe_glob (v := V.ref T.C_BadMost) (by rfl) T.g_BadMost rfl) pa_nil))) pa_nil)))))))
 (pss_cons (ps_set (i := 1) sc_law_kinds.nd rfl (Or.inl rfl) (pe_op op_cat (pv 1) (pe_lst (pa_cons (pe_callB OQ.call_isV (by rfl) T.n_isinstance (by decide +kernel) (pa_cons (pv 0) (pa_cons (pe_glob (v := V.ref T.C_BadName) (by rfl) T.g_BadName rfl) pa_nil))) (pa_cons (pe_callB OQ.call_isV (by rfl) T.n_isinstance (by decide +kernel) (pa_cons (pv 0) (pa_cons (pe_glob (v := V.ref T.C_BadNames) (by rfl) T.g_BadNames rfl) pa_nil))) (pa_cons (pe_callB OQ.call_isV (by rfl) T.n_isinstance (by decide +kernel) (pa_cons (pv 0) (pa_cons (pe_glob (v := V.ref T.C_BadNumber) (by rfl) T.g_BadNumber rfl) pa_nil))) (pa_cons (pe_callB OQ.call_isV (by rfl) T.n_isinstance (by decide +kernel) (pa_cons (pv 0) (pa_cons (pe_glob (v := V.ref T.C_BadOffers) (by rfl) T.g_BadOffers rfl) pa_nil))) pa_nil)))))))
 (pss_cons (ps_set (i := 1) sc_law_kinds.nd rfl (Or.inl rfl) (pe_op op_cat (pv 1) (pe_lst (pa_cons (pe_callB OQ.call_isV (by rfl) T.n_isinstance (by decide +kernel) (pa_cons (pv 0) (pa_cons (pe_glob (v := V.ref T.C_BadPart) (by rfl) T.g_BadPart rfl) pa_nil))) (pa_cons (pe_callB OQ.call_isV (by rfl) T.n_isinstance (by decide +kernel) (pa_cons (pv 0) (pa_cons (pe_glob (v := V.ref T.C_BadPrice) (by rfl) T.g_BadPrice rfl) pa_nil))) (pa_cons (pe_callB OQ.call_isV (by rfl) T.n_isinstance (by decide +kernel) (pa_cons (pv 0) (pa_cons (pe_glob (v := V.ref T.C_BadReckoning) (by rfl) T.g_BadReckoning rfl) pa_nil))) (pa_cons (pe_callB OQ.call_isV (by rfl) T.n_isinstance (by decide +kernel) (pa_cons (pv 0) (pa_cons (pe_glob (v := V.ref T.C_BadRoads) (by rfl) T.g_BadRoads rfl) pa_nil))) pa_nil)))))))
 (pss_cons (ps_set (i := 1) sc_law_kinds.nd rfl (Or.inl rfl) (pe_op op_cat (pv 1) (pe_lst (pa_cons (pe_callB OQ.call_isV (by rfl) T.n_isinstance (by decide +kernel) (pa_cons (pv 0) (pa_cons (pe_glob (v := V.ref T.C_BadRow) (by rfl) T.g_BadRow rfl) pa_nil))) (pa_cons (pe_callB OQ.call_isV (by rfl) T.n_isinstance (by decide +kernel) (pa_cons (pv 0) (pa_cons (pe_glob (v := V.ref T.C_BadRule) (by rfl) T.g_BadRule rfl) pa_nil))) (pa_cons (pe_callB OQ.call_isV (by rfl) T.n_isinstance (by decide +kernel) (pa_cons (pv 0) (pa_cons (pe_glob (v := V.ref T.C_BadRules) (by rfl) T.g_BadRules rfl) pa_nil))) (pa_cons (pe_callB OQ.call_isV (by rfl) T.n_isinstance (by decide +kernel) (pa_cons (pv 0) (pa_cons (pe_glob (v := V.ref T.C_BadSpot) (by rfl) T.g_BadSpot rfl) pa_nil))) pa_nil)))))))
 (pss_cons (ps_set (i := 1) sc_law_kinds.nd rfl (Or.inl rfl) (pe_op op_cat (pv 1) (pe_lst (pa_cons (pe_callB OQ.call_isV (by rfl) T.n_isinstance (by decide +kernel) (pa_cons (pv 0) (pa_cons (pe_glob (v := V.ref T.C_BadTable) (by rfl) T.g_BadTable rfl) pa_nil))) (pa_cons (pe_callB OQ.call_isV (by rfl) T.n_isinstance (by decide +kernel) (pa_cons (pv 0) (pa_cons (pe_glob (v := V.ref T.C_BadTables) (by rfl) T.g_BadTables rfl) pa_nil))) (pa_cons (pe_callB OQ.call_isV (by rfl) T.n_isinstance (by decide +kernel) (pa_cons (pv 0) (pa_cons (pe_glob (v := V.ref T.C_BadText) (by rfl) T.g_BadText rfl) pa_nil))) (pa_cons (pe_callB OQ.call_isV (by rfl) T.n_isinstance (by decide +kernel) (pa_cons (pv 0) (pa_cons (pe_glob (v := V.ref T.C_BadTimes) (by rfl) T.g_BadTimes rfl) pa_nil))) pa_nil)))))))
 (pss_cons (ps_set (i := 1) sc_law_kinds.nd rfl (Or.inl rfl) (pe_op op_cat (pv 1) (pe_lst (pa_cons (pe_callB OQ.call_isV (by rfl) T.n_isinstance (by decide +kernel) (pa_cons (pv 0) (pa_cons (pe_glob (v := V.ref T.C_BadWatch) (by rfl) T.g_BadWatch rfl) pa_nil))) (pa_cons (pe_callB OQ.call_isV (by rfl) T.n_isinstance (by decide +kernel) (pa_cons (pv 0) (pa_cons (pe_glob (v := V.ref T.C_BadWatchers) (by rfl) T.g_BadWatchers rfl) pa_nil))) (pa_cons (pe_callB OQ.call_isV (by rfl) T.n_isinstance (by decide +kernel) (pa_cons (pv 0) (pa_cons (pe_glob (v := V.ref T.C_BadWatches) (by rfl) T.g_BadWatches rfl) pa_nil))) (pa_cons (pe_callB OQ.call_isV (by rfl) T.n_isinstance (by decide +kernel) (pa_cons (pv 0) (pa_cons (pe_glob (v := V.ref T.C_BadWeb) (by rfl) T.g_BadWeb rfl) pa_nil))) pa_nil)))))))
 (pss_cons (ps_set (i := 1) sc_law_kinds.nd rfl (Or.inl rfl) (pe_op op_cat (pv 1) (pe_lst (pa_cons (pe_callB OQ.call_isV (by rfl) T.n_isinstance (by decide +kernel) (pa_cons (pv 0) (pa_cons (pe_glob (v := V.ref T.C_BadWord) (by rfl) T.g_BadWord rfl) pa_nil))) (pa_cons (pe_callB OQ.call_isV (by rfl) T.n_isinstance (by decide +kernel) (pa_cons (pv 0) (pa_cons (pe_glob (v := V.ref T.C_BadWords) (by rfl) T.g_BadWords rfl) pa_nil))) (pa_cons (pe_callB OQ.call_isV (by rfl) T.n_isinstance (by decide +kernel) (pa_cons (pv 0) (pa_cons (pe_glob (v := V.ref T.C_BadWorth) (by rfl) T.g_BadWorth rfl) pa_nil))) (pa_cons (pe_callB OQ.call_isV (by rfl) T.n_isinstance (by decide +kernel) (pa_cons (pv 0) (pa_cons (pe_glob (v := V.ref T.C_BadZigzag) (by rfl) T.g_BadZigzag rfl) pa_nil))) pa_nil)))))))
 (pss_cons (ps_set (i := 1) sc_law_kinds.nd rfl (Or.inl rfl) (pe_op op_cat (pv 1) (pe_lst (pa_cons (pe_callB OQ.call_isV (by rfl) T.n_isinstance (by decide +kernel) (pa_cons (pv 0) (pa_cons (pe_glob (v := V.ref T.C_ManyRows) (by rfl) T.g_ManyRows rfl) pa_nil))) (pa_cons (pe_callB OQ.call_isV (by rfl) T.n_isinstance (by decide +kernel) (pa_cons (pv 0) (pa_cons (pe_glob (v := V.ref T.C_NoRow) (by rfl) T.g_NoRow rfl) pa_nil))) (pa_cons (pe_callB OQ.call_isV (by rfl) T.n_isinstance (by decide +kernel) (pa_cons (pv 0) (pa_cons (pe_glob (v := V.ref T.C_NotTold) (by rfl) T.g_NotTold rfl) pa_nil))) pa_nil))))))
 (pss_cons (ps_set (i := 1) sc_law_kinds.nd rfl (Or.inl rfl) (pe_op op_cat (pv 1) (pe_lst (pa_cons (pe_callB OQ.call_isV (by rfl) T.n_isinstance (by decide +kernel) (pa_cons (pv 0) (pa_cons (pe_glob (v := V.ref T.C_BadEnds) (by rfl) T.g_BadEnds rfl) pa_nil))) (pa_cons (pe_callB OQ.call_isV (by rfl) T.n_isinstance (by decide +kernel) (pa_cons (pv 0) (pa_cons (pe_glob (v := V.ref T.C_BadMap) (by rfl) T.g_BadMap rfl) pa_nil))) (pa_cons (pe_callB OQ.call_isV (by rfl) T.n_isinstance (by decide +kernel) (pa_cons (pv 0) (pa_cons (pe_glob (v := V.ref T.C_BadMenu) (by rfl) T.g_BadMenu rfl) pa_nil))) (pa_cons (pe_callB OQ.call_isV (by rfl) T.n_isinstance (by decide +kernel) (pa_cons (pv 0) (pa_cons (pe_glob (v := V.ref T.C_BadMoves) (by rfl) T.g_BadMoves rfl) pa_nil))) pa_nil)))))))
 (pss_cons (ps_set (i := 1) sc_law_kinds.nd rfl (Or.inl rfl) (pe_op op_cat (pv 1) (pe_lst (pa_cons (pe_callB OQ.call_isV (by rfl) T.n_isinstance (by decide +kernel) (pa_cons (pv 0) (pa_cons (pe_glob (v := V.ref T.C_BadSigns) (by rfl) T.g_BadSigns rfl) pa_nil))) (pa_cons (pe_callB OQ.call_isV (by rfl) T.n_isinstance (by decide +kernel) (pa_cons (pv 0) (pa_cons (pe_glob (v := V.ref T.C_BadTexts) (by rfl) T.g_BadTexts rfl) pa_nil))) (pa_cons (pe_callB OQ.call_isV (by rfl) T.n_isinstance (by decide +kernel) (pa_cons (pv 0) (pa_cons (pe_glob (v := V.ref T.C_BadTies) (by rfl) T.g_BadTies rfl) pa_nil))) (pa_cons (pe_callB OQ.call_isV (by rfl) T.n_isinstance (by decide +kernel) (pa_cons (pv 0) (pa_cons (pe_glob (v := V.ref T.C_BadTongue) (by rfl) T.g_BadTongue rfl) pa_nil))) pa_nil)))))))
 (pss_one (ps_ret (pe_op op_cat (pv 1) (pe_lst (pa_cons (pe_callB OQ.call_isV (by rfl) T.n_isinstance (by decide +kernel) (pa_cons (pv 0) (pa_cons (pe_glob (v := V.ref T.C_NothingDone) (by rfl) T.g_NothingDone rfl) pa_nil))) (pa_cons (pe_callB OQ.call_isV (by rfl) T.n_isinstance (by decide +kernel) (pa_cons (pv 0) (pa_cons (pe_glob (v := V.ref T.C_TooMany) (by rfl) T.g_TooMany rfl) pa_nil))) pa_nil))))))))))))))))), ?_⟩
    walk_at "rd"
    refine isV T er e1 T.e_BadBook (n (by simp [ers])) ?_
    walk_at "rd"
    refine isV T er e1 T.e_BadFlat (n (by simp [ers])) ?_
    walk_at "rd"
    refine isV T er e1 T.e_BadKnown (n (by simp [ers])) ?_
    walk_at "rd"
    refine isV T er e1 T.e_BadLengths (n (by simp [ers])) ?_
    walk_at "rd"
    refine ⟨by show 4 ≤ sizeLine; decide, fun q0 hq0 => ?_⟩
    have s0 := same_upd (o := HO.lst [V.bl (decide (D = T.C_BadBook)), V.bl (decide (D = T.C_BadFlat)), V.bl (decide (D = T.C_BadKnown)), V.bl (decide (D = T.C_BadLengths))]) hq0
    replace er := ErrSame er s0
    have eq0 : upd H q0 (HO.lst [V.bl (decide (D = T.C_BadBook)), V.bl (decide (D = T.C_BadFlat)), V.bl (decide (D = T.C_BadKnown)), V.bl (decide (D = T.C_BadLengths))]) q0 = some (HO.lst [V.bl (decide (D = T.C_BadBook)), V.bl (decide (D = T.C_BadFlat)), V.bl (decide (D = T.C_BadKnown)), V.bl (decide (D = T.C_BadLengths))]) := upd_same
    have sc := s0
    have fr : H q0 = none := hq0
    generalize upd H q0 (HO.lst [V.bl (decide (D = T.C_BadBook)), V.bl (decide (D = T.C_BadFlat)), V.bl (decide (D = T.C_BadKnown)), V.bl (decide (D = T.C_BadLengths))]) = H0a at *
    clear s0 hq0
    have ek := eq0
    walk_at "rd"
    refine isV T er e1 T.e_BadLetter (n (by simp [ers])) ?_
    walk_at "rd"
    refine isV T er e1 T.e_BadLetters (n (by simp [ers])) ?_
    walk_at "rd"
    refine isV T er e1 T.e_BadMany (n (by simp [ers])) ?_
    walk_at "rd"
    refine isV T er e1 T.e_BadMost (n (by simp [ers])) ?_
    walk_at "rd"
    refine ⟨by show 4 ≤ sizeLine; decide, fun q1 hq1 => ?_⟩
    have s1 := same_upd (o := HO.lst [V.bl (decide (D = T.C_BadLetter)), V.bl (decide (D = T.C_BadLetters)), V.bl (decide (D = T.C_BadMany)), V.bl (decide (D = T.C_BadMost))]) hq1
    replace er := ErrSame er s1
    have eq1 : upd H0a q1 (HO.lst [V.bl (decide (D = T.C_BadLetter)), V.bl (decide (D = T.C_BadLetters)), V.bl (decide (D = T.C_BadMany)), V.bl (decide (D = T.C_BadMost))]) q1 = some (HO.lst [V.bl (decide (D = T.C_BadLetter)), V.bl (decide (D = T.C_BadLetters)), V.bl (decide (D = T.C_BadMany)), V.bl (decide (D = T.C_BadMost))]) := upd_same
    replace ek := s1 _ _ ek
    replace sc := sc.trans s1
    generalize upd H0a q1 (HO.lst [V.bl (decide (D = T.C_BadLetter)), V.bl (decide (D = T.C_BadLetters)), V.bl (decide (D = T.C_BadMany)), V.bl (decide (D = T.C_BadMost))]) = H1a at *
    clear s1 hq1
    walk_at "rd"
    refine ⟨_, _, _, _, rfl, rfl, ek, eq1, by show 8 ≤ sizeLine; decide, fun p1 hp1 => ?_⟩
    have t1 := same_upd (o := HO.lst [V.bl (decide (D = T.C_BadBook)), V.bl (decide (D = T.C_BadFlat)), V.bl (decide (D = T.C_BadKnown)), V.bl (decide (D = T.C_BadLengths)), V.bl (decide (D = T.C_BadLetter)), V.bl (decide (D = T.C_BadLetters)), V.bl (decide (D = T.C_BadMany)), V.bl (decide (D = T.C_BadMost))]) hp1
    replace er := ErrSame er t1
    replace ek : upd H1a p1 (HO.lst [V.bl (decide (D = T.C_BadBook)), V.bl (decide (D = T.C_BadFlat)), V.bl (decide (D = T.C_BadKnown)), V.bl (decide (D = T.C_BadLengths)), V.bl (decide (D = T.C_BadLetter)), V.bl (decide (D = T.C_BadLetters)), V.bl (decide (D = T.C_BadMany)), V.bl (decide (D = T.C_BadMost))]) p1 = some (HO.lst [V.bl (decide (D = T.C_BadBook)), V.bl (decide (D = T.C_BadFlat)), V.bl (decide (D = T.C_BadKnown)), V.bl (decide (D = T.C_BadLengths)), V.bl (decide (D = T.C_BadLetter)), V.bl (decide (D = T.C_BadLetters)), V.bl (decide (D = T.C_BadMany)), V.bl (decide (D = T.C_BadMost))]) := upd_same
    replace sc := sc.trans t1
    rw [show ([V.bl (decide (D = T.C_BadBook)), V.bl (decide (D = T.C_BadFlat)), V.bl (decide (D = T.C_BadKnown)), V.bl (decide (D = T.C_BadLengths))] ++ [V.bl (decide (D = T.C_BadLetter)), V.bl (decide (D = T.C_BadLetters)), V.bl (decide (D = T.C_BadMany)), V.bl (decide (D = T.C_BadMost))] : List V) = [V.bl (decide (D = T.C_BadBook)), V.bl (decide (D = T.C_BadFlat)), V.bl (decide (D = T.C_BadKnown)), V.bl (decide (D = T.C_BadLengths)), V.bl (decide (D = T.C_BadLetter)), V.bl (decide (D = T.C_BadLetters)), V.bl (decide (D = T.C_BadMany)), V.bl (decide (D = T.C_BadMost))] from rfl]
    generalize upd H1a p1 (HO.lst [V.bl (decide (D = T.C_BadBook)), V.bl (decide (D = T.C_BadFlat)), V.bl (decide (D = T.C_BadKnown)), V.bl (decide (D = T.C_BadLengths)), V.bl (decide (D = T.C_BadLetter)), V.bl (decide (D = T.C_BadLetters)), V.bl (decide (D = T.C_BadMany)), V.bl (decide (D = T.C_BadMost))]) = H1b at *
    clear t1 hp1 eq1
    walk_at "rd"
    refine isV T er e1 T.e_BadName (n (by simp [ers])) ?_
    walk_at "rd"
    refine isV T er e1 T.e_BadNames (n (by simp [ers])) ?_
    walk_at "rd"
    refine isV T er e1 T.e_BadNumber (n (by simp [ers])) ?_
    walk_at "rd"
    refine isV T er e1 T.e_BadOffers (n (by simp [ers])) ?_
    walk_at "rd"
    refine ⟨by show 4 ≤ sizeLine; decide, fun q2 hq2 => ?_⟩
    have s2 := same_upd (o := HO.lst [V.bl (decide (D = T.C_BadName)), V.bl (decide (D = T.C_BadNames)), V.bl (decide (D = T.C_BadNumber)), V.bl (decide (D = T.C_BadOffers))]) hq2
    replace er := ErrSame er s2
    have eq2 : upd H1b q2 (HO.lst [V.bl (decide (D = T.C_BadName)), V.bl (decide (D = T.C_BadNames)), V.bl (decide (D = T.C_BadNumber)), V.bl (decide (D = T.C_BadOffers))]) q2 = some (HO.lst [V.bl (decide (D = T.C_BadName)), V.bl (decide (D = T.C_BadNames)), V.bl (decide (D = T.C_BadNumber)), V.bl (decide (D = T.C_BadOffers))]) := upd_same
    replace ek := s2 _ _ ek
    replace sc := sc.trans s2
    generalize upd H1b q2 (HO.lst [V.bl (decide (D = T.C_BadName)), V.bl (decide (D = T.C_BadNames)), V.bl (decide (D = T.C_BadNumber)), V.bl (decide (D = T.C_BadOffers))]) = H2a at *
    clear s2 hq2
    walk_at "rd"
    refine ⟨_, _, _, _, rfl, rfl, ek, eq2, by show 12 ≤ sizeLine; decide, fun p2 hp2 => ?_⟩
    have t2 := same_upd (o := HO.lst [V.bl (decide (D = T.C_BadBook)), V.bl (decide (D = T.C_BadFlat)), V.bl (decide (D = T.C_BadKnown)), V.bl (decide (D = T.C_BadLengths)), V.bl (decide (D = T.C_BadLetter)), V.bl (decide (D = T.C_BadLetters)), V.bl (decide (D = T.C_BadMany)), V.bl (decide (D = T.C_BadMost)), V.bl (decide (D = T.C_BadName)), V.bl (decide (D = T.C_BadNames)), V.bl (decide (D = T.C_BadNumber)), V.bl (decide (D = T.C_BadOffers))]) hp2
    replace er := ErrSame er t2
    replace ek : upd H2a p2 (HO.lst [V.bl (decide (D = T.C_BadBook)), V.bl (decide (D = T.C_BadFlat)), V.bl (decide (D = T.C_BadKnown)), V.bl (decide (D = T.C_BadLengths)), V.bl (decide (D = T.C_BadLetter)), V.bl (decide (D = T.C_BadLetters)), V.bl (decide (D = T.C_BadMany)), V.bl (decide (D = T.C_BadMost)), V.bl (decide (D = T.C_BadName)), V.bl (decide (D = T.C_BadNames)), V.bl (decide (D = T.C_BadNumber)), V.bl (decide (D = T.C_BadOffers))]) p2 = some (HO.lst [V.bl (decide (D = T.C_BadBook)), V.bl (decide (D = T.C_BadFlat)), V.bl (decide (D = T.C_BadKnown)), V.bl (decide (D = T.C_BadLengths)), V.bl (decide (D = T.C_BadLetter)), V.bl (decide (D = T.C_BadLetters)), V.bl (decide (D = T.C_BadMany)), V.bl (decide (D = T.C_BadMost)), V.bl (decide (D = T.C_BadName)), V.bl (decide (D = T.C_BadNames)), V.bl (decide (D = T.C_BadNumber)), V.bl (decide (D = T.C_BadOffers))]) := upd_same
    replace sc := sc.trans t2
    rw [show ([V.bl (decide (D = T.C_BadBook)), V.bl (decide (D = T.C_BadFlat)), V.bl (decide (D = T.C_BadKnown)), V.bl (decide (D = T.C_BadLengths)), V.bl (decide (D = T.C_BadLetter)), V.bl (decide (D = T.C_BadLetters)), V.bl (decide (D = T.C_BadMany)), V.bl (decide (D = T.C_BadMost))] ++ [V.bl (decide (D = T.C_BadName)), V.bl (decide (D = T.C_BadNames)), V.bl (decide (D = T.C_BadNumber)), V.bl (decide (D = T.C_BadOffers))] : List V) = [V.bl (decide (D = T.C_BadBook)), V.bl (decide (D = T.C_BadFlat)), V.bl (decide (D = T.C_BadKnown)), V.bl (decide (D = T.C_BadLengths)), V.bl (decide (D = T.C_BadLetter)), V.bl (decide (D = T.C_BadLetters)), V.bl (decide (D = T.C_BadMany)), V.bl (decide (D = T.C_BadMost)), V.bl (decide (D = T.C_BadName)), V.bl (decide (D = T.C_BadNames)), V.bl (decide (D = T.C_BadNumber)), V.bl (decide (D = T.C_BadOffers))] from rfl]
    generalize upd H2a p2 (HO.lst [V.bl (decide (D = T.C_BadBook)), V.bl (decide (D = T.C_BadFlat)), V.bl (decide (D = T.C_BadKnown)), V.bl (decide (D = T.C_BadLengths)), V.bl (decide (D = T.C_BadLetter)), V.bl (decide (D = T.C_BadLetters)), V.bl (decide (D = T.C_BadMany)), V.bl (decide (D = T.C_BadMost)), V.bl (decide (D = T.C_BadName)), V.bl (decide (D = T.C_BadNames)), V.bl (decide (D = T.C_BadNumber)), V.bl (decide (D = T.C_BadOffers))]) = H2b at *
    clear t2 hp2 eq2
    walk_at "rd"
    refine isV T er e1 T.e_BadPart (n (by simp [ers])) ?_
    walk_at "rd"
    refine isV T er e1 T.e_BadPrice (n (by simp [ers])) ?_
    walk_at "rd"
    refine isV T er e1 T.e_BadReckoning (n (by simp [ers])) ?_
    walk_at "rd"
    refine isV T er e1 T.e_BadRoads (n (by simp [ers])) ?_
    walk_at "rd"
    refine ⟨by show 4 ≤ sizeLine; decide, fun q3 hq3 => ?_⟩
    have s3 := same_upd (o := HO.lst [V.bl (decide (D = T.C_BadPart)), V.bl (decide (D = T.C_BadPrice)), V.bl (decide (D = T.C_BadReckoning)), V.bl (decide (D = T.C_BadRoads))]) hq3
    replace er := ErrSame er s3
    have eq3 : upd H2b q3 (HO.lst [V.bl (decide (D = T.C_BadPart)), V.bl (decide (D = T.C_BadPrice)), V.bl (decide (D = T.C_BadReckoning)), V.bl (decide (D = T.C_BadRoads))]) q3 = some (HO.lst [V.bl (decide (D = T.C_BadPart)), V.bl (decide (D = T.C_BadPrice)), V.bl (decide (D = T.C_BadReckoning)), V.bl (decide (D = T.C_BadRoads))]) := upd_same
    replace ek := s3 _ _ ek
    replace sc := sc.trans s3
    generalize upd H2b q3 (HO.lst [V.bl (decide (D = T.C_BadPart)), V.bl (decide (D = T.C_BadPrice)), V.bl (decide (D = T.C_BadReckoning)), V.bl (decide (D = T.C_BadRoads))]) = H3a at *
    clear s3 hq3
    walk_at "rd"
    refine ⟨_, _, _, _, rfl, rfl, ek, eq3, by show 16 ≤ sizeLine; decide, fun p3 hp3 => ?_⟩
    have t3 := same_upd (o := HO.lst [V.bl (decide (D = T.C_BadBook)), V.bl (decide (D = T.C_BadFlat)), V.bl (decide (D = T.C_BadKnown)), V.bl (decide (D = T.C_BadLengths)), V.bl (decide (D = T.C_BadLetter)), V.bl (decide (D = T.C_BadLetters)), V.bl (decide (D = T.C_BadMany)), V.bl (decide (D = T.C_BadMost)), V.bl (decide (D = T.C_BadName)), V.bl (decide (D = T.C_BadNames)), V.bl (decide (D = T.C_BadNumber)), V.bl (decide (D = T.C_BadOffers)), V.bl (decide (D = T.C_BadPart)), V.bl (decide (D = T.C_BadPrice)), V.bl (decide (D = T.C_BadReckoning)), V.bl (decide (D = T.C_BadRoads))]) hp3
    replace er := ErrSame er t3
    replace ek : upd H3a p3 (HO.lst [V.bl (decide (D = T.C_BadBook)), V.bl (decide (D = T.C_BadFlat)), V.bl (decide (D = T.C_BadKnown)), V.bl (decide (D = T.C_BadLengths)), V.bl (decide (D = T.C_BadLetter)), V.bl (decide (D = T.C_BadLetters)), V.bl (decide (D = T.C_BadMany)), V.bl (decide (D = T.C_BadMost)), V.bl (decide (D = T.C_BadName)), V.bl (decide (D = T.C_BadNames)), V.bl (decide (D = T.C_BadNumber)), V.bl (decide (D = T.C_BadOffers)), V.bl (decide (D = T.C_BadPart)), V.bl (decide (D = T.C_BadPrice)), V.bl (decide (D = T.C_BadReckoning)), V.bl (decide (D = T.C_BadRoads))]) p3 = some (HO.lst [V.bl (decide (D = T.C_BadBook)), V.bl (decide (D = T.C_BadFlat)), V.bl (decide (D = T.C_BadKnown)), V.bl (decide (D = T.C_BadLengths)), V.bl (decide (D = T.C_BadLetter)), V.bl (decide (D = T.C_BadLetters)), V.bl (decide (D = T.C_BadMany)), V.bl (decide (D = T.C_BadMost)), V.bl (decide (D = T.C_BadName)), V.bl (decide (D = T.C_BadNames)), V.bl (decide (D = T.C_BadNumber)), V.bl (decide (D = T.C_BadOffers)), V.bl (decide (D = T.C_BadPart)), V.bl (decide (D = T.C_BadPrice)), V.bl (decide (D = T.C_BadReckoning)), V.bl (decide (D = T.C_BadRoads))]) := upd_same
    replace sc := sc.trans t3
    rw [show ([V.bl (decide (D = T.C_BadBook)), V.bl (decide (D = T.C_BadFlat)), V.bl (decide (D = T.C_BadKnown)), V.bl (decide (D = T.C_BadLengths)), V.bl (decide (D = T.C_BadLetter)), V.bl (decide (D = T.C_BadLetters)), V.bl (decide (D = T.C_BadMany)), V.bl (decide (D = T.C_BadMost)), V.bl (decide (D = T.C_BadName)), V.bl (decide (D = T.C_BadNames)), V.bl (decide (D = T.C_BadNumber)), V.bl (decide (D = T.C_BadOffers))] ++ [V.bl (decide (D = T.C_BadPart)), V.bl (decide (D = T.C_BadPrice)), V.bl (decide (D = T.C_BadReckoning)), V.bl (decide (D = T.C_BadRoads))] : List V) = [V.bl (decide (D = T.C_BadBook)), V.bl (decide (D = T.C_BadFlat)), V.bl (decide (D = T.C_BadKnown)), V.bl (decide (D = T.C_BadLengths)), V.bl (decide (D = T.C_BadLetter)), V.bl (decide (D = T.C_BadLetters)), V.bl (decide (D = T.C_BadMany)), V.bl (decide (D = T.C_BadMost)), V.bl (decide (D = T.C_BadName)), V.bl (decide (D = T.C_BadNames)), V.bl (decide (D = T.C_BadNumber)), V.bl (decide (D = T.C_BadOffers)), V.bl (decide (D = T.C_BadPart)), V.bl (decide (D = T.C_BadPrice)), V.bl (decide (D = T.C_BadReckoning)), V.bl (decide (D = T.C_BadRoads))] from rfl]
    generalize upd H3a p3 (HO.lst [V.bl (decide (D = T.C_BadBook)), V.bl (decide (D = T.C_BadFlat)), V.bl (decide (D = T.C_BadKnown)), V.bl (decide (D = T.C_BadLengths)), V.bl (decide (D = T.C_BadLetter)), V.bl (decide (D = T.C_BadLetters)), V.bl (decide (D = T.C_BadMany)), V.bl (decide (D = T.C_BadMost)), V.bl (decide (D = T.C_BadName)), V.bl (decide (D = T.C_BadNames)), V.bl (decide (D = T.C_BadNumber)), V.bl (decide (D = T.C_BadOffers)), V.bl (decide (D = T.C_BadPart)), V.bl (decide (D = T.C_BadPrice)), V.bl (decide (D = T.C_BadReckoning)), V.bl (decide (D = T.C_BadRoads))]) = H3b at *
    clear t3 hp3 eq3
    walk_at "rd"
    refine isV T er e1 T.e_BadRow (n (by simp [ers])) ?_
    walk_at "rd"
    refine isV T er e1 T.e_BadRule (n (by simp [ers])) ?_
    walk_at "rd"
    refine isV T er e1 T.e_BadRules (n (by simp [ers])) ?_
    walk_at "rd"
    refine isV T er e1 T.e_BadSpot (n (by simp [ers])) ?_
    walk_at "rd"
    refine ⟨by show 4 ≤ sizeLine; decide, fun q4 hq4 => ?_⟩
    have s4 := same_upd (o := HO.lst [V.bl (decide (D = T.C_BadRow)), V.bl (decide (D = T.C_BadRule)), V.bl (decide (D = T.C_BadRules)), V.bl (decide (D = T.C_BadSpot))]) hq4
    replace er := ErrSame er s4
    have eq4 : upd H3b q4 (HO.lst [V.bl (decide (D = T.C_BadRow)), V.bl (decide (D = T.C_BadRule)), V.bl (decide (D = T.C_BadRules)), V.bl (decide (D = T.C_BadSpot))]) q4 = some (HO.lst [V.bl (decide (D = T.C_BadRow)), V.bl (decide (D = T.C_BadRule)), V.bl (decide (D = T.C_BadRules)), V.bl (decide (D = T.C_BadSpot))]) := upd_same
    replace ek := s4 _ _ ek
    replace sc := sc.trans s4
    generalize upd H3b q4 (HO.lst [V.bl (decide (D = T.C_BadRow)), V.bl (decide (D = T.C_BadRule)), V.bl (decide (D = T.C_BadRules)), V.bl (decide (D = T.C_BadSpot))]) = H4a at *
    clear s4 hq4
    walk_at "rd"
    refine ⟨_, _, _, _, rfl, rfl, ek, eq4, by show 20 ≤ sizeLine; decide, fun p4 hp4 => ?_⟩
    have t4 := same_upd (o := HO.lst [V.bl (decide (D = T.C_BadBook)), V.bl (decide (D = T.C_BadFlat)), V.bl (decide (D = T.C_BadKnown)), V.bl (decide (D = T.C_BadLengths)), V.bl (decide (D = T.C_BadLetter)), V.bl (decide (D = T.C_BadLetters)), V.bl (decide (D = T.C_BadMany)), V.bl (decide (D = T.C_BadMost)), V.bl (decide (D = T.C_BadName)), V.bl (decide (D = T.C_BadNames)), V.bl (decide (D = T.C_BadNumber)), V.bl (decide (D = T.C_BadOffers)), V.bl (decide (D = T.C_BadPart)), V.bl (decide (D = T.C_BadPrice)), V.bl (decide (D = T.C_BadReckoning)), V.bl (decide (D = T.C_BadRoads)), V.bl (decide (D = T.C_BadRow)), V.bl (decide (D = T.C_BadRule)), V.bl (decide (D = T.C_BadRules)), V.bl (decide (D = T.C_BadSpot))]) hp4
    replace er := ErrSame er t4
    replace ek : upd H4a p4 (HO.lst [V.bl (decide (D = T.C_BadBook)), V.bl (decide (D = T.C_BadFlat)), V.bl (decide (D = T.C_BadKnown)), V.bl (decide (D = T.C_BadLengths)), V.bl (decide (D = T.C_BadLetter)), V.bl (decide (D = T.C_BadLetters)), V.bl (decide (D = T.C_BadMany)), V.bl (decide (D = T.C_BadMost)), V.bl (decide (D = T.C_BadName)), V.bl (decide (D = T.C_BadNames)), V.bl (decide (D = T.C_BadNumber)), V.bl (decide (D = T.C_BadOffers)), V.bl (decide (D = T.C_BadPart)), V.bl (decide (D = T.C_BadPrice)), V.bl (decide (D = T.C_BadReckoning)), V.bl (decide (D = T.C_BadRoads)), V.bl (decide (D = T.C_BadRow)), V.bl (decide (D = T.C_BadRule)), V.bl (decide (D = T.C_BadRules)), V.bl (decide (D = T.C_BadSpot))]) p4 = some (HO.lst [V.bl (decide (D = T.C_BadBook)), V.bl (decide (D = T.C_BadFlat)), V.bl (decide (D = T.C_BadKnown)), V.bl (decide (D = T.C_BadLengths)), V.bl (decide (D = T.C_BadLetter)), V.bl (decide (D = T.C_BadLetters)), V.bl (decide (D = T.C_BadMany)), V.bl (decide (D = T.C_BadMost)), V.bl (decide (D = T.C_BadName)), V.bl (decide (D = T.C_BadNames)), V.bl (decide (D = T.C_BadNumber)), V.bl (decide (D = T.C_BadOffers)), V.bl (decide (D = T.C_BadPart)), V.bl (decide (D = T.C_BadPrice)), V.bl (decide (D = T.C_BadReckoning)), V.bl (decide (D = T.C_BadRoads)), V.bl (decide (D = T.C_BadRow)), V.bl (decide (D = T.C_BadRule)), V.bl (decide (D = T.C_BadRules)), V.bl (decide (D = T.C_BadSpot))]) := upd_same
    replace sc := sc.trans t4
    rw [show ([V.bl (decide (D = T.C_BadBook)), V.bl (decide (D = T.C_BadFlat)), V.bl (decide (D = T.C_BadKnown)), V.bl (decide (D = T.C_BadLengths)), V.bl (decide (D = T.C_BadLetter)), V.bl (decide (D = T.C_BadLetters)), V.bl (decide (D = T.C_BadMany)), V.bl (decide (D = T.C_BadMost)), V.bl (decide (D = T.C_BadName)), V.bl (decide (D = T.C_BadNames)), V.bl (decide (D = T.C_BadNumber)), V.bl (decide (D = T.C_BadOffers)), V.bl (decide (D = T.C_BadPart)), V.bl (decide (D = T.C_BadPrice)), V.bl (decide (D = T.C_BadReckoning)), V.bl (decide (D = T.C_BadRoads))] ++ [V.bl (decide (D = T.C_BadRow)), V.bl (decide (D = T.C_BadRule)), V.bl (decide (D = T.C_BadRules)), V.bl (decide (D = T.C_BadSpot))] : List V) = [V.bl (decide (D = T.C_BadBook)), V.bl (decide (D = T.C_BadFlat)), V.bl (decide (D = T.C_BadKnown)), V.bl (decide (D = T.C_BadLengths)), V.bl (decide (D = T.C_BadLetter)), V.bl (decide (D = T.C_BadLetters)), V.bl (decide (D = T.C_BadMany)), V.bl (decide (D = T.C_BadMost)), V.bl (decide (D = T.C_BadName)), V.bl (decide (D = T.C_BadNames)), V.bl (decide (D = T.C_BadNumber)), V.bl (decide (D = T.C_BadOffers)), V.bl (decide (D = T.C_BadPart)), V.bl (decide (D = T.C_BadPrice)), V.bl (decide (D = T.C_BadReckoning)), V.bl (decide (D = T.C_BadRoads)), V.bl (decide (D = T.C_BadRow)), V.bl (decide (D = T.C_BadRule)), V.bl (decide (D = T.C_BadRules)), V.bl (decide (D = T.C_BadSpot))] from rfl]
    generalize upd H4a p4 (HO.lst [V.bl (decide (D = T.C_BadBook)), V.bl (decide (D = T.C_BadFlat)), V.bl (decide (D = T.C_BadKnown)), V.bl (decide (D = T.C_BadLengths)), V.bl (decide (D = T.C_BadLetter)), V.bl (decide (D = T.C_BadLetters)), V.bl (decide (D = T.C_BadMany)), V.bl (decide (D = T.C_BadMost)), V.bl (decide (D = T.C_BadName)), V.bl (decide (D = T.C_BadNames)), V.bl (decide (D = T.C_BadNumber)), V.bl (decide (D = T.C_BadOffers)), V.bl (decide (D = T.C_BadPart)), V.bl (decide (D = T.C_BadPrice)), V.bl (decide (D = T.C_BadReckoning)), V.bl (decide (D = T.C_BadRoads)), V.bl (decide (D = T.C_BadRow)), V.bl (decide (D = T.C_BadRule)), V.bl (decide (D = T.C_BadRules)), V.bl (decide (D = T.C_BadSpot))]) = H4b at *
    clear t4 hp4 eq4
    walk_at "rd"
    refine isV T er e1 T.e_BadTable (n (by simp [ers])) ?_
    walk_at "rd"
    refine isV T er e1 T.e_BadTables (n (by simp [ers])) ?_
    walk_at "rd"
    refine isV T er e1 T.e_BadText (n (by simp [ers])) ?_
    walk_at "rd"
    refine isV T er e1 T.e_BadTimes (n (by simp [ers])) ?_
    walk_at "rd"
    refine ⟨by show 4 ≤ sizeLine; decide, fun q5 hq5 => ?_⟩
    have s5 := same_upd (o := HO.lst [V.bl (decide (D = T.C_BadTable)), V.bl (decide (D = T.C_BadTables)), V.bl (decide (D = T.C_BadText)), V.bl (decide (D = T.C_BadTimes))]) hq5
    replace er := ErrSame er s5
    have eq5 : upd H4b q5 (HO.lst [V.bl (decide (D = T.C_BadTable)), V.bl (decide (D = T.C_BadTables)), V.bl (decide (D = T.C_BadText)), V.bl (decide (D = T.C_BadTimes))]) q5 = some (HO.lst [V.bl (decide (D = T.C_BadTable)), V.bl (decide (D = T.C_BadTables)), V.bl (decide (D = T.C_BadText)), V.bl (decide (D = T.C_BadTimes))]) := upd_same
    replace ek := s5 _ _ ek
    replace sc := sc.trans s5
    generalize upd H4b q5 (HO.lst [V.bl (decide (D = T.C_BadTable)), V.bl (decide (D = T.C_BadTables)), V.bl (decide (D = T.C_BadText)), V.bl (decide (D = T.C_BadTimes))]) = H5a at *
    clear s5 hq5
    walk_at "rd"
    refine ⟨_, _, _, _, rfl, rfl, ek, eq5, by show 24 ≤ sizeLine; decide, fun p5 hp5 => ?_⟩
    have t5 := same_upd (o := HO.lst [V.bl (decide (D = T.C_BadBook)), V.bl (decide (D = T.C_BadFlat)), V.bl (decide (D = T.C_BadKnown)), V.bl (decide (D = T.C_BadLengths)), V.bl (decide (D = T.C_BadLetter)), V.bl (decide (D = T.C_BadLetters)), V.bl (decide (D = T.C_BadMany)), V.bl (decide (D = T.C_BadMost)), V.bl (decide (D = T.C_BadName)), V.bl (decide (D = T.C_BadNames)), V.bl (decide (D = T.C_BadNumber)), V.bl (decide (D = T.C_BadOffers)), V.bl (decide (D = T.C_BadPart)), V.bl (decide (D = T.C_BadPrice)), V.bl (decide (D = T.C_BadReckoning)), V.bl (decide (D = T.C_BadRoads)), V.bl (decide (D = T.C_BadRow)), V.bl (decide (D = T.C_BadRule)), V.bl (decide (D = T.C_BadRules)), V.bl (decide (D = T.C_BadSpot)), V.bl (decide (D = T.C_BadTable)), V.bl (decide (D = T.C_BadTables)), V.bl (decide (D = T.C_BadText)), V.bl (decide (D = T.C_BadTimes))]) hp5
    replace er := ErrSame er t5
    replace ek : upd H5a p5 (HO.lst [V.bl (decide (D = T.C_BadBook)), V.bl (decide (D = T.C_BadFlat)), V.bl (decide (D = T.C_BadKnown)), V.bl (decide (D = T.C_BadLengths)), V.bl (decide (D = T.C_BadLetter)), V.bl (decide (D = T.C_BadLetters)), V.bl (decide (D = T.C_BadMany)), V.bl (decide (D = T.C_BadMost)), V.bl (decide (D = T.C_BadName)), V.bl (decide (D = T.C_BadNames)), V.bl (decide (D = T.C_BadNumber)), V.bl (decide (D = T.C_BadOffers)), V.bl (decide (D = T.C_BadPart)), V.bl (decide (D = T.C_BadPrice)), V.bl (decide (D = T.C_BadReckoning)), V.bl (decide (D = T.C_BadRoads)), V.bl (decide (D = T.C_BadRow)), V.bl (decide (D = T.C_BadRule)), V.bl (decide (D = T.C_BadRules)), V.bl (decide (D = T.C_BadSpot)), V.bl (decide (D = T.C_BadTable)), V.bl (decide (D = T.C_BadTables)), V.bl (decide (D = T.C_BadText)), V.bl (decide (D = T.C_BadTimes))]) p5 = some (HO.lst [V.bl (decide (D = T.C_BadBook)), V.bl (decide (D = T.C_BadFlat)), V.bl (decide (D = T.C_BadKnown)), V.bl (decide (D = T.C_BadLengths)), V.bl (decide (D = T.C_BadLetter)), V.bl (decide (D = T.C_BadLetters)), V.bl (decide (D = T.C_BadMany)), V.bl (decide (D = T.C_BadMost)), V.bl (decide (D = T.C_BadName)), V.bl (decide (D = T.C_BadNames)), V.bl (decide (D = T.C_BadNumber)), V.bl (decide (D = T.C_BadOffers)), V.bl (decide (D = T.C_BadPart)), V.bl (decide (D = T.C_BadPrice)), V.bl (decide (D = T.C_BadReckoning)), V.bl (decide (D = T.C_BadRoads)), V.bl (decide (D = T.C_BadRow)), V.bl (decide (D = T.C_BadRule)), V.bl (decide (D = T.C_BadRules)), V.bl (decide (D = T.C_BadSpot)), V.bl (decide (D = T.C_BadTable)), V.bl (decide (D = T.C_BadTables)), V.bl (decide (D = T.C_BadText)), V.bl (decide (D = T.C_BadTimes))]) := upd_same
    replace sc := sc.trans t5
    rw [show ([V.bl (decide (D = T.C_BadBook)), V.bl (decide (D = T.C_BadFlat)), V.bl (decide (D = T.C_BadKnown)), V.bl (decide (D = T.C_BadLengths)), V.bl (decide (D = T.C_BadLetter)), V.bl (decide (D = T.C_BadLetters)), V.bl (decide (D = T.C_BadMany)), V.bl (decide (D = T.C_BadMost)), V.bl (decide (D = T.C_BadName)), V.bl (decide (D = T.C_BadNames)), V.bl (decide (D = T.C_BadNumber)), V.bl (decide (D = T.C_BadOffers)), V.bl (decide (D = T.C_BadPart)), V.bl (decide (D = T.C_BadPrice)), V.bl (decide (D = T.C_BadReckoning)), V.bl (decide (D = T.C_BadRoads)), V.bl (decide (D = T.C_BadRow)), V.bl (decide (D = T.C_BadRule)), V.bl (decide (D = T.C_BadRules)), V.bl (decide (D = T.C_BadSpot))] ++ [V.bl (decide (D = T.C_BadTable)), V.bl (decide (D = T.C_BadTables)), V.bl (decide (D = T.C_BadText)), V.bl (decide (D = T.C_BadTimes))] : List V) = [V.bl (decide (D = T.C_BadBook)), V.bl (decide (D = T.C_BadFlat)), V.bl (decide (D = T.C_BadKnown)), V.bl (decide (D = T.C_BadLengths)), V.bl (decide (D = T.C_BadLetter)), V.bl (decide (D = T.C_BadLetters)), V.bl (decide (D = T.C_BadMany)), V.bl (decide (D = T.C_BadMost)), V.bl (decide (D = T.C_BadName)), V.bl (decide (D = T.C_BadNames)), V.bl (decide (D = T.C_BadNumber)), V.bl (decide (D = T.C_BadOffers)), V.bl (decide (D = T.C_BadPart)), V.bl (decide (D = T.C_BadPrice)), V.bl (decide (D = T.C_BadReckoning)), V.bl (decide (D = T.C_BadRoads)), V.bl (decide (D = T.C_BadRow)), V.bl (decide (D = T.C_BadRule)), V.bl (decide (D = T.C_BadRules)), V.bl (decide (D = T.C_BadSpot)), V.bl (decide (D = T.C_BadTable)), V.bl (decide (D = T.C_BadTables)), V.bl (decide (D = T.C_BadText)), V.bl (decide (D = T.C_BadTimes))] from rfl]
    generalize upd H5a p5 (HO.lst [V.bl (decide (D = T.C_BadBook)), V.bl (decide (D = T.C_BadFlat)), V.bl (decide (D = T.C_BadKnown)), V.bl (decide (D = T.C_BadLengths)), V.bl (decide (D = T.C_BadLetter)), V.bl (decide (D = T.C_BadLetters)), V.bl (decide (D = T.C_BadMany)), V.bl (decide (D = T.C_BadMost)), V.bl (decide (D = T.C_BadName)), V.bl (decide (D = T.C_BadNames)), V.bl (decide (D = T.C_BadNumber)), V.bl (decide (D = T.C_BadOffers)), V.bl (decide (D = T.C_BadPart)), V.bl (decide (D = T.C_BadPrice)), V.bl (decide (D = T.C_BadReckoning)), V.bl (decide (D = T.C_BadRoads)), V.bl (decide (D = T.C_BadRow)), V.bl (decide (D = T.C_BadRule)), V.bl (decide (D = T.C_BadRules)), V.bl (decide (D = T.C_BadSpot)), V.bl (decide (D = T.C_BadTable)), V.bl (decide (D = T.C_BadTables)), V.bl (decide (D = T.C_BadText)), V.bl (decide (D = T.C_BadTimes))]) = H5b at *
    clear t5 hp5 eq5
    walk_at "rd"
    refine isV T er e1 T.e_BadWatch (n (by simp [ers])) ?_
    walk_at "rd"
    refine isV T er e1 T.e_BadWatchers (n (by simp [ers])) ?_
    walk_at "rd"
    refine isV T er e1 T.e_BadWatches (n (by simp [ers])) ?_
    walk_at "rd"
    refine isV T er e1 T.e_BadWeb (n (by simp [ers])) ?_
    walk_at "rd"
    refine ⟨by show 4 ≤ sizeLine; decide, fun q6 hq6 => ?_⟩
    have s6 := same_upd (o := HO.lst [V.bl (decide (D = T.C_BadWatch)), V.bl (decide (D = T.C_BadWatchers)), V.bl (decide (D = T.C_BadWatches)), V.bl (decide (D = T.C_BadWeb))]) hq6
    replace er := ErrSame er s6
    have eq6 : upd H5b q6 (HO.lst [V.bl (decide (D = T.C_BadWatch)), V.bl (decide (D = T.C_BadWatchers)), V.bl (decide (D = T.C_BadWatches)), V.bl (decide (D = T.C_BadWeb))]) q6 = some (HO.lst [V.bl (decide (D = T.C_BadWatch)), V.bl (decide (D = T.C_BadWatchers)), V.bl (decide (D = T.C_BadWatches)), V.bl (decide (D = T.C_BadWeb))]) := upd_same
    replace ek := s6 _ _ ek
    replace sc := sc.trans s6
    generalize upd H5b q6 (HO.lst [V.bl (decide (D = T.C_BadWatch)), V.bl (decide (D = T.C_BadWatchers)), V.bl (decide (D = T.C_BadWatches)), V.bl (decide (D = T.C_BadWeb))]) = H6a at *
    clear s6 hq6
    walk_at "rd"
    refine ⟨_, _, _, _, rfl, rfl, ek, eq6, by show 28 ≤ sizeLine; decide, fun p6 hp6 => ?_⟩
    have t6 := same_upd (o := HO.lst [V.bl (decide (D = T.C_BadBook)), V.bl (decide (D = T.C_BadFlat)), V.bl (decide (D = T.C_BadKnown)), V.bl (decide (D = T.C_BadLengths)), V.bl (decide (D = T.C_BadLetter)), V.bl (decide (D = T.C_BadLetters)), V.bl (decide (D = T.C_BadMany)), V.bl (decide (D = T.C_BadMost)), V.bl (decide (D = T.C_BadName)), V.bl (decide (D = T.C_BadNames)), V.bl (decide (D = T.C_BadNumber)), V.bl (decide (D = T.C_BadOffers)), V.bl (decide (D = T.C_BadPart)), V.bl (decide (D = T.C_BadPrice)), V.bl (decide (D = T.C_BadReckoning)), V.bl (decide (D = T.C_BadRoads)), V.bl (decide (D = T.C_BadRow)), V.bl (decide (D = T.C_BadRule)), V.bl (decide (D = T.C_BadRules)), V.bl (decide (D = T.C_BadSpot)), V.bl (decide (D = T.C_BadTable)), V.bl (decide (D = T.C_BadTables)), V.bl (decide (D = T.C_BadText)), V.bl (decide (D = T.C_BadTimes)), V.bl (decide (D = T.C_BadWatch)), V.bl (decide (D = T.C_BadWatchers)), V.bl (decide (D = T.C_BadWatches)), V.bl (decide (D = T.C_BadWeb))]) hp6
    replace er := ErrSame er t6
    replace ek : upd H6a p6 (HO.lst [V.bl (decide (D = T.C_BadBook)), V.bl (decide (D = T.C_BadFlat)), V.bl (decide (D = T.C_BadKnown)), V.bl (decide (D = T.C_BadLengths)), V.bl (decide (D = T.C_BadLetter)), V.bl (decide (D = T.C_BadLetters)), V.bl (decide (D = T.C_BadMany)), V.bl (decide (D = T.C_BadMost)), V.bl (decide (D = T.C_BadName)), V.bl (decide (D = T.C_BadNames)), V.bl (decide (D = T.C_BadNumber)), V.bl (decide (D = T.C_BadOffers)), V.bl (decide (D = T.C_BadPart)), V.bl (decide (D = T.C_BadPrice)), V.bl (decide (D = T.C_BadReckoning)), V.bl (decide (D = T.C_BadRoads)), V.bl (decide (D = T.C_BadRow)), V.bl (decide (D = T.C_BadRule)), V.bl (decide (D = T.C_BadRules)), V.bl (decide (D = T.C_BadSpot)), V.bl (decide (D = T.C_BadTable)), V.bl (decide (D = T.C_BadTables)), V.bl (decide (D = T.C_BadText)), V.bl (decide (D = T.C_BadTimes)), V.bl (decide (D = T.C_BadWatch)), V.bl (decide (D = T.C_BadWatchers)), V.bl (decide (D = T.C_BadWatches)), V.bl (decide (D = T.C_BadWeb))]) p6 = some (HO.lst [V.bl (decide (D = T.C_BadBook)), V.bl (decide (D = T.C_BadFlat)), V.bl (decide (D = T.C_BadKnown)), V.bl (decide (D = T.C_BadLengths)), V.bl (decide (D = T.C_BadLetter)), V.bl (decide (D = T.C_BadLetters)), V.bl (decide (D = T.C_BadMany)), V.bl (decide (D = T.C_BadMost)), V.bl (decide (D = T.C_BadName)), V.bl (decide (D = T.C_BadNames)), V.bl (decide (D = T.C_BadNumber)), V.bl (decide (D = T.C_BadOffers)), V.bl (decide (D = T.C_BadPart)), V.bl (decide (D = T.C_BadPrice)), V.bl (decide (D = T.C_BadReckoning)), V.bl (decide (D = T.C_BadRoads)), V.bl (decide (D = T.C_BadRow)), V.bl (decide (D = T.C_BadRule)), V.bl (decide (D = T.C_BadRules)), V.bl (decide (D = T.C_BadSpot)), V.bl (decide (D = T.C_BadTable)), V.bl (decide (D = T.C_BadTables)), V.bl (decide (D = T.C_BadText)), V.bl (decide (D = T.C_BadTimes)), V.bl (decide (D = T.C_BadWatch)), V.bl (decide (D = T.C_BadWatchers)), V.bl (decide (D = T.C_BadWatches)), V.bl (decide (D = T.C_BadWeb))]) := upd_same
    replace sc := sc.trans t6
    rw [show ([V.bl (decide (D = T.C_BadBook)), V.bl (decide (D = T.C_BadFlat)), V.bl (decide (D = T.C_BadKnown)), V.bl (decide (D = T.C_BadLengths)), V.bl (decide (D = T.C_BadLetter)), V.bl (decide (D = T.C_BadLetters)), V.bl (decide (D = T.C_BadMany)), V.bl (decide (D = T.C_BadMost)), V.bl (decide (D = T.C_BadName)), V.bl (decide (D = T.C_BadNames)), V.bl (decide (D = T.C_BadNumber)), V.bl (decide (D = T.C_BadOffers)), V.bl (decide (D = T.C_BadPart)), V.bl (decide (D = T.C_BadPrice)), V.bl (decide (D = T.C_BadReckoning)), V.bl (decide (D = T.C_BadRoads)), V.bl (decide (D = T.C_BadRow)), V.bl (decide (D = T.C_BadRule)), V.bl (decide (D = T.C_BadRules)), V.bl (decide (D = T.C_BadSpot)), V.bl (decide (D = T.C_BadTable)), V.bl (decide (D = T.C_BadTables)), V.bl (decide (D = T.C_BadText)), V.bl (decide (D = T.C_BadTimes))] ++ [V.bl (decide (D = T.C_BadWatch)), V.bl (decide (D = T.C_BadWatchers)), V.bl (decide (D = T.C_BadWatches)), V.bl (decide (D = T.C_BadWeb))] : List V) = [V.bl (decide (D = T.C_BadBook)), V.bl (decide (D = T.C_BadFlat)), V.bl (decide (D = T.C_BadKnown)), V.bl (decide (D = T.C_BadLengths)), V.bl (decide (D = T.C_BadLetter)), V.bl (decide (D = T.C_BadLetters)), V.bl (decide (D = T.C_BadMany)), V.bl (decide (D = T.C_BadMost)), V.bl (decide (D = T.C_BadName)), V.bl (decide (D = T.C_BadNames)), V.bl (decide (D = T.C_BadNumber)), V.bl (decide (D = T.C_BadOffers)), V.bl (decide (D = T.C_BadPart)), V.bl (decide (D = T.C_BadPrice)), V.bl (decide (D = T.C_BadReckoning)), V.bl (decide (D = T.C_BadRoads)), V.bl (decide (D = T.C_BadRow)), V.bl (decide (D = T.C_BadRule)), V.bl (decide (D = T.C_BadRules)), V.bl (decide (D = T.C_BadSpot)), V.bl (decide (D = T.C_BadTable)), V.bl (decide (D = T.C_BadTables)), V.bl (decide (D = T.C_BadText)), V.bl (decide (D = T.C_BadTimes)), V.bl (decide (D = T.C_BadWatch)), V.bl (decide (D = T.C_BadWatchers)), V.bl (decide (D = T.C_BadWatches)), V.bl (decide (D = T.C_BadWeb))] from rfl]
    generalize upd H6a p6 (HO.lst [V.bl (decide (D = T.C_BadBook)), V.bl (decide (D = T.C_BadFlat)), V.bl (decide (D = T.C_BadKnown)), V.bl (decide (D = T.C_BadLengths)), V.bl (decide (D = T.C_BadLetter)), V.bl (decide (D = T.C_BadLetters)), V.bl (decide (D = T.C_BadMany)), V.bl (decide (D = T.C_BadMost)), V.bl (decide (D = T.C_BadName)), V.bl (decide (D = T.C_BadNames)), V.bl (decide (D = T.C_BadNumber)), V.bl (decide (D = T.C_BadOffers)), V.bl (decide (D = T.C_BadPart)), V.bl (decide (D = T.C_BadPrice)), V.bl (decide (D = T.C_BadReckoning)), V.bl (decide (D = T.C_BadRoads)), V.bl (decide (D = T.C_BadRow)), V.bl (decide (D = T.C_BadRule)), V.bl (decide (D = T.C_BadRules)), V.bl (decide (D = T.C_BadSpot)), V.bl (decide (D = T.C_BadTable)), V.bl (decide (D = T.C_BadTables)), V.bl (decide (D = T.C_BadText)), V.bl (decide (D = T.C_BadTimes)), V.bl (decide (D = T.C_BadWatch)), V.bl (decide (D = T.C_BadWatchers)), V.bl (decide (D = T.C_BadWatches)), V.bl (decide (D = T.C_BadWeb))]) = H6b at *
    clear t6 hp6 eq6
    walk_at "rd"
    refine isV T er e1 T.e_BadWord (n (by simp [ers])) ?_
    walk_at "rd"
    refine isV T er e1 T.e_BadWords (n (by simp [ers])) ?_
    walk_at "rd"
    refine isV T er e1 T.e_BadWorth (n (by simp [ers])) ?_
    walk_at "rd"
    refine isV T er e1 T.e_BadZigzag (n (by simp [ers])) ?_
    walk_at "rd"
    refine ⟨by show 4 ≤ sizeLine; decide, fun q7 hq7 => ?_⟩
    have s7 := same_upd (o := HO.lst [V.bl (decide (D = T.C_BadWord)), V.bl (decide (D = T.C_BadWords)), V.bl (decide (D = T.C_BadWorth)), V.bl (decide (D = T.C_BadZigzag))]) hq7
    replace er := ErrSame er s7
    have eq7 : upd H6b q7 (HO.lst [V.bl (decide (D = T.C_BadWord)), V.bl (decide (D = T.C_BadWords)), V.bl (decide (D = T.C_BadWorth)), V.bl (decide (D = T.C_BadZigzag))]) q7 = some (HO.lst [V.bl (decide (D = T.C_BadWord)), V.bl (decide (D = T.C_BadWords)), V.bl (decide (D = T.C_BadWorth)), V.bl (decide (D = T.C_BadZigzag))]) := upd_same
    replace ek := s7 _ _ ek
    replace sc := sc.trans s7
    generalize upd H6b q7 (HO.lst [V.bl (decide (D = T.C_BadWord)), V.bl (decide (D = T.C_BadWords)), V.bl (decide (D = T.C_BadWorth)), V.bl (decide (D = T.C_BadZigzag))]) = H7a at *
    clear s7 hq7
    walk_at "rd"
    refine ⟨_, _, _, _, rfl, rfl, ek, eq7, by show 32 ≤ sizeLine; decide, fun p7 hp7 => ?_⟩
    have t7 := same_upd (o := HO.lst [V.bl (decide (D = T.C_BadBook)), V.bl (decide (D = T.C_BadFlat)), V.bl (decide (D = T.C_BadKnown)), V.bl (decide (D = T.C_BadLengths)), V.bl (decide (D = T.C_BadLetter)), V.bl (decide (D = T.C_BadLetters)), V.bl (decide (D = T.C_BadMany)), V.bl (decide (D = T.C_BadMost)), V.bl (decide (D = T.C_BadName)), V.bl (decide (D = T.C_BadNames)), V.bl (decide (D = T.C_BadNumber)), V.bl (decide (D = T.C_BadOffers)), V.bl (decide (D = T.C_BadPart)), V.bl (decide (D = T.C_BadPrice)), V.bl (decide (D = T.C_BadReckoning)), V.bl (decide (D = T.C_BadRoads)), V.bl (decide (D = T.C_BadRow)), V.bl (decide (D = T.C_BadRule)), V.bl (decide (D = T.C_BadRules)), V.bl (decide (D = T.C_BadSpot)), V.bl (decide (D = T.C_BadTable)), V.bl (decide (D = T.C_BadTables)), V.bl (decide (D = T.C_BadText)), V.bl (decide (D = T.C_BadTimes)), V.bl (decide (D = T.C_BadWatch)), V.bl (decide (D = T.C_BadWatchers)), V.bl (decide (D = T.C_BadWatches)), V.bl (decide (D = T.C_BadWeb)), V.bl (decide (D = T.C_BadWord)), V.bl (decide (D = T.C_BadWords)), V.bl (decide (D = T.C_BadWorth)), V.bl (decide (D = T.C_BadZigzag))]) hp7
    replace er := ErrSame er t7
    replace ek : upd H7a p7 (HO.lst [V.bl (decide (D = T.C_BadBook)), V.bl (decide (D = T.C_BadFlat)), V.bl (decide (D = T.C_BadKnown)), V.bl (decide (D = T.C_BadLengths)), V.bl (decide (D = T.C_BadLetter)), V.bl (decide (D = T.C_BadLetters)), V.bl (decide (D = T.C_BadMany)), V.bl (decide (D = T.C_BadMost)), V.bl (decide (D = T.C_BadName)), V.bl (decide (D = T.C_BadNames)), V.bl (decide (D = T.C_BadNumber)), V.bl (decide (D = T.C_BadOffers)), V.bl (decide (D = T.C_BadPart)), V.bl (decide (D = T.C_BadPrice)), V.bl (decide (D = T.C_BadReckoning)), V.bl (decide (D = T.C_BadRoads)), V.bl (decide (D = T.C_BadRow)), V.bl (decide (D = T.C_BadRule)), V.bl (decide (D = T.C_BadRules)), V.bl (decide (D = T.C_BadSpot)), V.bl (decide (D = T.C_BadTable)), V.bl (decide (D = T.C_BadTables)), V.bl (decide (D = T.C_BadText)), V.bl (decide (D = T.C_BadTimes)), V.bl (decide (D = T.C_BadWatch)), V.bl (decide (D = T.C_BadWatchers)), V.bl (decide (D = T.C_BadWatches)), V.bl (decide (D = T.C_BadWeb)), V.bl (decide (D = T.C_BadWord)), V.bl (decide (D = T.C_BadWords)), V.bl (decide (D = T.C_BadWorth)), V.bl (decide (D = T.C_BadZigzag))]) p7 = some (HO.lst [V.bl (decide (D = T.C_BadBook)), V.bl (decide (D = T.C_BadFlat)), V.bl (decide (D = T.C_BadKnown)), V.bl (decide (D = T.C_BadLengths)), V.bl (decide (D = T.C_BadLetter)), V.bl (decide (D = T.C_BadLetters)), V.bl (decide (D = T.C_BadMany)), V.bl (decide (D = T.C_BadMost)), V.bl (decide (D = T.C_BadName)), V.bl (decide (D = T.C_BadNames)), V.bl (decide (D = T.C_BadNumber)), V.bl (decide (D = T.C_BadOffers)), V.bl (decide (D = T.C_BadPart)), V.bl (decide (D = T.C_BadPrice)), V.bl (decide (D = T.C_BadReckoning)), V.bl (decide (D = T.C_BadRoads)), V.bl (decide (D = T.C_BadRow)), V.bl (decide (D = T.C_BadRule)), V.bl (decide (D = T.C_BadRules)), V.bl (decide (D = T.C_BadSpot)), V.bl (decide (D = T.C_BadTable)), V.bl (decide (D = T.C_BadTables)), V.bl (decide (D = T.C_BadText)), V.bl (decide (D = T.C_BadTimes)), V.bl (decide (D = T.C_BadWatch)), V.bl (decide (D = T.C_BadWatchers)), V.bl (decide (D = T.C_BadWatches)), V.bl (decide (D = T.C_BadWeb)), V.bl (decide (D = T.C_BadWord)), V.bl (decide (D = T.C_BadWords)), V.bl (decide (D = T.C_BadWorth)), V.bl (decide (D = T.C_BadZigzag))]) := upd_same
    replace sc := sc.trans t7
    rw [show ([V.bl (decide (D = T.C_BadBook)), V.bl (decide (D = T.C_BadFlat)), V.bl (decide (D = T.C_BadKnown)), V.bl (decide (D = T.C_BadLengths)), V.bl (decide (D = T.C_BadLetter)), V.bl (decide (D = T.C_BadLetters)), V.bl (decide (D = T.C_BadMany)), V.bl (decide (D = T.C_BadMost)), V.bl (decide (D = T.C_BadName)), V.bl (decide (D = T.C_BadNames)), V.bl (decide (D = T.C_BadNumber)), V.bl (decide (D = T.C_BadOffers)), V.bl (decide (D = T.C_BadPart)), V.bl (decide (D = T.C_BadPrice)), V.bl (decide (D = T.C_BadReckoning)), V.bl (decide (D = T.C_BadRoads)), V.bl (decide (D = T.C_BadRow)), V.bl (decide (D = T.C_BadRule)), V.bl (decide (D = T.C_BadRules)), V.bl (decide (D = T.C_BadSpot)), V.bl (decide (D = T.C_BadTable)), V.bl (decide (D = T.C_BadTables)), V.bl (decide (D = T.C_BadText)), V.bl (decide (D = T.C_BadTimes)), V.bl (decide (D = T.C_BadWatch)), V.bl (decide (D = T.C_BadWatchers)), V.bl (decide (D = T.C_BadWatches)), V.bl (decide (D = T.C_BadWeb))] ++ [V.bl (decide (D = T.C_BadWord)), V.bl (decide (D = T.C_BadWords)), V.bl (decide (D = T.C_BadWorth)), V.bl (decide (D = T.C_BadZigzag))] : List V) = [V.bl (decide (D = T.C_BadBook)), V.bl (decide (D = T.C_BadFlat)), V.bl (decide (D = T.C_BadKnown)), V.bl (decide (D = T.C_BadLengths)), V.bl (decide (D = T.C_BadLetter)), V.bl (decide (D = T.C_BadLetters)), V.bl (decide (D = T.C_BadMany)), V.bl (decide (D = T.C_BadMost)), V.bl (decide (D = T.C_BadName)), V.bl (decide (D = T.C_BadNames)), V.bl (decide (D = T.C_BadNumber)), V.bl (decide (D = T.C_BadOffers)), V.bl (decide (D = T.C_BadPart)), V.bl (decide (D = T.C_BadPrice)), V.bl (decide (D = T.C_BadReckoning)), V.bl (decide (D = T.C_BadRoads)), V.bl (decide (D = T.C_BadRow)), V.bl (decide (D = T.C_BadRule)), V.bl (decide (D = T.C_BadRules)), V.bl (decide (D = T.C_BadSpot)), V.bl (decide (D = T.C_BadTable)), V.bl (decide (D = T.C_BadTables)), V.bl (decide (D = T.C_BadText)), V.bl (decide (D = T.C_BadTimes)), V.bl (decide (D = T.C_BadWatch)), V.bl (decide (D = T.C_BadWatchers)), V.bl (decide (D = T.C_BadWatches)), V.bl (decide (D = T.C_BadWeb)), V.bl (decide (D = T.C_BadWord)), V.bl (decide (D = T.C_BadWords)), V.bl (decide (D = T.C_BadWorth)), V.bl (decide (D = T.C_BadZigzag))] from rfl]
    generalize upd H7a p7 (HO.lst [V.bl (decide (D = T.C_BadBook)), V.bl (decide (D = T.C_BadFlat)), V.bl (decide (D = T.C_BadKnown)), V.bl (decide (D = T.C_BadLengths)), V.bl (decide (D = T.C_BadLetter)), V.bl (decide (D = T.C_BadLetters)), V.bl (decide (D = T.C_BadMany)), V.bl (decide (D = T.C_BadMost)), V.bl (decide (D = T.C_BadName)), V.bl (decide (D = T.C_BadNames)), V.bl (decide (D = T.C_BadNumber)), V.bl (decide (D = T.C_BadOffers)), V.bl (decide (D = T.C_BadPart)), V.bl (decide (D = T.C_BadPrice)), V.bl (decide (D = T.C_BadReckoning)), V.bl (decide (D = T.C_BadRoads)), V.bl (decide (D = T.C_BadRow)), V.bl (decide (D = T.C_BadRule)), V.bl (decide (D = T.C_BadRules)), V.bl (decide (D = T.C_BadSpot)), V.bl (decide (D = T.C_BadTable)), V.bl (decide (D = T.C_BadTables)), V.bl (decide (D = T.C_BadText)), V.bl (decide (D = T.C_BadTimes)), V.bl (decide (D = T.C_BadWatch)), V.bl (decide (D = T.C_BadWatchers)), V.bl (decide (D = T.C_BadWatches)), V.bl (decide (D = T.C_BadWeb)), V.bl (decide (D = T.C_BadWord)), V.bl (decide (D = T.C_BadWords)), V.bl (decide (D = T.C_BadWorth)), V.bl (decide (D = T.C_BadZigzag))]) = H7b at *
    clear t7 hp7 eq7
    walk_at "rd"
    refine isV T er e1 T.e_ManyRows (n (by simp [ers])) ?_
    walk_at "rd"
    refine isV T er e1 T.e_NoRow (n (by simp [ers])) ?_
    walk_at "rd"
    refine isV T er e1 T.e_NotTold (n (by simp [ers])) ?_
    walk_at "rd"
    refine ⟨by show 3 ≤ sizeLine; decide, fun q8 hq8 => ?_⟩
    have s8 := same_upd (o := HO.lst [V.bl (decide (D = T.C_ManyRows)), V.bl (decide (D = T.C_NoRow)), V.bl (decide (D = T.C_NotTold))]) hq8
    replace er := ErrSame er s8
    have eq8 : upd H7b q8 (HO.lst [V.bl (decide (D = T.C_ManyRows)), V.bl (decide (D = T.C_NoRow)), V.bl (decide (D = T.C_NotTold))]) q8 = some (HO.lst [V.bl (decide (D = T.C_ManyRows)), V.bl (decide (D = T.C_NoRow)), V.bl (decide (D = T.C_NotTold))]) := upd_same
    replace ek := s8 _ _ ek
    replace sc := sc.trans s8
    generalize upd H7b q8 (HO.lst [V.bl (decide (D = T.C_ManyRows)), V.bl (decide (D = T.C_NoRow)), V.bl (decide (D = T.C_NotTold))]) = H8a at *
    clear s8 hq8
    walk_at "rd"
    refine ⟨_, _, _, _, rfl, rfl, ek, eq8, by show 35 ≤ sizeLine; decide, fun p8 hp8 => ?_⟩
    have t8 := same_upd (o := HO.lst [V.bl (decide (D = T.C_BadBook)), V.bl (decide (D = T.C_BadFlat)), V.bl (decide (D = T.C_BadKnown)), V.bl (decide (D = T.C_BadLengths)), V.bl (decide (D = T.C_BadLetter)), V.bl (decide (D = T.C_BadLetters)), V.bl (decide (D = T.C_BadMany)), V.bl (decide (D = T.C_BadMost)), V.bl (decide (D = T.C_BadName)), V.bl (decide (D = T.C_BadNames)), V.bl (decide (D = T.C_BadNumber)), V.bl (decide (D = T.C_BadOffers)), V.bl (decide (D = T.C_BadPart)), V.bl (decide (D = T.C_BadPrice)), V.bl (decide (D = T.C_BadReckoning)), V.bl (decide (D = T.C_BadRoads)), V.bl (decide (D = T.C_BadRow)), V.bl (decide (D = T.C_BadRule)), V.bl (decide (D = T.C_BadRules)), V.bl (decide (D = T.C_BadSpot)), V.bl (decide (D = T.C_BadTable)), V.bl (decide (D = T.C_BadTables)), V.bl (decide (D = T.C_BadText)), V.bl (decide (D = T.C_BadTimes)), V.bl (decide (D = T.C_BadWatch)), V.bl (decide (D = T.C_BadWatchers)), V.bl (decide (D = T.C_BadWatches)), V.bl (decide (D = T.C_BadWeb)), V.bl (decide (D = T.C_BadWord)), V.bl (decide (D = T.C_BadWords)), V.bl (decide (D = T.C_BadWorth)), V.bl (decide (D = T.C_BadZigzag)), V.bl (decide (D = T.C_ManyRows)), V.bl (decide (D = T.C_NoRow)), V.bl (decide (D = T.C_NotTold))]) hp8
    replace er := ErrSame er t8
    replace ek : upd H8a p8 (HO.lst [V.bl (decide (D = T.C_BadBook)), V.bl (decide (D = T.C_BadFlat)), V.bl (decide (D = T.C_BadKnown)), V.bl (decide (D = T.C_BadLengths)), V.bl (decide (D = T.C_BadLetter)), V.bl (decide (D = T.C_BadLetters)), V.bl (decide (D = T.C_BadMany)), V.bl (decide (D = T.C_BadMost)), V.bl (decide (D = T.C_BadName)), V.bl (decide (D = T.C_BadNames)), V.bl (decide (D = T.C_BadNumber)), V.bl (decide (D = T.C_BadOffers)), V.bl (decide (D = T.C_BadPart)), V.bl (decide (D = T.C_BadPrice)), V.bl (decide (D = T.C_BadReckoning)), V.bl (decide (D = T.C_BadRoads)), V.bl (decide (D = T.C_BadRow)), V.bl (decide (D = T.C_BadRule)), V.bl (decide (D = T.C_BadRules)), V.bl (decide (D = T.C_BadSpot)), V.bl (decide (D = T.C_BadTable)), V.bl (decide (D = T.C_BadTables)), V.bl (decide (D = T.C_BadText)), V.bl (decide (D = T.C_BadTimes)), V.bl (decide (D = T.C_BadWatch)), V.bl (decide (D = T.C_BadWatchers)), V.bl (decide (D = T.C_BadWatches)), V.bl (decide (D = T.C_BadWeb)), V.bl (decide (D = T.C_BadWord)), V.bl (decide (D = T.C_BadWords)), V.bl (decide (D = T.C_BadWorth)), V.bl (decide (D = T.C_BadZigzag)), V.bl (decide (D = T.C_ManyRows)), V.bl (decide (D = T.C_NoRow)), V.bl (decide (D = T.C_NotTold))]) p8 = some (HO.lst [V.bl (decide (D = T.C_BadBook)), V.bl (decide (D = T.C_BadFlat)), V.bl (decide (D = T.C_BadKnown)), V.bl (decide (D = T.C_BadLengths)), V.bl (decide (D = T.C_BadLetter)), V.bl (decide (D = T.C_BadLetters)), V.bl (decide (D = T.C_BadMany)), V.bl (decide (D = T.C_BadMost)), V.bl (decide (D = T.C_BadName)), V.bl (decide (D = T.C_BadNames)), V.bl (decide (D = T.C_BadNumber)), V.bl (decide (D = T.C_BadOffers)), V.bl (decide (D = T.C_BadPart)), V.bl (decide (D = T.C_BadPrice)), V.bl (decide (D = T.C_BadReckoning)), V.bl (decide (D = T.C_BadRoads)), V.bl (decide (D = T.C_BadRow)), V.bl (decide (D = T.C_BadRule)), V.bl (decide (D = T.C_BadRules)), V.bl (decide (D = T.C_BadSpot)), V.bl (decide (D = T.C_BadTable)), V.bl (decide (D = T.C_BadTables)), V.bl (decide (D = T.C_BadText)), V.bl (decide (D = T.C_BadTimes)), V.bl (decide (D = T.C_BadWatch)), V.bl (decide (D = T.C_BadWatchers)), V.bl (decide (D = T.C_BadWatches)), V.bl (decide (D = T.C_BadWeb)), V.bl (decide (D = T.C_BadWord)), V.bl (decide (D = T.C_BadWords)), V.bl (decide (D = T.C_BadWorth)), V.bl (decide (D = T.C_BadZigzag)), V.bl (decide (D = T.C_ManyRows)), V.bl (decide (D = T.C_NoRow)), V.bl (decide (D = T.C_NotTold))]) := upd_same
    replace sc := sc.trans t8
    rw [show ([V.bl (decide (D = T.C_BadBook)), V.bl (decide (D = T.C_BadFlat)), V.bl (decide (D = T.C_BadKnown)), V.bl (decide (D = T.C_BadLengths)), V.bl (decide (D = T.C_BadLetter)), V.bl (decide (D = T.C_BadLetters)), V.bl (decide (D = T.C_BadMany)), V.bl (decide (D = T.C_BadMost)), V.bl (decide (D = T.C_BadName)), V.bl (decide (D = T.C_BadNames)), V.bl (decide (D = T.C_BadNumber)), V.bl (decide (D = T.C_BadOffers)), V.bl (decide (D = T.C_BadPart)), V.bl (decide (D = T.C_BadPrice)), V.bl (decide (D = T.C_BadReckoning)), V.bl (decide (D = T.C_BadRoads)), V.bl (decide (D = T.C_BadRow)), V.bl (decide (D = T.C_BadRule)), V.bl (decide (D = T.C_BadRules)), V.bl (decide (D = T.C_BadSpot)), V.bl (decide (D = T.C_BadTable)), V.bl (decide (D = T.C_BadTables)), V.bl (decide (D = T.C_BadText)), V.bl (decide (D = T.C_BadTimes)), V.bl (decide (D = T.C_BadWatch)), V.bl (decide (D = T.C_BadWatchers)), V.bl (decide (D = T.C_BadWatches)), V.bl (decide (D = T.C_BadWeb)), V.bl (decide (D = T.C_BadWord)), V.bl (decide (D = T.C_BadWords)), V.bl (decide (D = T.C_BadWorth)), V.bl (decide (D = T.C_BadZigzag))] ++ [V.bl (decide (D = T.C_ManyRows)), V.bl (decide (D = T.C_NoRow)), V.bl (decide (D = T.C_NotTold))] : List V) = [V.bl (decide (D = T.C_BadBook)), V.bl (decide (D = T.C_BadFlat)), V.bl (decide (D = T.C_BadKnown)), V.bl (decide (D = T.C_BadLengths)), V.bl (decide (D = T.C_BadLetter)), V.bl (decide (D = T.C_BadLetters)), V.bl (decide (D = T.C_BadMany)), V.bl (decide (D = T.C_BadMost)), V.bl (decide (D = T.C_BadName)), V.bl (decide (D = T.C_BadNames)), V.bl (decide (D = T.C_BadNumber)), V.bl (decide (D = T.C_BadOffers)), V.bl (decide (D = T.C_BadPart)), V.bl (decide (D = T.C_BadPrice)), V.bl (decide (D = T.C_BadReckoning)), V.bl (decide (D = T.C_BadRoads)), V.bl (decide (D = T.C_BadRow)), V.bl (decide (D = T.C_BadRule)), V.bl (decide (D = T.C_BadRules)), V.bl (decide (D = T.C_BadSpot)), V.bl (decide (D = T.C_BadTable)), V.bl (decide (D = T.C_BadTables)), V.bl (decide (D = T.C_BadText)), V.bl (decide (D = T.C_BadTimes)), V.bl (decide (D = T.C_BadWatch)), V.bl (decide (D = T.C_BadWatchers)), V.bl (decide (D = T.C_BadWatches)), V.bl (decide (D = T.C_BadWeb)), V.bl (decide (D = T.C_BadWord)), V.bl (decide (D = T.C_BadWords)), V.bl (decide (D = T.C_BadWorth)), V.bl (decide (D = T.C_BadZigzag)), V.bl (decide (D = T.C_ManyRows)), V.bl (decide (D = T.C_NoRow)), V.bl (decide (D = T.C_NotTold))] from rfl]
    generalize upd H8a p8 (HO.lst [V.bl (decide (D = T.C_BadBook)), V.bl (decide (D = T.C_BadFlat)), V.bl (decide (D = T.C_BadKnown)), V.bl (decide (D = T.C_BadLengths)), V.bl (decide (D = T.C_BadLetter)), V.bl (decide (D = T.C_BadLetters)), V.bl (decide (D = T.C_BadMany)), V.bl (decide (D = T.C_BadMost)), V.bl (decide (D = T.C_BadName)), V.bl (decide (D = T.C_BadNames)), V.bl (decide (D = T.C_BadNumber)), V.bl (decide (D = T.C_BadOffers)), V.bl (decide (D = T.C_BadPart)), V.bl (decide (D = T.C_BadPrice)), V.bl (decide (D = T.C_BadReckoning)), V.bl (decide (D = T.C_BadRoads)), V.bl (decide (D = T.C_BadRow)), V.bl (decide (D = T.C_BadRule)), V.bl (decide (D = T.C_BadRules)), V.bl (decide (D = T.C_BadSpot)), V.bl (decide (D = T.C_BadTable)), V.bl (decide (D = T.C_BadTables)), V.bl (decide (D = T.C_BadText)), V.bl (decide (D = T.C_BadTimes)), V.bl (decide (D = T.C_BadWatch)), V.bl (decide (D = T.C_BadWatchers)), V.bl (decide (D = T.C_BadWatches)), V.bl (decide (D = T.C_BadWeb)), V.bl (decide (D = T.C_BadWord)), V.bl (decide (D = T.C_BadWords)), V.bl (decide (D = T.C_BadWorth)), V.bl (decide (D = T.C_BadZigzag)), V.bl (decide (D = T.C_ManyRows)), V.bl (decide (D = T.C_NoRow)), V.bl (decide (D = T.C_NotTold))]) = H8b at *
    clear t8 hp8 eq8
    walk_at "rd"
    refine isV T er e1 T.e_BadEnds (n (by simp [ers])) ?_
    walk_at "rd"
    refine isV T er e1 T.e_BadMap (n (by simp [ers])) ?_
    walk_at "rd"
    refine isV T er e1 T.e_BadMenu (n (by simp [ers])) ?_
    walk_at "rd"
    refine isV T er e1 T.e_BadMoves (n (by simp [ers])) ?_
    walk_at "rd"
    refine ⟨by show 4 ≤ sizeLine; decide, fun q9 hq9 => ?_⟩
    have s9 := same_upd (o := HO.lst [V.bl (decide (D = T.C_BadEnds)), V.bl (decide (D = T.C_BadMap)), V.bl (decide (D = T.C_BadMenu)), V.bl (decide (D = T.C_BadMoves))]) hq9
    replace er := ErrSame er s9
    have eq9 : upd H8b q9 (HO.lst [V.bl (decide (D = T.C_BadEnds)), V.bl (decide (D = T.C_BadMap)), V.bl (decide (D = T.C_BadMenu)), V.bl (decide (D = T.C_BadMoves))]) q9 = some (HO.lst [V.bl (decide (D = T.C_BadEnds)), V.bl (decide (D = T.C_BadMap)), V.bl (decide (D = T.C_BadMenu)), V.bl (decide (D = T.C_BadMoves))]) := upd_same
    replace ek := s9 _ _ ek
    replace sc := sc.trans s9
    generalize upd H8b q9 (HO.lst [V.bl (decide (D = T.C_BadEnds)), V.bl (decide (D = T.C_BadMap)), V.bl (decide (D = T.C_BadMenu)), V.bl (decide (D = T.C_BadMoves))]) = H9a at *
    clear s9 hq9
    walk_at "rd"
    refine ⟨_, _, _, _, rfl, rfl, ek, eq9, by show 39 ≤ sizeLine; decide, fun p9 hp9 => ?_⟩
    have t9 := same_upd (o := HO.lst [V.bl (decide (D = T.C_BadBook)), V.bl (decide (D = T.C_BadFlat)), V.bl (decide (D = T.C_BadKnown)), V.bl (decide (D = T.C_BadLengths)), V.bl (decide (D = T.C_BadLetter)), V.bl (decide (D = T.C_BadLetters)), V.bl (decide (D = T.C_BadMany)), V.bl (decide (D = T.C_BadMost)), V.bl (decide (D = T.C_BadName)), V.bl (decide (D = T.C_BadNames)), V.bl (decide (D = T.C_BadNumber)), V.bl (decide (D = T.C_BadOffers)), V.bl (decide (D = T.C_BadPart)), V.bl (decide (D = T.C_BadPrice)), V.bl (decide (D = T.C_BadReckoning)), V.bl (decide (D = T.C_BadRoads)), V.bl (decide (D = T.C_BadRow)), V.bl (decide (D = T.C_BadRule)), V.bl (decide (D = T.C_BadRules)), V.bl (decide (D = T.C_BadSpot)), V.bl (decide (D = T.C_BadTable)), V.bl (decide (D = T.C_BadTables)), V.bl (decide (D = T.C_BadText)), V.bl (decide (D = T.C_BadTimes)), V.bl (decide (D = T.C_BadWatch)), V.bl (decide (D = T.C_BadWatchers)), V.bl (decide (D = T.C_BadWatches)), V.bl (decide (D = T.C_BadWeb)), V.bl (decide (D = T.C_BadWord)), V.bl (decide (D = T.C_BadWords)), V.bl (decide (D = T.C_BadWorth)), V.bl (decide (D = T.C_BadZigzag)), V.bl (decide (D = T.C_ManyRows)), V.bl (decide (D = T.C_NoRow)), V.bl (decide (D = T.C_NotTold)), V.bl (decide (D = T.C_BadEnds)), V.bl (decide (D = T.C_BadMap)), V.bl (decide (D = T.C_BadMenu)), V.bl (decide (D = T.C_BadMoves))]) hp9
    replace er := ErrSame er t9
    replace ek : upd H9a p9 (HO.lst [V.bl (decide (D = T.C_BadBook)), V.bl (decide (D = T.C_BadFlat)), V.bl (decide (D = T.C_BadKnown)), V.bl (decide (D = T.C_BadLengths)), V.bl (decide (D = T.C_BadLetter)), V.bl (decide (D = T.C_BadLetters)), V.bl (decide (D = T.C_BadMany)), V.bl (decide (D = T.C_BadMost)), V.bl (decide (D = T.C_BadName)), V.bl (decide (D = T.C_BadNames)), V.bl (decide (D = T.C_BadNumber)), V.bl (decide (D = T.C_BadOffers)), V.bl (decide (D = T.C_BadPart)), V.bl (decide (D = T.C_BadPrice)), V.bl (decide (D = T.C_BadReckoning)), V.bl (decide (D = T.C_BadRoads)), V.bl (decide (D = T.C_BadRow)), V.bl (decide (D = T.C_BadRule)), V.bl (decide (D = T.C_BadRules)), V.bl (decide (D = T.C_BadSpot)), V.bl (decide (D = T.C_BadTable)), V.bl (decide (D = T.C_BadTables)), V.bl (decide (D = T.C_BadText)), V.bl (decide (D = T.C_BadTimes)), V.bl (decide (D = T.C_BadWatch)), V.bl (decide (D = T.C_BadWatchers)), V.bl (decide (D = T.C_BadWatches)), V.bl (decide (D = T.C_BadWeb)), V.bl (decide (D = T.C_BadWord)), V.bl (decide (D = T.C_BadWords)), V.bl (decide (D = T.C_BadWorth)), V.bl (decide (D = T.C_BadZigzag)), V.bl (decide (D = T.C_ManyRows)), V.bl (decide (D = T.C_NoRow)), V.bl (decide (D = T.C_NotTold)), V.bl (decide (D = T.C_BadEnds)), V.bl (decide (D = T.C_BadMap)), V.bl (decide (D = T.C_BadMenu)), V.bl (decide (D = T.C_BadMoves))]) p9 = some (HO.lst [V.bl (decide (D = T.C_BadBook)), V.bl (decide (D = T.C_BadFlat)), V.bl (decide (D = T.C_BadKnown)), V.bl (decide (D = T.C_BadLengths)), V.bl (decide (D = T.C_BadLetter)), V.bl (decide (D = T.C_BadLetters)), V.bl (decide (D = T.C_BadMany)), V.bl (decide (D = T.C_BadMost)), V.bl (decide (D = T.C_BadName)), V.bl (decide (D = T.C_BadNames)), V.bl (decide (D = T.C_BadNumber)), V.bl (decide (D = T.C_BadOffers)), V.bl (decide (D = T.C_BadPart)), V.bl (decide (D = T.C_BadPrice)), V.bl (decide (D = T.C_BadReckoning)), V.bl (decide (D = T.C_BadRoads)), V.bl (decide (D = T.C_BadRow)), V.bl (decide (D = T.C_BadRule)), V.bl (decide (D = T.C_BadRules)), V.bl (decide (D = T.C_BadSpot)), V.bl (decide (D = T.C_BadTable)), V.bl (decide (D = T.C_BadTables)), V.bl (decide (D = T.C_BadText)), V.bl (decide (D = T.C_BadTimes)), V.bl (decide (D = T.C_BadWatch)), V.bl (decide (D = T.C_BadWatchers)), V.bl (decide (D = T.C_BadWatches)), V.bl (decide (D = T.C_BadWeb)), V.bl (decide (D = T.C_BadWord)), V.bl (decide (D = T.C_BadWords)), V.bl (decide (D = T.C_BadWorth)), V.bl (decide (D = T.C_BadZigzag)), V.bl (decide (D = T.C_ManyRows)), V.bl (decide (D = T.C_NoRow)), V.bl (decide (D = T.C_NotTold)), V.bl (decide (D = T.C_BadEnds)), V.bl (decide (D = T.C_BadMap)), V.bl (decide (D = T.C_BadMenu)), V.bl (decide (D = T.C_BadMoves))]) := upd_same
    replace sc := sc.trans t9
    rw [show ([V.bl (decide (D = T.C_BadBook)), V.bl (decide (D = T.C_BadFlat)), V.bl (decide (D = T.C_BadKnown)), V.bl (decide (D = T.C_BadLengths)), V.bl (decide (D = T.C_BadLetter)), V.bl (decide (D = T.C_BadLetters)), V.bl (decide (D = T.C_BadMany)), V.bl (decide (D = T.C_BadMost)), V.bl (decide (D = T.C_BadName)), V.bl (decide (D = T.C_BadNames)), V.bl (decide (D = T.C_BadNumber)), V.bl (decide (D = T.C_BadOffers)), V.bl (decide (D = T.C_BadPart)), V.bl (decide (D = T.C_BadPrice)), V.bl (decide (D = T.C_BadReckoning)), V.bl (decide (D = T.C_BadRoads)), V.bl (decide (D = T.C_BadRow)), V.bl (decide (D = T.C_BadRule)), V.bl (decide (D = T.C_BadRules)), V.bl (decide (D = T.C_BadSpot)), V.bl (decide (D = T.C_BadTable)), V.bl (decide (D = T.C_BadTables)), V.bl (decide (D = T.C_BadText)), V.bl (decide (D = T.C_BadTimes)), V.bl (decide (D = T.C_BadWatch)), V.bl (decide (D = T.C_BadWatchers)), V.bl (decide (D = T.C_BadWatches)), V.bl (decide (D = T.C_BadWeb)), V.bl (decide (D = T.C_BadWord)), V.bl (decide (D = T.C_BadWords)), V.bl (decide (D = T.C_BadWorth)), V.bl (decide (D = T.C_BadZigzag)), V.bl (decide (D = T.C_ManyRows)), V.bl (decide (D = T.C_NoRow)), V.bl (decide (D = T.C_NotTold))] ++ [V.bl (decide (D = T.C_BadEnds)), V.bl (decide (D = T.C_BadMap)), V.bl (decide (D = T.C_BadMenu)), V.bl (decide (D = T.C_BadMoves))] : List V) = [V.bl (decide (D = T.C_BadBook)), V.bl (decide (D = T.C_BadFlat)), V.bl (decide (D = T.C_BadKnown)), V.bl (decide (D = T.C_BadLengths)), V.bl (decide (D = T.C_BadLetter)), V.bl (decide (D = T.C_BadLetters)), V.bl (decide (D = T.C_BadMany)), V.bl (decide (D = T.C_BadMost)), V.bl (decide (D = T.C_BadName)), V.bl (decide (D = T.C_BadNames)), V.bl (decide (D = T.C_BadNumber)), V.bl (decide (D = T.C_BadOffers)), V.bl (decide (D = T.C_BadPart)), V.bl (decide (D = T.C_BadPrice)), V.bl (decide (D = T.C_BadReckoning)), V.bl (decide (D = T.C_BadRoads)), V.bl (decide (D = T.C_BadRow)), V.bl (decide (D = T.C_BadRule)), V.bl (decide (D = T.C_BadRules)), V.bl (decide (D = T.C_BadSpot)), V.bl (decide (D = T.C_BadTable)), V.bl (decide (D = T.C_BadTables)), V.bl (decide (D = T.C_BadText)), V.bl (decide (D = T.C_BadTimes)), V.bl (decide (D = T.C_BadWatch)), V.bl (decide (D = T.C_BadWatchers)), V.bl (decide (D = T.C_BadWatches)), V.bl (decide (D = T.C_BadWeb)), V.bl (decide (D = T.C_BadWord)), V.bl (decide (D = T.C_BadWords)), V.bl (decide (D = T.C_BadWorth)), V.bl (decide (D = T.C_BadZigzag)), V.bl (decide (D = T.C_ManyRows)), V.bl (decide (D = T.C_NoRow)), V.bl (decide (D = T.C_NotTold)), V.bl (decide (D = T.C_BadEnds)), V.bl (decide (D = T.C_BadMap)), V.bl (decide (D = T.C_BadMenu)), V.bl (decide (D = T.C_BadMoves))] from rfl]
    generalize upd H9a p9 (HO.lst [V.bl (decide (D = T.C_BadBook)), V.bl (decide (D = T.C_BadFlat)), V.bl (decide (D = T.C_BadKnown)), V.bl (decide (D = T.C_BadLengths)), V.bl (decide (D = T.C_BadLetter)), V.bl (decide (D = T.C_BadLetters)), V.bl (decide (D = T.C_BadMany)), V.bl (decide (D = T.C_BadMost)), V.bl (decide (D = T.C_BadName)), V.bl (decide (D = T.C_BadNames)), V.bl (decide (D = T.C_BadNumber)), V.bl (decide (D = T.C_BadOffers)), V.bl (decide (D = T.C_BadPart)), V.bl (decide (D = T.C_BadPrice)), V.bl (decide (D = T.C_BadReckoning)), V.bl (decide (D = T.C_BadRoads)), V.bl (decide (D = T.C_BadRow)), V.bl (decide (D = T.C_BadRule)), V.bl (decide (D = T.C_BadRules)), V.bl (decide (D = T.C_BadSpot)), V.bl (decide (D = T.C_BadTable)), V.bl (decide (D = T.C_BadTables)), V.bl (decide (D = T.C_BadText)), V.bl (decide (D = T.C_BadTimes)), V.bl (decide (D = T.C_BadWatch)), V.bl (decide (D = T.C_BadWatchers)), V.bl (decide (D = T.C_BadWatches)), V.bl (decide (D = T.C_BadWeb)), V.bl (decide (D = T.C_BadWord)), V.bl (decide (D = T.C_BadWords)), V.bl (decide (D = T.C_BadWorth)), V.bl (decide (D = T.C_BadZigzag)), V.bl (decide (D = T.C_ManyRows)), V.bl (decide (D = T.C_NoRow)), V.bl (decide (D = T.C_NotTold)), V.bl (decide (D = T.C_BadEnds)), V.bl (decide (D = T.C_BadMap)), V.bl (decide (D = T.C_BadMenu)), V.bl (decide (D = T.C_BadMoves))]) = H9b at *
    clear t9 hp9 eq9
    walk_at "rd"
    refine isV T er e1 T.e_BadSigns (n (by simp [ers])) ?_
    walk_at "rd"
    refine isV T er e1 T.e_BadTexts (n (by simp [ers])) ?_
    walk_at "rd"
    refine isV T er e1 T.e_BadTies (n (by simp [ers])) ?_
    walk_at "rd"
    refine isV T er e1 T.e_BadTongue (n (by simp [ers])) ?_
    walk_at "rd"
    refine ⟨by show 4 ≤ sizeLine; decide, fun q10 hq10 => ?_⟩
    have s10 := same_upd (o := HO.lst [V.bl (decide (D = T.C_BadSigns)), V.bl (decide (D = T.C_BadTexts)), V.bl (decide (D = T.C_BadTies)), V.bl (decide (D = T.C_BadTongue))]) hq10
    replace er := ErrSame er s10
    have eq10 : upd H9b q10 (HO.lst [V.bl (decide (D = T.C_BadSigns)), V.bl (decide (D = T.C_BadTexts)), V.bl (decide (D = T.C_BadTies)), V.bl (decide (D = T.C_BadTongue))]) q10 = some (HO.lst [V.bl (decide (D = T.C_BadSigns)), V.bl (decide (D = T.C_BadTexts)), V.bl (decide (D = T.C_BadTies)), V.bl (decide (D = T.C_BadTongue))]) := upd_same
    replace ek := s10 _ _ ek
    replace sc := sc.trans s10
    generalize upd H9b q10 (HO.lst [V.bl (decide (D = T.C_BadSigns)), V.bl (decide (D = T.C_BadTexts)), V.bl (decide (D = T.C_BadTies)), V.bl (decide (D = T.C_BadTongue))]) = H10a at *
    clear s10 hq10
    walk_at "rd"
    refine ⟨_, _, _, _, rfl, rfl, ek, eq10, by show 43 ≤ sizeLine; decide, fun p10 hp10 => ?_⟩
    have t10 := same_upd (o := HO.lst [V.bl (decide (D = T.C_BadBook)), V.bl (decide (D = T.C_BadFlat)), V.bl (decide (D = T.C_BadKnown)), V.bl (decide (D = T.C_BadLengths)), V.bl (decide (D = T.C_BadLetter)), V.bl (decide (D = T.C_BadLetters)), V.bl (decide (D = T.C_BadMany)), V.bl (decide (D = T.C_BadMost)), V.bl (decide (D = T.C_BadName)), V.bl (decide (D = T.C_BadNames)), V.bl (decide (D = T.C_BadNumber)), V.bl (decide (D = T.C_BadOffers)), V.bl (decide (D = T.C_BadPart)), V.bl (decide (D = T.C_BadPrice)), V.bl (decide (D = T.C_BadReckoning)), V.bl (decide (D = T.C_BadRoads)), V.bl (decide (D = T.C_BadRow)), V.bl (decide (D = T.C_BadRule)), V.bl (decide (D = T.C_BadRules)), V.bl (decide (D = T.C_BadSpot)), V.bl (decide (D = T.C_BadTable)), V.bl (decide (D = T.C_BadTables)), V.bl (decide (D = T.C_BadText)), V.bl (decide (D = T.C_BadTimes)), V.bl (decide (D = T.C_BadWatch)), V.bl (decide (D = T.C_BadWatchers)), V.bl (decide (D = T.C_BadWatches)), V.bl (decide (D = T.C_BadWeb)), V.bl (decide (D = T.C_BadWord)), V.bl (decide (D = T.C_BadWords)), V.bl (decide (D = T.C_BadWorth)), V.bl (decide (D = T.C_BadZigzag)), V.bl (decide (D = T.C_ManyRows)), V.bl (decide (D = T.C_NoRow)), V.bl (decide (D = T.C_NotTold)), V.bl (decide (D = T.C_BadEnds)), V.bl (decide (D = T.C_BadMap)), V.bl (decide (D = T.C_BadMenu)), V.bl (decide (D = T.C_BadMoves)), V.bl (decide (D = T.C_BadSigns)), V.bl (decide (D = T.C_BadTexts)), V.bl (decide (D = T.C_BadTies)), V.bl (decide (D = T.C_BadTongue))]) hp10
    replace er := ErrSame er t10
    replace ek : upd H10a p10 (HO.lst [V.bl (decide (D = T.C_BadBook)), V.bl (decide (D = T.C_BadFlat)), V.bl (decide (D = T.C_BadKnown)), V.bl (decide (D = T.C_BadLengths)), V.bl (decide (D = T.C_BadLetter)), V.bl (decide (D = T.C_BadLetters)), V.bl (decide (D = T.C_BadMany)), V.bl (decide (D = T.C_BadMost)), V.bl (decide (D = T.C_BadName)), V.bl (decide (D = T.C_BadNames)), V.bl (decide (D = T.C_BadNumber)), V.bl (decide (D = T.C_BadOffers)), V.bl (decide (D = T.C_BadPart)), V.bl (decide (D = T.C_BadPrice)), V.bl (decide (D = T.C_BadReckoning)), V.bl (decide (D = T.C_BadRoads)), V.bl (decide (D = T.C_BadRow)), V.bl (decide (D = T.C_BadRule)), V.bl (decide (D = T.C_BadRules)), V.bl (decide (D = T.C_BadSpot)), V.bl (decide (D = T.C_BadTable)), V.bl (decide (D = T.C_BadTables)), V.bl (decide (D = T.C_BadText)), V.bl (decide (D = T.C_BadTimes)), V.bl (decide (D = T.C_BadWatch)), V.bl (decide (D = T.C_BadWatchers)), V.bl (decide (D = T.C_BadWatches)), V.bl (decide (D = T.C_BadWeb)), V.bl (decide (D = T.C_BadWord)), V.bl (decide (D = T.C_BadWords)), V.bl (decide (D = T.C_BadWorth)), V.bl (decide (D = T.C_BadZigzag)), V.bl (decide (D = T.C_ManyRows)), V.bl (decide (D = T.C_NoRow)), V.bl (decide (D = T.C_NotTold)), V.bl (decide (D = T.C_BadEnds)), V.bl (decide (D = T.C_BadMap)), V.bl (decide (D = T.C_BadMenu)), V.bl (decide (D = T.C_BadMoves)), V.bl (decide (D = T.C_BadSigns)), V.bl (decide (D = T.C_BadTexts)), V.bl (decide (D = T.C_BadTies)), V.bl (decide (D = T.C_BadTongue))]) p10 = some (HO.lst [V.bl (decide (D = T.C_BadBook)), V.bl (decide (D = T.C_BadFlat)), V.bl (decide (D = T.C_BadKnown)), V.bl (decide (D = T.C_BadLengths)), V.bl (decide (D = T.C_BadLetter)), V.bl (decide (D = T.C_BadLetters)), V.bl (decide (D = T.C_BadMany)), V.bl (decide (D = T.C_BadMost)), V.bl (decide (D = T.C_BadName)), V.bl (decide (D = T.C_BadNames)), V.bl (decide (D = T.C_BadNumber)), V.bl (decide (D = T.C_BadOffers)), V.bl (decide (D = T.C_BadPart)), V.bl (decide (D = T.C_BadPrice)), V.bl (decide (D = T.C_BadReckoning)), V.bl (decide (D = T.C_BadRoads)), V.bl (decide (D = T.C_BadRow)), V.bl (decide (D = T.C_BadRule)), V.bl (decide (D = T.C_BadRules)), V.bl (decide (D = T.C_BadSpot)), V.bl (decide (D = T.C_BadTable)), V.bl (decide (D = T.C_BadTables)), V.bl (decide (D = T.C_BadText)), V.bl (decide (D = T.C_BadTimes)), V.bl (decide (D = T.C_BadWatch)), V.bl (decide (D = T.C_BadWatchers)), V.bl (decide (D = T.C_BadWatches)), V.bl (decide (D = T.C_BadWeb)), V.bl (decide (D = T.C_BadWord)), V.bl (decide (D = T.C_BadWords)), V.bl (decide (D = T.C_BadWorth)), V.bl (decide (D = T.C_BadZigzag)), V.bl (decide (D = T.C_ManyRows)), V.bl (decide (D = T.C_NoRow)), V.bl (decide (D = T.C_NotTold)), V.bl (decide (D = T.C_BadEnds)), V.bl (decide (D = T.C_BadMap)), V.bl (decide (D = T.C_BadMenu)), V.bl (decide (D = T.C_BadMoves)), V.bl (decide (D = T.C_BadSigns)), V.bl (decide (D = T.C_BadTexts)), V.bl (decide (D = T.C_BadTies)), V.bl (decide (D = T.C_BadTongue))]) := upd_same
    replace sc := sc.trans t10
    rw [show ([V.bl (decide (D = T.C_BadBook)), V.bl (decide (D = T.C_BadFlat)), V.bl (decide (D = T.C_BadKnown)), V.bl (decide (D = T.C_BadLengths)), V.bl (decide (D = T.C_BadLetter)), V.bl (decide (D = T.C_BadLetters)), V.bl (decide (D = T.C_BadMany)), V.bl (decide (D = T.C_BadMost)), V.bl (decide (D = T.C_BadName)), V.bl (decide (D = T.C_BadNames)), V.bl (decide (D = T.C_BadNumber)), V.bl (decide (D = T.C_BadOffers)), V.bl (decide (D = T.C_BadPart)), V.bl (decide (D = T.C_BadPrice)), V.bl (decide (D = T.C_BadReckoning)), V.bl (decide (D = T.C_BadRoads)), V.bl (decide (D = T.C_BadRow)), V.bl (decide (D = T.C_BadRule)), V.bl (decide (D = T.C_BadRules)), V.bl (decide (D = T.C_BadSpot)), V.bl (decide (D = T.C_BadTable)), V.bl (decide (D = T.C_BadTables)), V.bl (decide (D = T.C_BadText)), V.bl (decide (D = T.C_BadTimes)), V.bl (decide (D = T.C_BadWatch)), V.bl (decide (D = T.C_BadWatchers)), V.bl (decide (D = T.C_BadWatches)), V.bl (decide (D = T.C_BadWeb)), V.bl (decide (D = T.C_BadWord)), V.bl (decide (D = T.C_BadWords)), V.bl (decide (D = T.C_BadWorth)), V.bl (decide (D = T.C_BadZigzag)), V.bl (decide (D = T.C_ManyRows)), V.bl (decide (D = T.C_NoRow)), V.bl (decide (D = T.C_NotTold)), V.bl (decide (D = T.C_BadEnds)), V.bl (decide (D = T.C_BadMap)), V.bl (decide (D = T.C_BadMenu)), V.bl (decide (D = T.C_BadMoves))] ++ [V.bl (decide (D = T.C_BadSigns)), V.bl (decide (D = T.C_BadTexts)), V.bl (decide (D = T.C_BadTies)), V.bl (decide (D = T.C_BadTongue))] : List V) = [V.bl (decide (D = T.C_BadBook)), V.bl (decide (D = T.C_BadFlat)), V.bl (decide (D = T.C_BadKnown)), V.bl (decide (D = T.C_BadLengths)), V.bl (decide (D = T.C_BadLetter)), V.bl (decide (D = T.C_BadLetters)), V.bl (decide (D = T.C_BadMany)), V.bl (decide (D = T.C_BadMost)), V.bl (decide (D = T.C_BadName)), V.bl (decide (D = T.C_BadNames)), V.bl (decide (D = T.C_BadNumber)), V.bl (decide (D = T.C_BadOffers)), V.bl (decide (D = T.C_BadPart)), V.bl (decide (D = T.C_BadPrice)), V.bl (decide (D = T.C_BadReckoning)), V.bl (decide (D = T.C_BadRoads)), V.bl (decide (D = T.C_BadRow)), V.bl (decide (D = T.C_BadRule)), V.bl (decide (D = T.C_BadRules)), V.bl (decide (D = T.C_BadSpot)), V.bl (decide (D = T.C_BadTable)), V.bl (decide (D = T.C_BadTables)), V.bl (decide (D = T.C_BadText)), V.bl (decide (D = T.C_BadTimes)), V.bl (decide (D = T.C_BadWatch)), V.bl (decide (D = T.C_BadWatchers)), V.bl (decide (D = T.C_BadWatches)), V.bl (decide (D = T.C_BadWeb)), V.bl (decide (D = T.C_BadWord)), V.bl (decide (D = T.C_BadWords)), V.bl (decide (D = T.C_BadWorth)), V.bl (decide (D = T.C_BadZigzag)), V.bl (decide (D = T.C_ManyRows)), V.bl (decide (D = T.C_NoRow)), V.bl (decide (D = T.C_NotTold)), V.bl (decide (D = T.C_BadEnds)), V.bl (decide (D = T.C_BadMap)), V.bl (decide (D = T.C_BadMenu)), V.bl (decide (D = T.C_BadMoves)), V.bl (decide (D = T.C_BadSigns)), V.bl (decide (D = T.C_BadTexts)), V.bl (decide (D = T.C_BadTies)), V.bl (decide (D = T.C_BadTongue))] from rfl]
    generalize upd H10a p10 (HO.lst [V.bl (decide (D = T.C_BadBook)), V.bl (decide (D = T.C_BadFlat)), V.bl (decide (D = T.C_BadKnown)), V.bl (decide (D = T.C_BadLengths)), V.bl (decide (D = T.C_BadLetter)), V.bl (decide (D = T.C_BadLetters)), V.bl (decide (D = T.C_BadMany)), V.bl (decide (D = T.C_BadMost)), V.bl (decide (D = T.C_BadName)), V.bl (decide (D = T.C_BadNames)), V.bl (decide (D = T.C_BadNumber)), V.bl (decide (D = T.C_BadOffers)), V.bl (decide (D = T.C_BadPart)), V.bl (decide (D = T.C_BadPrice)), V.bl (decide (D = T.C_BadReckoning)), V.bl (decide (D = T.C_BadRoads)), V.bl (decide (D = T.C_BadRow)), V.bl (decide (D = T.C_BadRule)), V.bl (decide (D = T.C_BadRules)), V.bl (decide (D = T.C_BadSpot)), V.bl (decide (D = T.C_BadTable)), V.bl (decide (D = T.C_BadTables)), V.bl (decide (D = T.C_BadText)), V.bl (decide (D = T.C_BadTimes)), V.bl (decide (D = T.C_BadWatch)), V.bl (decide (D = T.C_BadWatchers)), V.bl (decide (D = T.C_BadWatches)), V.bl (decide (D = T.C_BadWeb)), V.bl (decide (D = T.C_BadWord)), V.bl (decide (D = T.C_BadWords)), V.bl (decide (D = T.C_BadWorth)), V.bl (decide (D = T.C_BadZigzag)), V.bl (decide (D = T.C_ManyRows)), V.bl (decide (D = T.C_NoRow)), V.bl (decide (D = T.C_NotTold)), V.bl (decide (D = T.C_BadEnds)), V.bl (decide (D = T.C_BadMap)), V.bl (decide (D = T.C_BadMenu)), V.bl (decide (D = T.C_BadMoves)), V.bl (decide (D = T.C_BadSigns)), V.bl (decide (D = T.C_BadTexts)), V.bl (decide (D = T.C_BadTies)), V.bl (decide (D = T.C_BadTongue))]) = H10b at *
    clear t10 hp10 eq10
    walk_at "rd"
    refine isV T er e1 T.e_NothingDone (n (by simp [ers])) ?_
    walk_at "rd"
    refine isV T er e1 T.e_TooMany (n (by simp [ers])) ?_
    walk_at "rd"
    refine ⟨by show 2 ≤ sizeLine; decide, fun q11 hq11 => ?_⟩
    have s11 := same_upd (o := HO.lst [V.bl (decide (D = T.C_NothingDone)), V.bl (decide (D = T.C_TooMany))]) hq11
    replace er := ErrSame er s11
    have eq11 : upd H10b q11 (HO.lst [V.bl (decide (D = T.C_NothingDone)), V.bl (decide (D = T.C_TooMany))]) q11 = some (HO.lst [V.bl (decide (D = T.C_NothingDone)), V.bl (decide (D = T.C_TooMany))]) := upd_same
    replace ek := s11 _ _ ek
    replace sc := sc.trans s11
    generalize upd H10b q11 (HO.lst [V.bl (decide (D = T.C_NothingDone)), V.bl (decide (D = T.C_TooMany))]) = H11a at *
    clear s11 hq11
    walk_at "rd"
    refine ⟨_, _, _, _, rfl, rfl, ek, eq11, by show 45 ≤ sizeLine; decide, fun p11 hp11 => ?_⟩
    have t11 := same_upd (o := HO.lst [V.bl (decide (D = T.C_BadBook)), V.bl (decide (D = T.C_BadFlat)), V.bl (decide (D = T.C_BadKnown)), V.bl (decide (D = T.C_BadLengths)), V.bl (decide (D = T.C_BadLetter)), V.bl (decide (D = T.C_BadLetters)), V.bl (decide (D = T.C_BadMany)), V.bl (decide (D = T.C_BadMost)), V.bl (decide (D = T.C_BadName)), V.bl (decide (D = T.C_BadNames)), V.bl (decide (D = T.C_BadNumber)), V.bl (decide (D = T.C_BadOffers)), V.bl (decide (D = T.C_BadPart)), V.bl (decide (D = T.C_BadPrice)), V.bl (decide (D = T.C_BadReckoning)), V.bl (decide (D = T.C_BadRoads)), V.bl (decide (D = T.C_BadRow)), V.bl (decide (D = T.C_BadRule)), V.bl (decide (D = T.C_BadRules)), V.bl (decide (D = T.C_BadSpot)), V.bl (decide (D = T.C_BadTable)), V.bl (decide (D = T.C_BadTables)), V.bl (decide (D = T.C_BadText)), V.bl (decide (D = T.C_BadTimes)), V.bl (decide (D = T.C_BadWatch)), V.bl (decide (D = T.C_BadWatchers)), V.bl (decide (D = T.C_BadWatches)), V.bl (decide (D = T.C_BadWeb)), V.bl (decide (D = T.C_BadWord)), V.bl (decide (D = T.C_BadWords)), V.bl (decide (D = T.C_BadWorth)), V.bl (decide (D = T.C_BadZigzag)), V.bl (decide (D = T.C_ManyRows)), V.bl (decide (D = T.C_NoRow)), V.bl (decide (D = T.C_NotTold)), V.bl (decide (D = T.C_BadEnds)), V.bl (decide (D = T.C_BadMap)), V.bl (decide (D = T.C_BadMenu)), V.bl (decide (D = T.C_BadMoves)), V.bl (decide (D = T.C_BadSigns)), V.bl (decide (D = T.C_BadTexts)), V.bl (decide (D = T.C_BadTies)), V.bl (decide (D = T.C_BadTongue)), V.bl (decide (D = T.C_NothingDone)), V.bl (decide (D = T.C_TooMany))]) hp11
    replace er := ErrSame er t11
    replace ek : upd H11a p11 (HO.lst [V.bl (decide (D = T.C_BadBook)), V.bl (decide (D = T.C_BadFlat)), V.bl (decide (D = T.C_BadKnown)), V.bl (decide (D = T.C_BadLengths)), V.bl (decide (D = T.C_BadLetter)), V.bl (decide (D = T.C_BadLetters)), V.bl (decide (D = T.C_BadMany)), V.bl (decide (D = T.C_BadMost)), V.bl (decide (D = T.C_BadName)), V.bl (decide (D = T.C_BadNames)), V.bl (decide (D = T.C_BadNumber)), V.bl (decide (D = T.C_BadOffers)), V.bl (decide (D = T.C_BadPart)), V.bl (decide (D = T.C_BadPrice)), V.bl (decide (D = T.C_BadReckoning)), V.bl (decide (D = T.C_BadRoads)), V.bl (decide (D = T.C_BadRow)), V.bl (decide (D = T.C_BadRule)), V.bl (decide (D = T.C_BadRules)), V.bl (decide (D = T.C_BadSpot)), V.bl (decide (D = T.C_BadTable)), V.bl (decide (D = T.C_BadTables)), V.bl (decide (D = T.C_BadText)), V.bl (decide (D = T.C_BadTimes)), V.bl (decide (D = T.C_BadWatch)), V.bl (decide (D = T.C_BadWatchers)), V.bl (decide (D = T.C_BadWatches)), V.bl (decide (D = T.C_BadWeb)), V.bl (decide (D = T.C_BadWord)), V.bl (decide (D = T.C_BadWords)), V.bl (decide (D = T.C_BadWorth)), V.bl (decide (D = T.C_BadZigzag)), V.bl (decide (D = T.C_ManyRows)), V.bl (decide (D = T.C_NoRow)), V.bl (decide (D = T.C_NotTold)), V.bl (decide (D = T.C_BadEnds)), V.bl (decide (D = T.C_BadMap)), V.bl (decide (D = T.C_BadMenu)), V.bl (decide (D = T.C_BadMoves)), V.bl (decide (D = T.C_BadSigns)), V.bl (decide (D = T.C_BadTexts)), V.bl (decide (D = T.C_BadTies)), V.bl (decide (D = T.C_BadTongue)), V.bl (decide (D = T.C_NothingDone)), V.bl (decide (D = T.C_TooMany))]) p11 = some (HO.lst [V.bl (decide (D = T.C_BadBook)), V.bl (decide (D = T.C_BadFlat)), V.bl (decide (D = T.C_BadKnown)), V.bl (decide (D = T.C_BadLengths)), V.bl (decide (D = T.C_BadLetter)), V.bl (decide (D = T.C_BadLetters)), V.bl (decide (D = T.C_BadMany)), V.bl (decide (D = T.C_BadMost)), V.bl (decide (D = T.C_BadName)), V.bl (decide (D = T.C_BadNames)), V.bl (decide (D = T.C_BadNumber)), V.bl (decide (D = T.C_BadOffers)), V.bl (decide (D = T.C_BadPart)), V.bl (decide (D = T.C_BadPrice)), V.bl (decide (D = T.C_BadReckoning)), V.bl (decide (D = T.C_BadRoads)), V.bl (decide (D = T.C_BadRow)), V.bl (decide (D = T.C_BadRule)), V.bl (decide (D = T.C_BadRules)), V.bl (decide (D = T.C_BadSpot)), V.bl (decide (D = T.C_BadTable)), V.bl (decide (D = T.C_BadTables)), V.bl (decide (D = T.C_BadText)), V.bl (decide (D = T.C_BadTimes)), V.bl (decide (D = T.C_BadWatch)), V.bl (decide (D = T.C_BadWatchers)), V.bl (decide (D = T.C_BadWatches)), V.bl (decide (D = T.C_BadWeb)), V.bl (decide (D = T.C_BadWord)), V.bl (decide (D = T.C_BadWords)), V.bl (decide (D = T.C_BadWorth)), V.bl (decide (D = T.C_BadZigzag)), V.bl (decide (D = T.C_ManyRows)), V.bl (decide (D = T.C_NoRow)), V.bl (decide (D = T.C_NotTold)), V.bl (decide (D = T.C_BadEnds)), V.bl (decide (D = T.C_BadMap)), V.bl (decide (D = T.C_BadMenu)), V.bl (decide (D = T.C_BadMoves)), V.bl (decide (D = T.C_BadSigns)), V.bl (decide (D = T.C_BadTexts)), V.bl (decide (D = T.C_BadTies)), V.bl (decide (D = T.C_BadTongue)), V.bl (decide (D = T.C_NothingDone)), V.bl (decide (D = T.C_TooMany))]) := upd_same
    exact k p11 _ (sc.trans t11) (sc.free hp11) ek
end

/-! ### errors with a value -/
def spWE (K : PySem.W.Frag) : Sp := fun vs H Q _ => ∃ (a C : Addr) (v : V), vs = [.ref a, v] ∧ OexC K C ∧ PySem.W.findIn K (.ref C) "value" = some none ∧ H a = some (exo a C none) ∧
  ∀ d, H d = none → d ≠ a → Q .non (upd (upd H d (exd d [("value", v)])) a (exo a C (some d)))
/-- an error's own dict, with its value -/
def ErrD (v : V) : HO := .xd [(("value" : Str), v)]
theorem errD_v (v : V) : List.lookup ("value" : Str) [(("value" : Str), v)] = some v := by simp [List.lookup]
section
variable {P : Program} {w : World} {K : PySem.W.Frag} {mg : Str → Option Value} {base : Heap}
theorem ok_WayError__init (T : Top K mg) : FnOk P w K mg base CX0 1 T.f_WayError__init T.fd_WayError__init ["self", "value"] (spWE K) := by
  refine T.F_WayError__init.ok sc_WayError__init (fun vs H Q E h => ?_) (fun cdv A outer s H vs Q E hr h => ?_)
  · obtain ⟨a, C, v, rfl, _⟩ := h; rfl
  · obtain ⟨a, C, v, rfl, oc, nv, ha, q⟩ := h
    refine ⟨_, (pss_one (ps_ost (pv 0) (pv 1))), ?_⟩
    exact ⟨_, rfl, _, rfl, a, C, rfl, oc, nv, .inl ⟨ha, fun d hd ne => q d hd ne⟩⟩
end
/-- what is asked where such an error is raised -/
theorem d_mkO {K : PySem.W.Frag} {H : Hp} {C : Addr} {v : V} {R : XK} (oc : OexC K C) (nv : PySem.W.findIn K (.ref C) "value" = some none) (k : ∀ d, H d = none → R (.ref C) (some d) (upd H d (ErrD v))) :
    [v].length ≤ 1000 ∧ ∀ a, H a = none → spWE K (.ref a :: ([v] ++ [])) (upd H a (exo a C none))
      (fun u H2 => u = .non ∧ ∃ (d : Addr) (fs : List (Str × V)), H2 a = some (exo a C (some d)) ∧ H2 d = some (exd d fs) ∧ H d = none ∧ R (.ref C) (some d) (upd (del H2 a) d (.xd fs))) (fun _ _ _ => False) := by
  refine ⟨by simp, fun a ha => ⟨a, C, v, rfl, oc, nv, upd_same, fun d hd ne => ⟨rfl, d, [(("value" : Str), v)], upd_same, ?_, ?_, ?_⟩⟩⟩
  · rw [upd_ne ne, upd_same]
  · rw [upd_ne ne] at hd; exact hd
  · have hd0 : H d = none := by rw [upd_ne ne] at hd; exact hd
    have e : upd (del (upd (upd (upd H a (exo a C none)) d (exd d [("value", v)])) a (exo a C (some d))) a) d (.xd [("value", v)]) = upd H d (ErrD v) := by
      funext b
      by_cases hb : b = d
      · subst hb; rw [upd_same, upd_same]; rfl
      · rw [upd_ne hb, upd_ne hb]
        by_cases hba : b = a
        · subst hba; rw [del_same, ha]
        · rw [del_ne hba, upd_ne hba, upd_ne hb, upd_ne hba]
    rw [e]; exact k d hd0
theorem d_raise {K : PySem.W.Frag} {σ : L2.St} {H : Hp} {C : Addr} {ta : TA} {R : XK} (h : ta σ H fun vs H1 => vs.length ≤ 1000 ∧ ∀ a, H1 a = none → spWE K (.ref a :: (vs ++ [])) (upd H1 a (exo a C none))
      (fun u H2 => u = .non ∧ ∃ (d : Addr) (fs : List (Str × V)), H2 a = some (exo a C (some d)) ∧ H2 d = some (exd d fs) ∧ H1 d = none ∧ R (.ref C) (some d) (upd (del H2 a) d (.xd fs))) (fun _ _ _ => False)) :
    tMkO C (spWE K) [] ta σ H R := h

/-! ### all errors made -/
def spWE0 (K : PySem.W.Frag) : Sp := fun vs H Q _ => ∃ (a C : Addr), vs = [.ref a] ∧ OexC K C ∧ PySem.W.findIn K (.ref C) "value" = some none ∧ H a = some (exo a C none) ∧
  ∀ d, H d = none → d ≠ a → Q .non (upd (upd H d (exd d [("value", V.non)])) a (exo a C (some d)))
def errsV {K : PySem.W.Frag} {mg : Str → Option Value} (T : Top K mg) (v : V) : List (Addr × V) := [(T.C_BadBook, v), (T.C_BadFlat, v), (T.C_BadKnown, v), (T.C_BadLengths, v), (T.C_BadLetter, v), (T.C_BadLetters, v), (T.C_BadMany, v), (T.C_BadMost, v), (T.C_BadName, v), (T.C_BadNames, v), (T.C_BadNumber, v), (T.C_BadOffers, v), (T.C_BadPart, v), (T.C_BadPrice, v), (T.C_BadReckoning, v), (T.C_BadRoads, v), (T.C_BadRow, v), (T.C_BadRule, v), (T.C_BadRules, v), (T.C_BadSpot, v), (T.C_BadTable, v), (T.C_BadTables, v), (T.C_BadText, v), (T.C_BadTimes, v), (T.C_BadWatch, v), (T.C_BadWatchers, v), (T.C_BadWatches, v), (T.C_BadWeb, v), (T.C_BadWord, v), (T.C_BadWords, v), (T.C_BadWorth, v), (T.C_BadZigzag, v), (T.C_ManyRows, v), (T.C_NoRow, v), (T.C_NotTold, v), (T.C_BadEnds, v), (T.C_BadMap, v), (T.C_BadMenu, v), (T.C_BadMoves, v), (T.C_BadSigns, v), (T.C_BadTexts, v), (T.C_BadTies, v), (T.C_BadTongue, v), (T.C_NothingDone, V.non), (T.C_TooMany, V.non)]
def ErrsAt (H : Hp) (as : List Addr) (xs : List (Addr × V)) : Prop := Paired (fun (a : Addr) (x : Addr × V) => OQ.ErrAt H a x.1 [(("value" : Str), x.2)]) as xs
theorem ErrsSame {H H' : Hp} {as : List Addr} {xs : List (Addr × V)} (p : ErrsAt H as xs) (s : Same H H') : ErrsAt H' as xs := by
  unfold ErrsAt at *
  induction p with
  | nil => exact .nil
  | cons h _ ih => exact .cons (ErrSame h s) ih
theorem ErrsSnoc {H : Hp} {as : List Addr} {xs : List (Addr × V)} {a C : Addr} {v : V} (p : ErrsAt H as xs) (r : OQ.ErrAt H a C [(("value" : Str), v)]) : ErrsAt H (as ++ [a]) (xs ++ [(C, v)]) := by
  unfold ErrsAt at *
  induction p with
  | nil => exact .cons r .nil
  | cons h _ ih => exact .cons h ih
def spFirst {K : PySem.W.Frag} {mg : Str → Option Value} (T : Top K mg) : Sp := fun vs H Q _ => ∃ v : V, vs = [v] ∧ ∀ p H' (as : List Addr), Same H H' → H' p = some (.lst (as.map V.ref)) → ErrsAt H' as (errsV T v) → Q (.ref p) H'
theorem d_mkV {σ : L2.St} {H : Hp} {Q : VK} {C : Addr} {sp : Sp} {dvs : List V} {E : XK} {ta : TA} (h : ta σ H fun vs H1 => ∀ a, H1 a = none → sp (.ref a :: (vs ++ dvs)) (upd H1 a (exo a C none)) (fun v H2 => v = .non ∧ Q (.ref a) H2) E) : OQ.tMkV C sp dvs E ta σ H Q := h
section
variable {P : Program} {w : World} {K : PySem.W.Frag} {mg : Str → Option Value} {base : Heap}
theorem ErrMade {H : Hp} {a C d : Addr} {v : V} (ha : H a = none) (hd : upd H a (exo a C none) d = none) (ne : d ≠ a) : Same H (upd (upd (upd H a (exo a C none)) d (exd d [("value", v)])) a (exo a C (some d))) ∧ OQ.ErrAt (upd (upd (upd H a (exo a C none)) d (exd d [("value", v)])) a (exo a C (some d))) a C [(("value" : Str), v)] := by
  rw [upd_ne ne] at hd
  refine ⟨fun b u e => ?_, d, upd_same, by rw [upd_ne ne, upd_same]⟩
  rw [upd_ne (ne_of_none e ha), upd_ne (ne_of_none e hd), upd_ne (ne_of_none e ha)]; exact e
theorem mkV (T : Top K mg) {H : Hp} {C f : Addr} {v : V} {E : XK} {R : Addr → Hp → Prop} (e : OQ.ErC K T.C_WayError f C) (k : ∀ a H', Same H H' → OQ.ErrAt H' a C [(("value" : Str), v)] → R a H') :
    ∀ a, H a = none → spWE K (.ref a :: ([v] ++ [])) (upd H a (exo a C none)) (fun u H2 => u = .non ∧ R a H2) E := fun a ha =>
  ⟨a, C, v, rfl, e.oex, e.va, upd_same, fun d hd ne => ⟨rfl, k a _ (ErrMade ha hd ne).1 (ErrMade ha hd ne).2⟩⟩
theorem mkV0 (T : Top K mg) {H : Hp} {C f : Addr} {E : XK} {R : Addr → Hp → Prop} (e : OQ.ErC K T.C_WayError f C) (k : ∀ a H', Same H H' → OQ.ErrAt H' a C [(("value" : Str), V.non)] → R a H') :
    ∀ a, H a = none → spWE0 K (.ref a :: ([] ++ [])) (upd H a (exo a C none)) (fun u H2 => u = .non ∧ R a H2) E := fun a ha =>
  ⟨a, C, rfl, e.oex, e.va, upd_same, fun d hd ne => ⟨rfl, k a _ (ErrMade ha hd ne).1 (ErrMade ha hd ne).2⟩⟩
theorem ok_TooMany__init (T : Top K mg) : FnOk P w K mg base CX0 3 T.f_TooMany__init T.fd_TooMany__init ["self"] (spWE0 K) := by
  refine T.F_TooMany__init.ok sc_TooMany__init (fun vs H Q E h => ?_) (fun cdv A outer s H vs Q E hr h => ?_)
  · obtain ⟨a, C, rfl, _⟩ := h; rfl
  · obtain ⟨a, C, rfl, oc, nv, ha, q⟩ := h
    refine ⟨_, (pss_one (ps_expr (OQ.pe_cdef (pe_glob (v := V.ref T.C_WayError) (by rfl) T.g_WayError rfl) T.c_WE (ok_WayError__init T) (hr.mono (by decide)) T.b_WayError__init pass0 (pa_cons (pv 0) (pa_cons pe_non pa_nil))))), ?_⟩
    walk_at "rd"
    refine ⟨rfl, ?_⟩
    walk_at "rd"
    exact ⟨a, C, .non, rfl, oc, nv, ha, q⟩
theorem ok_NothingDone__init (T : Top K mg) : FnOk P w K mg base CX0 3 T.f_NothingDone__init T.fd_NothingDone__init ["self"] (spWE0 K) := by
  refine T.F_NothingDone__init.ok sc_NothingDone__init (fun vs H Q E h => ?_) (fun cdv A outer s H vs Q E hr h => ?_)
  · obtain ⟨a, C, rfl, _⟩ := h; rfl
  · obtain ⟨a, C, rfl, oc, nv, ha, q⟩ := h
    refine ⟨_, (pss_one (ps_expr (OQ.pe_cdef (pe_glob (v := V.ref T.C_WayError) (by rfl) T.g_WayError rfl) T.c_WE (ok_WayError__init T) (hr.mono (by decide)) T.b_WayError__init pass0 (pa_cons (pv 0) (pa_cons pe_non pa_nil))))), ?_⟩
    walk_at "rd"
    refine ⟨rfl, ?_⟩
    walk_at "rd"
    exact ⟨a, C, .non, rfl, oc, nv, ha, q⟩
theorem ok_law_first (T : Top K mg) : FnOk P w K mg base CX0 6 T.f_law_first T.fd_law_first ["value"] (spFirst T) := by
  refine T.F_law_first.ok sc_law_first (fun vs H Q E h => ?_) (fun cdv A outer s H vs Q E hr h => ?_)
  · obtain ⟨v, rfl, _⟩ := h; rfl
  · obtain ⟨v, rfl, k⟩ := h
    have P : ErrsAt H [] [] := .nil
    have sc : Same H H := fun _ _ e => e
    refine ⟨_, (C8.pss_cut (ps_set (i := 1) sc_law_first.nd rfl (Or.inl rfl) (pe_lst (pa_cons (OQ.pe_mkV (T.e_BadBook).oex (T.e_BadBook).ini T.tI (ok_WayError__init T) (hr.mono (by decide)) T.b_WayError__init .nil pass0 (by decide) (by rfl) T.g_BadBook (pa_cons (pv 0) pa_nil)) (pa_cons (OQ.pe_mkV (T.e_BadFlat).oex (T.e_BadFlat).ini T.tI (ok_WayError__init T) (hr.mono (by decide)) T.b_WayError__init .nil pass0 (by decide) (by rfl) T.g_BadFlat (pa_cons (pv 0) pa_nil)) (pa_cons (OQ.pe_mkV (T.e_BadKnown).oex (T.e_BadKnown).ini T.tI (ok_WayError__init T) (hr.mono (by decide)) T.b_WayError__init .nil pass0 (by decide) (by rfl) T.g_BadKnown (pa_cons (pv 0) pa_nil)) (pa_cons (OQ.pe_mkV (T.e_BadLengths).oex (T.e_BadLengths).ini T.tI (ok_WayError__init T) (hr.mono (by decide)) T.b_WayError__init .nil pass0 (by decide) (by rfl) T.g_BadLengths (pa_cons (pv 0) pa_nil)) (pa_cons (OQ.pe_mkV (T.e_BadLetter).oex (T.e_BadLetter).ini T.tI (ok_WayError__init T) (hr.mono (by decide)) T.b_WayError__init .nil pass0 (by decide) (by rfl) T.g_BadLetter (pa_cons (pv 0) pa_nil)) (pa_cons (OQ.pe_mkV (T.e_BadLetters).oex (T.e_BadLetters).ini T.tI (ok_WayError__init T) (hr.mono (by decide)) T.b_WayError__init .nil pass0 (by decide) (by rfl) T.g_BadLetters (pa_cons (pv 0) pa_nil)) pa_nil))))))))
 (C8.pss_cut (ps_set (i := 1) sc_law_first.nd rfl (Or.inl rfl) (pe_op op_cat (pv 1) (pe_lst (pa_cons (OQ.pe_mkV (T.e_BadMany).oex (T.e_BadMany).ini T.tI (ok_WayError__init T) (hr.mono (by decide)) T.b_WayError__init .nil pass0 (by decide) (by rfl) T.g_BadMany (pa_cons (pv 0) pa_nil)) (pa_cons (OQ.pe_mkV (T.e_BadMost).oex (T.e_BadMost).ini T.tI (ok_WayError__init T) (hr.mono (by decide)) T.b_WayError__init .nil pass0 (by decide) (by rfl) T.g_BadMost (pa_cons (pv 0) pa_nil)) (pa_cons (OQ.pe_mkV (T.e_BadName).oex (T.e_BadName).ini T.tI (ok_WayError__init T) (hr.mono (by decide)) T.b_WayError__init .nil pass0 (by decide) (by rfl) T.g_BadName (pa_cons (pv 0) pa_nil)) (pa_cons (OQ.pe_mkV (T.e_BadNames).oex (T.e_BadNames).ini T.tI (ok_WayError__init T) (hr.mono (by decide)) T.b_WayError__init .nil pass0 (by decide) (by rfl) T.g_BadNames (pa_cons (pv 0) pa_nil)) (pa_cons (OQ.pe_mkV (T.e_BadNumber).oex (T.e_BadNumber).ini T.tI (ok_WayError__init T) (hr.mono (by decide)) T.b_WayError__init .nil pass0 (by decide) (by rfl) T.g_BadNumber (pa_cons (pv 0) pa_nil)) (pa_cons (OQ.pe_mkV (T.e_BadOffers).oex (T.e_BadOffers).ini T.tI (ok_WayError__init T) (hr.mono (by decide)) T.b_WayError__init .nil pass0 (by decide) (by rfl) T.g_BadOffers (pa_cons (pv 0) pa_nil)) pa_nil)))))))))
 (C8.pss_cut (ps_set (i := 1) sc_law_first.nd rfl (Or.inl rfl) (pe_op op_cat (pv 1) (pe_lst (pa_cons (OQ.pe_mkV (T.e_BadPart).oex (T.e_BadPart).ini T.tI (ok_WayError__init T) (hr.mono (by decide)) T.b_WayError__init .nil pass0 (by decide) (by rfl) T.g_BadPart (pa_cons (pv 0) pa_nil)) (pa_cons (OQ.pe_mkV (T.e_BadPrice).oex (T.e_BadPrice).ini T.tI (ok_WayError__init T) (hr.mono (by decide)) T.b_WayError__init .nil pass0 (by decide) (by rfl) T.g_BadPrice (pa_cons (pv 0) pa_nil)) (pa_cons (OQ.pe_mkV (T.e_BadReckoning).oex (T.e_BadReckoning).ini T.tI (ok_WayError__init T) (hr.mono (by decide)) T.b_WayError__init .nil pass0 (by decide) (by rfl) T.g_BadReckoning (pa_cons (pv 0) pa_nil)) (pa_cons (OQ.pe_mkV (T.e_BadRoads).oex (T.e_BadRoads).ini T.tI (ok_WayError__init T) (hr.mono (by decide)) T.b_WayError__init .nil pass0 (by decide) (by rfl) T.g_BadRoads (pa_cons (pv 0) pa_nil)) (pa_cons (OQ.pe_mkV (T.e_BadRow).oex (T.e_BadRow).ini T.tI (ok_WayError__init T) (hr.mono (by decide)) T.b_WayError__init .nil pass0 (by decide) (by rfl) T.g_BadRow (pa_cons (pv 0) pa_nil)) (pa_cons (OQ.pe_mkV (T.e_BadRule).oex (T.e_BadRule).ini T.tI (ok_WayError__init T) (hr.mono (by decide)) T.b_WayError__init .nil pass0 (by decide) (by rfl) T.g_BadRule (pa_cons (pv 0) pa_nil)) pa_nil)))))))))
 (C8.pss_cut (ps_set (i := 1) sc_law_first.nd rfl (Or.inl rfl) (pe_op op_cat (pv 1) (pe_lst (pa_cons (OQ.pe_mkV (T.e_BadRules).oex (T.e_BadRules).ini T.tI (ok_WayError__init T) (hr.mono (by decide)) T.b_WayError__init .nil pass0 (by decide) (by rfl) T.g_BadRules (pa_cons (pv 0) pa_nil)) (pa_cons (OQ.pe_mkV (T.e_BadSpot).oex (T.e_BadSpot).ini T.tI (ok_WayError__init T) (hr.mono (by decide)) T.b_WayError__init .nil pass0 (by decide) (by rfl) T.g_BadSpot (pa_cons (pv 0) pa_nil)) (pa_cons (OQ.pe_mkV (T.e_BadTable).oex (T.e_BadTable).ini T.tI (ok_WayError__init T) (hr.mono (by decide)) T.b_WayError__init .nil pass0 (by decide) (by rfl) T.g_BadTable (pa_cons (pv 0) pa_nil)) (pa_cons (OQ.pe_mkV (T.e_BadTables).oex (T.e_BadTables).ini T.tI (ok_WayError__init T) (hr.mono (by decide)) T.b_WayError__init .nil pass0 (by decide) (by rfl) T.g_BadTables (pa_cons (pv 0) pa_nil)) (pa_cons (OQ.pe_mkV (T.e_BadText).oex (T.e_BadText).ini T.tI (ok_WayError__init T) (hr.mono (by decide)) T.b_WayError__init .nil pass0 (by decide) (by rfl) T.g_BadText (pa_cons (pv 0) pa_nil)) (pa_cons (OQ.pe_mkV (T.e_BadTimes).oex (T.e_BadTimes).ini T.tI (ok_WayError__init T) (hr.mono (by decide)) T.b_WayError__init .nil pass0 (by decide) (by rfl) T.g_BadTimes (pa_cons (pv 0) pa_nil)) pa_nil)))))))))
 (C8.pss_cut (ps_set (i := 1) sc_law_first.nd rfl (Or.inl rfl) (pe_op op_cat (pv 1) (pe_lst (pa_cons (OQ.pe_mkV (T.e_BadWatch).oex (T.e_BadWatch).ini T.tI (ok_WayError__init T) (hr.mono (by decide)) T.b_WayError__init .nil pass0 (by decide) (by rfl) T.g_BadWatch (pa_cons (pv 0) pa_nil)) (pa_cons (OQ.pe_mkV (T.e_BadWatchers).oex (T.e_BadWatchers).ini T.tI (ok_WayError__init T) (hr.mono (by decide)) T.b_WayError__init .nil pass0 (by decide) (by rfl) T.g_BadWatchers (pa_cons (pv 0) pa_nil)) (pa_cons (OQ.pe_mkV (T.e_BadWatches).oex (T.e_BadWatches).ini T.tI (ok_WayError__init T) (hr.mono (by decide)) T.b_WayError__init .nil pass0 (by decide) (by rfl) T.g_BadWatches (pa_cons (pv 0) pa_nil)) (pa_cons (OQ.pe_mkV (T.e_BadWeb).oex (T.e_BadWeb).ini T.tI (ok_WayError__init T) (hr.mono (by decide)) T.b_WayError__init .nil pass0 (by decide) (by rfl) T.g_BadWeb (pa_cons (pv 0) pa_nil)) (pa_cons (OQ.pe_mkV (T.e_BadWord).oex (T.e_BadWord).ini T.tI (ok_WayError__init T) (hr.mono (by decide)) T.b_WayError__init .nil pass0 (by decide) (by rfl) T.g_BadWord (pa_cons (pv 0) pa_nil)) (pa_cons (OQ.pe_mkV (T.e_BadWords).oex (T.e_BadWords).ini T.tI (ok_WayError__init T) (hr.mono (by decide)) T.b_WayError__init .nil pass0 (by decide) (by rfl) T.g_BadWords (pa_cons (pv 0) pa_nil)) pa_nil)))))))))
 (C8.pss_cut (ps_set (i := 1) sc_law_first.nd rfl (Or.inl rfl) (pe_op op_cat (pv 1) (pe_lst (pa_cons (OQ.pe_mkV (T.e_BadWorth).oex (T.e_BadWorth).ini T.tI (ok_WayError__init T) (hr.mono (by decide)) T.b_WayError__init .nil pass0 (by decide) (by rfl) T.g_BadWorth (pa_cons (pv 0) pa_nil)) (pa_cons (OQ.pe_mkV (T.e_BadZigzag).oex (T.e_BadZigzag).ini T.tI (ok_WayError__init T) (hr.mono (by decide)) T.b_WayError__init .nil pass0 (by decide) (by rfl) T.g_BadZigzag (pa_cons (pv 0) pa_nil)) (pa_cons (OQ.pe_mkV (T.e_ManyRows).oex (T.e_ManyRows).ini T.tI (ok_WayError__init T) (hr.mono (by decide)) T.b_WayError__init .nil pass0 (by decide) (by rfl) T.g_ManyRows (pa_cons (pv 0) pa_nil)) (pa_cons (OQ.pe_mkV (T.e_NoRow).oex (T.e_NoRow).ini T.tI (ok_WayError__init T) (hr.mono (by decide)) T.b_WayError__init .nil pass0 (by decide) (by rfl) T.g_NoRow (pa_cons (pv 0) pa_nil)) (pa_cons (OQ.pe_mkV (T.e_NotTold).oex (T.e_NotTold).ini T.tI (ok_WayError__init T) (hr.mono (by decide)) T.b_WayError__init .nil pass0 (by decide) (by rfl) T.g_NotTold (pa_cons (pv 0) pa_nil)) (pa_cons (OQ.pe_mkV (T.e_BadEnds).oex (T.e_BadEnds).ini T.tI (ok_WayError__init T) (hr.mono (by decide)) T.b_WayError__init .nil pass0 (by decide) (by rfl) T.g_BadEnds (pa_cons (pv 0) pa_nil)) pa_nil)))))))))
 (C8.pss_cut (ps_set (i := 1) sc_law_first.nd rfl (Or.inl rfl) (pe_op op_cat (pv 1) (pe_lst (pa_cons (OQ.pe_mkV (T.e_BadMap).oex (T.e_BadMap).ini T.tI (ok_WayError__init T) (hr.mono (by decide)) T.b_WayError__init .nil pass0 (by decide) (by rfl) T.g_BadMap (pa_cons (pv 0) pa_nil)) (pa_cons (OQ.pe_mkV (T.e_BadMenu).oex (T.e_BadMenu).ini T.tI (ok_WayError__init T) (hr.mono (by decide)) T.b_WayError__init .nil pass0 (by decide) (by rfl) T.g_BadMenu (pa_cons (pv 0) pa_nil)) (pa_cons (OQ.pe_mkV (T.e_BadMoves).oex (T.e_BadMoves).ini T.tI (ok_WayError__init T) (hr.mono (by decide)) T.b_WayError__init .nil pass0 (by decide) (by rfl) T.g_BadMoves (pa_cons (pv 0) pa_nil)) (pa_cons (OQ.pe_mkV (T.e_BadSigns).oex (T.e_BadSigns).ini T.tI (ok_WayError__init T) (hr.mono (by decide)) T.b_WayError__init .nil pass0 (by decide) (by rfl) T.g_BadSigns (pa_cons (pv 0) pa_nil)) (pa_cons (OQ.pe_mkV (T.e_BadTexts).oex (T.e_BadTexts).ini T.tI (ok_WayError__init T) (hr.mono (by decide)) T.b_WayError__init .nil pass0 (by decide) (by rfl) T.g_BadTexts (pa_cons (pv 0) pa_nil)) (pa_cons (OQ.pe_mkV (T.e_BadTies).oex (T.e_BadTies).ini T.tI (ok_WayError__init T) (hr.mono (by decide)) T.b_WayError__init .nil pass0 (by decide) (by rfl) T.g_BadTies (pa_cons (pv 0) pa_nil)) pa_nil)))))))))
 (pss_one (ps_ret (pe_op op_cat (pv 1) (pe_lst (pa_cons (OQ.pe_mkV (T.e_BadTongue).oex (T.e_BadTongue).ini T.tI (ok_WayError__init T) (hr.mono (by decide)) T.b_WayError__init .nil pass0 (by decide) (by rfl) T.g_BadTongue (pa_cons (pv 0) pa_nil)) (pa_cons (OQ.pe_mkV0 (T.e_NothingDone).oex (T.e_NothingDone).ini T.tI_NothingDone (ok_NothingDone__init T) (hr.mono (by decide)) T.b_NothingDone__init .nil pass0 (by decide) (by rfl) T.g_NothingDone) (pa_cons (OQ.pe_mkV0 (T.e_TooMany).oex (T.e_TooMany).ini T.tI_TooMany (ok_TooMany__init T) (hr.mono (by decide)) T.b_TooMany__init .nil pass0 (by decide) (by rfl) T.g_TooMany) pa_nil)))))))))))))), ?_⟩
    refine RD.d_cut (fun σ' H' => ∃ (p : Addr) (as : List Addr), σ' = [some v, some (.ref p)] ∧ Same H H' ∧ H' p = some (.lst (as.map V.ref)) ∧ as.length = 6 ∧ ErrsAt H' as [(T.C_BadBook, v), (T.C_BadFlat, v), (T.C_BadKnown, v), (T.C_BadLengths, v), (T.C_BadLetter, v), (T.C_BadLetters, v)]) ?_ ?_
    · walk_at "rd"
      first | refine mkV T T.e_BadBook (fun x0 G0 s0 r0 => ?_) | (refine d_mkV ?_; walk_at "rd"; refine mkV T T.e_BadBook (fun x0 G0 s0 r0 => ?_))
      replace P := ErrsSnoc (ErrsSame P s0) r0
      replace sc := sc.trans s0
      clear s0 r0
      walk_at "rd"
      first | refine mkV T T.e_BadFlat (fun x1 G1 s1 r1 => ?_) | (refine d_mkV ?_; walk_at "rd"; refine mkV T T.e_BadFlat (fun x1 G1 s1 r1 => ?_))
      replace P := ErrsSnoc (ErrsSame P s1) r1
      replace sc := sc.trans s1
      clear s1 r1
      walk_at "rd"
      first | refine mkV T T.e_BadKnown (fun x2 G2 s2 r2 => ?_) | (refine d_mkV ?_; walk_at "rd"; refine mkV T T.e_BadKnown (fun x2 G2 s2 r2 => ?_))
      replace P := ErrsSnoc (ErrsSame P s2) r2
      replace sc := sc.trans s2
      clear s2 r2
      walk_at "rd"
      first | refine mkV T T.e_BadLengths (fun x3 G3 s3 r3 => ?_) | (refine d_mkV ?_; walk_at "rd"; refine mkV T T.e_BadLengths (fun x3 G3 s3 r3 => ?_))
      replace P := ErrsSnoc (ErrsSame P s3) r3
      replace sc := sc.trans s3
      clear s3 r3
      walk_at "rd"
      first | refine mkV T T.e_BadLetter (fun x4 G4 s4 r4 => ?_) | (refine d_mkV ?_; walk_at "rd"; refine mkV T T.e_BadLetter (fun x4 G4 s4 r4 => ?_))
      replace P := ErrsSnoc (ErrsSame P s4) r4
      replace sc := sc.trans s4
      clear s4 r4
      walk_at "rd"
      first | refine mkV T T.e_BadLetters (fun x5 G5 s5 r5 => ?_) | (refine d_mkV ?_; walk_at "rd"; refine mkV T T.e_BadLetters (fun x5 G5 s5 r5 => ?_))
      replace P := ErrsSnoc (ErrsSame P s5) r5
      replace sc := sc.trans s5
      clear s5 r5
      walk_at "rd"
      refine ⟨by show 6 ≤ sizeLine; decide, fun q0 hq0 => ?_⟩
      have s0 := same_upd (o := HO.lst [V.ref x0, V.ref x1, V.ref x2, V.ref x3, V.ref x4, V.ref x5]) hq0
      replace P := ErrsSame P s0
      have eq0 : upd G5 q0 (HO.lst [V.ref x0, V.ref x1, V.ref x2, V.ref x3, V.ref x4, V.ref x5]) q0 = some (HO.lst [V.ref x0, V.ref x1, V.ref x2, V.ref x3, V.ref x4, V.ref x5]) := upd_same
      replace sc := sc.trans s0
      walk_at "rd"
      exact ⟨q0, [x0, x1, x2, x3, x4, x5], rfl, sc, eq0, rfl, P⟩
    clear sc P
    rintro σ' K1 ⟨p0', as1, rfl, sc, ek, al1, P⟩
    refine RD.d_cut (fun σ' H' => ∃ (p : Addr) (as : List Addr), σ' = [some v, some (.ref p)] ∧ Same H H' ∧ H' p = some (.lst (as.map V.ref)) ∧ as.length = 12 ∧ ErrsAt H' as [(T.C_BadBook, v), (T.C_BadFlat, v), (T.C_BadKnown, v), (T.C_BadLengths, v), (T.C_BadLetter, v), (T.C_BadLetters, v), (T.C_BadMany, v), (T.C_BadMost, v), (T.C_BadName, v), (T.C_BadNames, v), (T.C_BadNumber, v), (T.C_BadOffers, v)]) ?_ ?_
    · walk_at "rd"
      first | refine mkV T T.e_BadMany (fun x6 G6 s6 r6 => ?_) | (refine d_mkV ?_; walk_at "rd"; refine mkV T T.e_BadMany (fun x6 G6 s6 r6 => ?_))
      replace P := ErrsSnoc (ErrsSame P s6) r6
      replace ek := s6 _ _ ek
      replace sc := sc.trans s6
      clear s6 r6
      walk_at "rd"
      first | refine mkV T T.e_BadMost (fun x7 G7 s7 r7 => ?_) | (refine d_mkV ?_; walk_at "rd"; refine mkV T T.e_BadMost (fun x7 G7 s7 r7 => ?_))
      replace P := ErrsSnoc (ErrsSame P s7) r7
      replace ek := s7 _ _ ek
      replace sc := sc.trans s7
      clear s7 r7
      walk_at "rd"
      first | refine mkV T T.e_BadName (fun x8 G8 s8 r8 => ?_) | (refine d_mkV ?_; walk_at "rd"; refine mkV T T.e_BadName (fun x8 G8 s8 r8 => ?_))
      replace P := ErrsSnoc (ErrsSame P s8) r8
      replace ek := s8 _ _ ek
      replace sc := sc.trans s8
      clear s8 r8
      walk_at "rd"
      first | refine mkV T T.e_BadNames (fun x9 G9 s9 r9 => ?_) | (refine d_mkV ?_; walk_at "rd"; refine mkV T T.e_BadNames (fun x9 G9 s9 r9 => ?_))
      replace P := ErrsSnoc (ErrsSame P s9) r9
      replace ek := s9 _ _ ek
      replace sc := sc.trans s9
      clear s9 r9
      walk_at "rd"
      first | refine mkV T T.e_BadNumber (fun x10 G10 s10 r10 => ?_) | (refine d_mkV ?_; walk_at "rd"; refine mkV T T.e_BadNumber (fun x10 G10 s10 r10 => ?_))
      replace P := ErrsSnoc (ErrsSame P s10) r10
      replace ek := s10 _ _ ek
      replace sc := sc.trans s10
      clear s10 r10
      walk_at "rd"
      first | refine mkV T T.e_BadOffers (fun x11 G11 s11 r11 => ?_) | (refine d_mkV ?_; walk_at "rd"; refine mkV T T.e_BadOffers (fun x11 G11 s11 r11 => ?_))
      replace P := ErrsSnoc (ErrsSame P s11) r11
      replace ek := s11 _ _ ek
      replace sc := sc.trans s11
      clear s11 r11
      walk_at "rd"
      refine ⟨by show 6 ≤ sizeLine; decide, fun q1 hq1 => ?_⟩
      have s1 := same_upd (o := HO.lst [V.ref x6, V.ref x7, V.ref x8, V.ref x9, V.ref x10, V.ref x11]) hq1
      replace P := ErrsSame P s1
      have eq1 : upd G11 q1 (HO.lst [V.ref x6, V.ref x7, V.ref x8, V.ref x9, V.ref x10, V.ref x11]) q1 = some (HO.lst [V.ref x6, V.ref x7, V.ref x8, V.ref x9, V.ref x10, V.ref x11]) := upd_same
      replace ek := s1 _ _ ek
      replace sc := sc.trans s1
      walk_at "rd"
      refine ⟨_, _, _, _, rfl, rfl, ek, eq1, Nat.le_trans (show (as1.map V.ref).length + 6 ≤ 100 by rw [List.length_map, al1]; decide) (by decide), fun p1 hp1 => ?_⟩
      have t1 := same_upd (o := HO.lst (as1.map V.ref ++ [V.ref x6, V.ref x7, V.ref x8, V.ref x9, V.ref x10, V.ref x11])) hp1
      have em : as1.map V.ref ++ [V.ref x6, V.ref x7, V.ref x8, V.ref x9, V.ref x10, V.ref x11] = (as1 ++ [x6, x7, x8, x9, x10, x11]).map V.ref := by rw [List.map_append]; rfl
      have P2 := ErrsSame P t1
      walk_at "rd"
      exact ⟨p1, as1 ++ [x6, x7, x8, x9, x10, x11], rfl, sc.trans t1, by rw [← em]; exact upd_same, by rw [List.length_append, al1]; rfl, by simpa [List.append_assoc] using P2⟩
    clear sc P ek
    rintro σ' K2 ⟨p1', as2, rfl, sc, ek, al2, P⟩
    refine RD.d_cut (fun σ' H' => ∃ (p : Addr) (as : List Addr), σ' = [some v, some (.ref p)] ∧ Same H H' ∧ H' p = some (.lst (as.map V.ref)) ∧ as.length = 18 ∧ ErrsAt H' as [(T.C_BadBook, v), (T.C_BadFlat, v), (T.C_BadKnown, v), (T.C_BadLengths, v), (T.C_BadLetter, v), (T.C_BadLetters, v), (T.C_BadMany, v), (T.C_BadMost, v), (T.C_BadName, v), (T.C_BadNames, v), (T.C_BadNumber, v), (T.C_BadOffers, v), (T.C_BadPart, v), (T.C_BadPrice, v), (T.C_BadReckoning, v), (T.C_BadRoads, v), (T.C_BadRow, v), (T.C_BadRule, v)]) ?_ ?_
    · walk_at "rd"
      first | refine mkV T T.e_BadPart (fun x12 G12 s12 r12 => ?_) | (refine d_mkV ?_; walk_at "rd"; refine mkV T T.e_BadPart (fun x12 G12 s12 r12 => ?_))
      replace P := ErrsSnoc (ErrsSame P s12) r12
      replace ek := s12 _ _ ek
      replace sc := sc.trans s12
      clear s12 r12
      walk_at "rd"
      first | refine mkV T T.e_BadPrice (fun x13 G13 s13 r13 => ?_) | (refine d_mkV ?_; walk_at "rd"; refine mkV T T.e_BadPrice (fun x13 G13 s13 r13 => ?_))
      replace P := ErrsSnoc (ErrsSame P s13) r13
      replace ek := s13 _ _ ek
      replace sc := sc.trans s13
      clear s13 r13
      walk_at "rd"
      first | refine mkV T T.e_BadReckoning (fun x14 G14 s14 r14 => ?_) | (refine d_mkV ?_; walk_at "rd"; refine mkV T T.e_BadReckoning (fun x14 G14 s14 r14 => ?_))
      replace P := ErrsSnoc (ErrsSame P s14) r14
      replace ek := s14 _ _ ek
      replace sc := sc.trans s14
      clear s14 r14
      walk_at "rd"
      first | refine mkV T T.e_BadRoads (fun x15 G15 s15 r15 => ?_) | (refine d_mkV ?_; walk_at "rd"; refine mkV T T.e_BadRoads (fun x15 G15 s15 r15 => ?_))
      replace P := ErrsSnoc (ErrsSame P s15) r15
      replace ek := s15 _ _ ek
      replace sc := sc.trans s15
      clear s15 r15
      walk_at "rd"
      first | refine mkV T T.e_BadRow (fun x16 G16 s16 r16 => ?_) | (refine d_mkV ?_; walk_at "rd"; refine mkV T T.e_BadRow (fun x16 G16 s16 r16 => ?_))
      replace P := ErrsSnoc (ErrsSame P s16) r16
      replace ek := s16 _ _ ek
      replace sc := sc.trans s16
      clear s16 r16
      walk_at "rd"
      first | refine mkV T T.e_BadRule (fun x17 G17 s17 r17 => ?_) | (refine d_mkV ?_; walk_at "rd"; refine mkV T T.e_BadRule (fun x17 G17 s17 r17 => ?_))
      replace P := ErrsSnoc (ErrsSame P s17) r17
      replace ek := s17 _ _ ek
      replace sc := sc.trans s17
      clear s17 r17
      walk_at "rd"
      refine ⟨by show 6 ≤ sizeLine; decide, fun q2 hq2 => ?_⟩
      have s2 := same_upd (o := HO.lst [V.ref x12, V.ref x13, V.ref x14, V.ref x15, V.ref x16, V.ref x17]) hq2
      replace P := ErrsSame P s2
      have eq2 : upd G17 q2 (HO.lst [V.ref x12, V.ref x13, V.ref x14, V.ref x15, V.ref x16, V.ref x17]) q2 = some (HO.lst [V.ref x12, V.ref x13, V.ref x14, V.ref x15, V.ref x16, V.ref x17]) := upd_same
      replace ek := s2 _ _ ek
      replace sc := sc.trans s2
      walk_at "rd"
      refine ⟨_, _, _, _, rfl, rfl, ek, eq2, Nat.le_trans (show (as2.map V.ref).length + 6 ≤ 100 by rw [List.length_map, al2]; decide) (by decide), fun p2 hp2 => ?_⟩
      have t2 := same_upd (o := HO.lst (as2.map V.ref ++ [V.ref x12, V.ref x13, V.ref x14, V.ref x15, V.ref x16, V.ref x17])) hp2
      have em : as2.map V.ref ++ [V.ref x12, V.ref x13, V.ref x14, V.ref x15, V.ref x16, V.ref x17] = (as2 ++ [x12, x13, x14, x15, x16, x17]).map V.ref := by rw [List.map_append]; rfl
      have P2 := ErrsSame P t2
      walk_at "rd"
      exact ⟨p2, as2 ++ [x12, x13, x14, x15, x16, x17], rfl, sc.trans t2, by rw [← em]; exact upd_same, by rw [List.length_append, al2]; rfl, by simpa [List.append_assoc] using P2⟩
    clear sc P ek
    rintro σ' K3 ⟨p2', as3, rfl, sc, ek, al3, P⟩
    refine RD.d_cut (fun σ' H' => ∃ (p : Addr) (as : List Addr), σ' = [some v, some (.ref p)] ∧ Same H H' ∧ H' p = some (.lst (as.map V.ref)) ∧ as.length = 24 ∧ ErrsAt H' as [(T.C_BadBook, v), (T.C_BadFlat, v), (T.C_BadKnown, v), (T.C_BadLengths, v), (T.C_BadLetter, v), (T.C_BadLetters, v), (T.C_BadMany, v), (T.C_BadMost, v), (T.C_BadName, v), (T.C_BadNames, v), (T.C_BadNumber, v), (T.C_BadOffers, v), (T.C_BadPart, v), (T.C_BadPrice, v), (T.C_BadReckoning, v), (T.C_BadRoads, v), (T.C_BadRow, v), (T.C_BadRule, v), (T.C_BadRules, v), (T.C_BadSpot, v), (T.C_BadTable, v), (T.C_BadTables, v), (T.C_BadText, v), (T.C_BadTimes, v)]) ?_ ?_
    · walk_at "rd"
      first | refine mkV T T.e_BadRules (fun x18 G18 s18 r18 => ?_) | (refine d_mkV ?_; walk_at "rd"; refine mkV T T.e_BadRules (fun x18 G18 s18 r18 => ?_))
      replace P := ErrsSnoc (ErrsSame P s18) r18
      replace ek := s18 _ _ ek
      replace sc := sc.trans s18
      clear s18 r18
      walk_at "rd"
      first | refine mkV T T.e_BadSpot (fun x19 G19 s19 r19 => ?_) | (refine d_mkV ?_; walk_at "rd"; refine mkV T T.e_BadSpot (fun x19 G19 s19 r19 => ?_))
      replace P := ErrsSnoc (ErrsSame P s19) r19
      replace ek := s19 _ _ ek
      replace sc := sc.trans s19
      clear s19 r19
      walk_at "rd"
      first | refine mkV T T.e_BadTable (fun x20 G20 s20 r20 => ?_) | (refine d_mkV ?_; walk_at "rd"; refine mkV T T.e_BadTable (fun x20 G20 s20 r20 => ?_))
      replace P := ErrsSnoc (ErrsSame P s20) r20
      replace ek := s20 _ _ ek
      replace sc := sc.trans s20
      clear s20 r20
      walk_at "rd"
      first | refine mkV T T.e_BadTables (fun x21 G21 s21 r21 => ?_) | (refine d_mkV ?_; walk_at "rd"; refine mkV T T.e_BadTables (fun x21 G21 s21 r21 => ?_))
      replace P := ErrsSnoc (ErrsSame P s21) r21
      replace ek := s21 _ _ ek
      replace sc := sc.trans s21
      clear s21 r21
      walk_at "rd"
      first | refine mkV T T.e_BadText (fun x22 G22 s22 r22 => ?_) | (refine d_mkV ?_; walk_at "rd"; refine mkV T T.e_BadText (fun x22 G22 s22 r22 => ?_))
      replace P := ErrsSnoc (ErrsSame P s22) r22
      replace ek := s22 _ _ ek
      replace sc := sc.trans s22
      clear s22 r22
      walk_at "rd"
      first | refine mkV T T.e_BadTimes (fun x23 G23 s23 r23 => ?_) | (refine d_mkV ?_; walk_at "rd"; refine mkV T T.e_BadTimes (fun x23 G23 s23 r23 => ?_))
      replace P := ErrsSnoc (ErrsSame P s23) r23
      replace ek := s23 _ _ ek
      replace sc := sc.trans s23
      clear s23 r23
      walk_at "rd"
      refine ⟨by show 6 ≤ sizeLine; decide, fun q3 hq3 => ?_⟩
      have s3 := same_upd (o := HO.lst [V.ref x18, V.ref x19, V.ref x20, V.ref x21, V.ref x22, V.ref x23]) hq3
      replace P := ErrsSame P s3
      have eq3 : upd G23 q3 (HO.lst [V.ref x18, V.ref x19, V.ref x20, V.ref x21, V.ref x22, V.ref x23]) q3 = some (HO.lst [V.ref x18, V.ref x19, V.ref x20, V.ref x21, V.ref x22, V.ref x23]) := upd_same
      replace ek := s3 _ _ ek
      replace sc := sc.trans s3
      walk_at "rd"
      refine ⟨_, _, _, _, rfl, rfl, ek, eq3, Nat.le_trans (show (as3.map V.ref).length + 6 ≤ 100 by rw [List.length_map, al3]; decide) (by decide), fun p3 hp3 => ?_⟩
      have t3 := same_upd (o := HO.lst (as3.map V.ref ++ [V.ref x18, V.ref x19, V.ref x20, V.ref x21, V.ref x22, V.ref x23])) hp3
      have em : as3.map V.ref ++ [V.ref x18, V.ref x19, V.ref x20, V.ref x21, V.ref x22, V.ref x23] = (as3 ++ [x18, x19, x20, x21, x22, x23]).map V.ref := by rw [List.map_append]; rfl
      have P2 := ErrsSame P t3
      walk_at "rd"
      exact ⟨p3, as3 ++ [x18, x19, x20, x21, x22, x23], rfl, sc.trans t3, by rw [← em]; exact upd_same, by rw [List.length_append, al3]; rfl, by simpa [List.append_assoc] using P2⟩
    clear sc P ek
    rintro σ' K4 ⟨p3', as4, rfl, sc, ek, al4, P⟩
    refine RD.d_cut (fun σ' H' => ∃ (p : Addr) (as : List Addr), σ' = [some v, some (.ref p)] ∧ Same H H' ∧ H' p = some (.lst (as.map V.ref)) ∧ as.length = 30 ∧ ErrsAt H' as [(T.C_BadBook, v), (T.C_BadFlat, v), (T.C_BadKnown, v), (T.C_BadLengths, v), (T.C_BadLetter, v), (T.C_BadLetters, v), (T.C_BadMany, v), (T.C_BadMost, v), (T.C_BadName, v), (T.C_BadNames, v), (T.C_BadNumber, v), (T.C_BadOffers, v), (T.C_BadPart, v), (T.C_BadPrice, v), (T.C_BadReckoning, v), (T.C_BadRoads, v), (T.C_BadRow, v), (T.C_BadRule, v), (T.C_BadRules, v), (T.C_BadSpot, v), (T.C_BadTable, v), (T.C_BadTables, v), (T.C_BadText, v), (T.C_BadTimes, v), (T.C_BadWatch, v), (T.C_BadWatchers, v), (T.C_BadWatches, v), (T.C_BadWeb, v), (T.C_BadWord, v), (T.C_BadWords, v)]) ?_ ?_
    · walk_at "rd"
      first | refine mkV T T.e_BadWatch (fun x24 G24 s24 r24 => ?_) | (refine d_mkV ?_; walk_at "rd"; refine mkV T T.e_BadWatch (fun x24 G24 s24 r24 => ?_))
      replace P := ErrsSnoc (ErrsSame P s24) r24
      replace ek := s24 _ _ ek
      replace sc := sc.trans s24
      clear s24 r24
      walk_at "rd"
      first | refine mkV T T.e_BadWatchers (fun x25 G25 s25 r25 => ?_) | (refine d_mkV ?_; walk_at "rd"; refine mkV T T.e_BadWatchers (fun x25 G25 s25 r25 => ?_))
      replace P := ErrsSnoc (ErrsSame P s25) r25
      replace ek := s25 _ _ ek
      replace sc := sc.trans s25
      clear s25 r25
      walk_at "rd"
      first | refine mkV T T.e_BadWatches (fun x26 G26 s26 r26 => ?_) | (refine d_mkV ?_; walk_at "rd"; refine mkV T T.e_BadWatches (fun x26 G26 s26 r26 => ?_))
      replace P := ErrsSnoc (ErrsSame P s26) r26
      replace ek := s26 _ _ ek
      replace sc := sc.trans s26
      clear s26 r26
      walk_at "rd"
      first | refine mkV T T.e_BadWeb (fun x27 G27 s27 r27 => ?_) | (refine d_mkV ?_; walk_at "rd"; refine mkV T T.e_BadWeb (fun x27 G27 s27 r27 => ?_))
      replace P := ErrsSnoc (ErrsSame P s27) r27
      replace ek := s27 _ _ ek
      replace sc := sc.trans s27
      clear s27 r27
      walk_at "rd"
      first | refine mkV T T.e_BadWord (fun x28 G28 s28 r28 => ?_) | (refine d_mkV ?_; walk_at "rd"; refine mkV T T.e_BadWord (fun x28 G28 s28 r28 => ?_))
      replace P := ErrsSnoc (ErrsSame P s28) r28
      replace ek := s28 _ _ ek
      replace sc := sc.trans s28
      clear s28 r28
      walk_at "rd"
      first | refine mkV T T.e_BadWords (fun x29 G29 s29 r29 => ?_) | (refine d_mkV ?_; walk_at "rd"; refine mkV T T.e_BadWords (fun x29 G29 s29 r29 => ?_))
      replace P := ErrsSnoc (ErrsSame P s29) r29
      replace ek := s29 _ _ ek
      replace sc := sc.trans s29
      clear s29 r29
      walk_at "rd"
      refine ⟨by show 6 ≤ sizeLine; decide, fun q4 hq4 => ?_⟩
      have s4 := same_upd (o := HO.lst [V.ref x24, V.ref x25, V.ref x26, V.ref x27, V.ref x28, V.ref x29]) hq4
      replace P := ErrsSame P s4
      have eq4 : upd G29 q4 (HO.lst [V.ref x24, V.ref x25, V.ref x26, V.ref x27, V.ref x28, V.ref x29]) q4 = some (HO.lst [V.ref x24, V.ref x25, V.ref x26, V.ref x27, V.ref x28, V.ref x29]) := upd_same
      replace ek := s4 _ _ ek
      replace sc := sc.trans s4
      walk_at "rd"
      refine ⟨_, _, _, _, rfl, rfl, ek, eq4, Nat.le_trans (show (as4.map V.ref).length + 6 ≤ 100 by rw [List.length_map, al4]; decide) (by decide), fun p4 hp4 => ?_⟩
      have t4 := same_upd (o := HO.lst (as4.map V.ref ++ [V.ref x24, V.ref x25, V.ref x26, V.ref x27, V.ref x28, V.ref x29])) hp4
      have em : as4.map V.ref ++ [V.ref x24, V.ref x25, V.ref x26, V.ref x27, V.ref x28, V.ref x29] = (as4 ++ [x24, x25, x26, x27, x28, x29]).map V.ref := by rw [List.map_append]; rfl
      have P2 := ErrsSame P t4
      walk_at "rd"
      exact ⟨p4, as4 ++ [x24, x25, x26, x27, x28, x29], rfl, sc.trans t4, by rw [← em]; exact upd_same, by rw [List.length_append, al4]; rfl, by simpa [List.append_assoc] using P2⟩
    clear sc P ek
    rintro σ' K5 ⟨p4', as5, rfl, sc, ek, al5, P⟩
    refine RD.d_cut (fun σ' H' => ∃ (p : Addr) (as : List Addr), σ' = [some v, some (.ref p)] ∧ Same H H' ∧ H' p = some (.lst (as.map V.ref)) ∧ as.length = 36 ∧ ErrsAt H' as [(T.C_BadBook, v), (T.C_BadFlat, v), (T.C_BadKnown, v), (T.C_BadLengths, v), (T.C_BadLetter, v), (T.C_BadLetters, v), (T.C_BadMany, v), (T.C_BadMost, v), (T.C_BadName, v), (T.C_BadNames, v), (T.C_BadNumber, v), (T.C_BadOffers, v), (T.C_BadPart, v), (T.C_BadPrice, v), (T.C_BadReckoning, v), (T.C_BadRoads, v), (T.C_BadRow, v), (T.C_BadRule, v), (T.C_BadRules, v), (T.C_BadSpot, v), (T.C_BadTable, v), (T.C_BadTables, v), (T.C_BadText, v), (T.C_BadTimes, v), (T.C_BadWatch, v), (T.C_BadWatchers, v), (T.C_BadWatches, v), (T.C_BadWeb, v), (T.C_BadWord, v), (T.C_BadWords, v), (T.C_BadWorth, v), (T.C_BadZigzag, v), (T.C_ManyRows, v), (T.C_NoRow, v), (T.C_NotTold, v), (T.C_BadEnds, v)]) ?_ ?_
    · walk_at "rd"
      first | refine mkV T T.e_BadWorth (fun x30 G30 s30 r30 => ?_) | (refine d_mkV ?_; walk_at "rd"; refine mkV T T.e_BadWorth (fun x30 G30 s30 r30 => ?_))
      replace P := ErrsSnoc (ErrsSame P s30) r30
      replace ek := s30 _ _ ek
      replace sc := sc.trans s30
      clear s30 r30
      walk_at "rd"
      first | refine mkV T T.e_BadZigzag (fun x31 G31 s31 r31 => ?_) | (refine d_mkV ?_; walk_at "rd"; refine mkV T T.e_BadZigzag (fun x31 G31 s31 r31 => ?_))
      replace P := ErrsSnoc (ErrsSame P s31) r31
      replace ek := s31 _ _ ek
      replace sc := sc.trans s31
      clear s31 r31
      walk_at "rd"
      first | refine mkV T T.e_ManyRows (fun x32 G32 s32 r32 => ?_) | (refine d_mkV ?_; walk_at "rd"; refine mkV T T.e_ManyRows (fun x32 G32 s32 r32 => ?_))
      replace P := ErrsSnoc (ErrsSame P s32) r32
      replace ek := s32 _ _ ek
      replace sc := sc.trans s32
      clear s32 r32
      walk_at "rd"
      first | refine mkV T T.e_NoRow (fun x33 G33 s33 r33 => ?_) | (refine d_mkV ?_; walk_at "rd"; refine mkV T T.e_NoRow (fun x33 G33 s33 r33 => ?_))
      replace P := ErrsSnoc (ErrsSame P s33) r33
      replace ek := s33 _ _ ek
      replace sc := sc.trans s33
      clear s33 r33
      walk_at "rd"
      first | refine mkV T T.e_NotTold (fun x34 G34 s34 r34 => ?_) | (refine d_mkV ?_; walk_at "rd"; refine mkV T T.e_NotTold (fun x34 G34 s34 r34 => ?_))
      replace P := ErrsSnoc (ErrsSame P s34) r34
      replace ek := s34 _ _ ek
      replace sc := sc.trans s34
      clear s34 r34
      walk_at "rd"
      first | refine mkV T T.e_BadEnds (fun x35 G35 s35 r35 => ?_) | (refine d_mkV ?_; walk_at "rd"; refine mkV T T.e_BadEnds (fun x35 G35 s35 r35 => ?_))
      replace P := ErrsSnoc (ErrsSame P s35) r35
      replace ek := s35 _ _ ek
      replace sc := sc.trans s35
      clear s35 r35
      walk_at "rd"
      refine ⟨by show 6 ≤ sizeLine; decide, fun q5 hq5 => ?_⟩
      have s5 := same_upd (o := HO.lst [V.ref x30, V.ref x31, V.ref x32, V.ref x33, V.ref x34, V.ref x35]) hq5
      replace P := ErrsSame P s5
      have eq5 : upd G35 q5 (HO.lst [V.ref x30, V.ref x31, V.ref x32, V.ref x33, V.ref x34, V.ref x35]) q5 = some (HO.lst [V.ref x30, V.ref x31, V.ref x32, V.ref x33, V.ref x34, V.ref x35]) := upd_same
      replace ek := s5 _ _ ek
      replace sc := sc.trans s5
      walk_at "rd"
      refine ⟨_, _, _, _, rfl, rfl, ek, eq5, Nat.le_trans (show (as5.map V.ref).length + 6 ≤ 100 by rw [List.length_map, al5]; decide) (by decide), fun p5 hp5 => ?_⟩
      have t5 := same_upd (o := HO.lst (as5.map V.ref ++ [V.ref x30, V.ref x31, V.ref x32, V.ref x33, V.ref x34, V.ref x35])) hp5
      have em : as5.map V.ref ++ [V.ref x30, V.ref x31, V.ref x32, V.ref x33, V.ref x34, V.ref x35] = (as5 ++ [x30, x31, x32, x33, x34, x35]).map V.ref := by rw [List.map_append]; rfl
      have P2 := ErrsSame P t5
      walk_at "rd"
      exact ⟨p5, as5 ++ [x30, x31, x32, x33, x34, x35], rfl, sc.trans t5, by rw [← em]; exact upd_same, by rw [List.length_append, al5]; rfl, by simpa [List.append_assoc] using P2⟩
    clear sc P ek
    rintro σ' K6 ⟨p5', as6, rfl, sc, ek, al6, P⟩
    refine RD.d_cut (fun σ' H' => ∃ (p : Addr) (as : List Addr), σ' = [some v, some (.ref p)] ∧ Same H H' ∧ H' p = some (.lst (as.map V.ref)) ∧ as.length = 42 ∧ ErrsAt H' as [(T.C_BadBook, v), (T.C_BadFlat, v), (T.C_BadKnown, v), (T.C_BadLengths, v), (T.C_BadLetter, v), (T.C_BadLetters, v), (T.C_BadMany, v), (T.C_BadMost, v), (T.C_BadName, v), (T.C_BadNames, v), (T.C_BadNumber, v), (T.C_BadOffers, v), (T.C_BadPart, v), (T.C_BadPrice, v), (T.C_BadReckoning, v), (T.C_BadRoads, v), (T.C_BadRow, v), (T.C_BadRule, v), (T.C_BadRules, v), (T.C_BadSpot, v), (T.C_BadTable, v), (T.C_BadTables, v), (T.C_BadText, v), (T.C_BadTimes, v), (T.C_BadWatch, v), (T.C_BadWatchers, v), (T.C_BadWatches, v), (T.C_BadWeb, v), (T.C_BadWord, v), (T.C_BadWords, v), (T.C_BadWorth, v), (T.C_BadZigzag, v), (T.C_ManyRows, v), (T.C_NoRow, v), (T.C_NotTold, v), (T.C_BadEnds, v), (T.C_BadMap, v), (T.C_BadMenu, v), (T.C_BadMoves, v), (T.C_BadSigns, v), (T.C_BadTexts, v), (T.C_BadTies, v)]) ?_ ?_
    · walk_at "rd"
      first | refine mkV T T.e_BadMap (fun x36 G36 s36 r36 => ?_) | (refine d_mkV ?_; walk_at "rd"; refine mkV T T.e_BadMap (fun x36 G36 s36 r36 => ?_))
      replace P := ErrsSnoc (ErrsSame P s36) r36
      replace ek := s36 _ _ ek
      replace sc := sc.trans s36
      clear s36 r36
      walk_at "rd"
      first | refine mkV T T.e_BadMenu (fun x37 G37 s37 r37 => ?_) | (refine d_mkV ?_; walk_at "rd"; refine mkV T T.e_BadMenu (fun x37 G37 s37 r37 => ?_))
      replace P := ErrsSnoc (ErrsSame P s37) r37
      replace ek := s37 _ _ ek
      replace sc := sc.trans s37
      clear s37 r37
      walk_at "rd"
      first | refine mkV T T.e_BadMoves (fun x38 G38 s38 r38 => ?_) | (refine d_mkV ?_; walk_at "rd"; refine mkV T T.e_BadMoves (fun x38 G38 s38 r38 => ?_))
      replace P := ErrsSnoc (ErrsSame P s38) r38
      replace ek := s38 _ _ ek
      replace sc := sc.trans s38
      clear s38 r38
      walk_at "rd"
      first | refine mkV T T.e_BadSigns (fun x39 G39 s39 r39 => ?_) | (refine d_mkV ?_; walk_at "rd"; refine mkV T T.e_BadSigns (fun x39 G39 s39 r39 => ?_))
      replace P := ErrsSnoc (ErrsSame P s39) r39
      replace ek := s39 _ _ ek
      replace sc := sc.trans s39
      clear s39 r39
      walk_at "rd"
      first | refine mkV T T.e_BadTexts (fun x40 G40 s40 r40 => ?_) | (refine d_mkV ?_; walk_at "rd"; refine mkV T T.e_BadTexts (fun x40 G40 s40 r40 => ?_))
      replace P := ErrsSnoc (ErrsSame P s40) r40
      replace ek := s40 _ _ ek
      replace sc := sc.trans s40
      clear s40 r40
      walk_at "rd"
      first | refine mkV T T.e_BadTies (fun x41 G41 s41 r41 => ?_) | (refine d_mkV ?_; walk_at "rd"; refine mkV T T.e_BadTies (fun x41 G41 s41 r41 => ?_))
      replace P := ErrsSnoc (ErrsSame P s41) r41
      replace ek := s41 _ _ ek
      replace sc := sc.trans s41
      clear s41 r41
      walk_at "rd"
      refine ⟨by show 6 ≤ sizeLine; decide, fun q6 hq6 => ?_⟩
      have s6 := same_upd (o := HO.lst [V.ref x36, V.ref x37, V.ref x38, V.ref x39, V.ref x40, V.ref x41]) hq6
      replace P := ErrsSame P s6
      have eq6 : upd G41 q6 (HO.lst [V.ref x36, V.ref x37, V.ref x38, V.ref x39, V.ref x40, V.ref x41]) q6 = some (HO.lst [V.ref x36, V.ref x37, V.ref x38, V.ref x39, V.ref x40, V.ref x41]) := upd_same
      replace ek := s6 _ _ ek
      replace sc := sc.trans s6
      walk_at "rd"
      refine ⟨_, _, _, _, rfl, rfl, ek, eq6, Nat.le_trans (show (as6.map V.ref).length + 6 ≤ 100 by rw [List.length_map, al6]; decide) (by decide), fun p6 hp6 => ?_⟩
      have t6 := same_upd (o := HO.lst (as6.map V.ref ++ [V.ref x36, V.ref x37, V.ref x38, V.ref x39, V.ref x40, V.ref x41])) hp6
      have em : as6.map V.ref ++ [V.ref x36, V.ref x37, V.ref x38, V.ref x39, V.ref x40, V.ref x41] = (as6 ++ [x36, x37, x38, x39, x40, x41]).map V.ref := by rw [List.map_append]; rfl
      have P2 := ErrsSame P t6
      walk_at "rd"
      exact ⟨p6, as6 ++ [x36, x37, x38, x39, x40, x41], rfl, sc.trans t6, by rw [← em]; exact upd_same, by rw [List.length_append, al6]; rfl, by simpa [List.append_assoc] using P2⟩
    clear sc P ek
    rintro σ' K7 ⟨p6', as7, rfl, sc, ek, al7, P⟩
    walk_at "rd"
    first | refine mkV T T.e_BadTongue (fun x42 G42 s42 r42 => ?_) | (refine d_mkV ?_; walk_at "rd"; refine mkV T T.e_BadTongue (fun x42 G42 s42 r42 => ?_))
    replace P := ErrsSnoc (ErrsSame P s42) r42
    replace ek := s42 _ _ ek
    replace sc := sc.trans s42
    clear s42 r42
    walk_at "rd"
    first | refine mkV0 T T.e_NothingDone (fun x43 G43 s43 r43 => ?_) | (refine d_mkV ?_; walk_at "rd"; refine mkV0 T T.e_NothingDone (fun x43 G43 s43 r43 => ?_))
    replace P := ErrsSnoc (ErrsSame P s43) r43
    replace ek := s43 _ _ ek
    replace sc := sc.trans s43
    clear s43 r43
    walk_at "rd"
    first | refine mkV0 T T.e_TooMany (fun x44 G44 s44 r44 => ?_) | (refine d_mkV ?_; walk_at "rd"; refine mkV0 T T.e_TooMany (fun x44 G44 s44 r44 => ?_))
    replace P := ErrsSnoc (ErrsSame P s44) r44
    replace ek := s44 _ _ ek
    replace sc := sc.trans s44
    clear s44 r44
    walk_at "rd"
    refine ⟨by show 3 ≤ sizeLine; decide, fun q7 hq7 => ?_⟩
    have s7 := same_upd (o := HO.lst [V.ref x42, V.ref x43, V.ref x44]) hq7
    replace P := ErrsSame P s7
    have eq7 : upd G44 q7 (HO.lst [V.ref x42, V.ref x43, V.ref x44]) q7 = some (HO.lst [V.ref x42, V.ref x43, V.ref x44]) := upd_same
    replace ek := s7 _ _ ek
    replace sc := sc.trans s7
    walk_at "rd"
    refine ⟨_, _, _, _, rfl, rfl, ek, eq7, Nat.le_trans (show (as7.map V.ref).length + 3 ≤ 100 by rw [List.length_map, al7]; decide) (by decide), fun p7 hp7 => ?_⟩
    have t7 := same_upd (o := HO.lst (as7.map V.ref ++ [V.ref x42, V.ref x43, V.ref x44])) hp7
    have em : as7.map V.ref ++ [V.ref x42, V.ref x43, V.ref x44] = (as7 ++ [x42, x43, x44]).map V.ref := by rw [List.map_append]; rfl
    have P2 := ErrsSame P t7
    exact k p7 _ (as7 ++ [x42, x43, x44]) (sc.trans t7) (by rw [← em]; exact upd_same) (by simpa [List.append_assoc, errsV] using P2)
end

/-! ### what the clauses told -/
def wayV (which : Int) (v : V) : List V := if which = 0 ∨ which = 1 then [.str "way", v] else [.str "many", .non]
def spCaught (K : PySem.W.Frag) : Sp := fun vs H Q _ => ∃ (which : Int) (v : V), vs = [.int which, v] ∧ ∀ p H', Same H H' → H p = none → H' p = some (.tup (wayV which v)) → Q (.ref p) H'
section
variable {P : Program} {w : World} {K : PySem.W.Frag} {mg : Str → Option Value} {base : Heap}
/-- such an error without a value of its own, raised -/
theorem d_mkO0 {K : PySem.W.Frag} {H : Hp} {C : Addr} {R : XK} (oc : OexC K C) (nv : PySem.W.findIn K (.ref C) "value" = some none) (k : ∀ d, H d = none → R (.ref C) (some d) (upd H d (ErrD .non))) :
    ([] : List V).length ≤ 1000 ∧ ∀ a, H a = none → spWE0 K (.ref a :: ([] ++ [])) (upd H a (exo a C none))
      (fun u H2 => u = .non ∧ ∃ (d : Addr) (fs : List (Str × V)), H2 a = some (exo a C (some d)) ∧ H2 d = some (exd d fs) ∧ H d = none ∧ R (.ref C) (some d) (upd (del H2 a) d (.xd fs))) (fun _ _ _ => False) := by
  obtain ⟨_, q⟩ := d_mkO (v := V.non) oc nv k
  refine ⟨by simp, fun a ha => ?_⟩
  obtain ⟨a', C', v', e, h1, h2, h3, h4⟩ := q a ha
  cases e
  exact ⟨a, C', rfl, h1, h2, h3, h4⟩
theorem d_mkOW {K K' : PySem.W.Frag} {H : Hp} {C : Addr} {v : V} {W : WX} {D : Ends} {ks : List OQ.Cl} {τ : L2.St} (oc : OexC K C) (nv : PySem.W.findIn K (.ref C) "value" = some none) (k : ∀ d, H d = none → OQ.wCls K' W D ks (.ref C) (some d) τ (upd H d (ErrD v))) :
    [v].length ≤ 1000 ∧ ∀ a, H a = none → spWE K (.ref a :: ([v] ++ [])) (upd H a (exo a C none))
      (fun u H2 => u = .non ∧ ∃ (d : Addr) (fs : List (Str × V)), H2 a = some (exo a C (some d)) ∧ H2 d = some (exd d fs) ∧ H d = none ∧ OQ.wCls K' W D ks (.ref C) (some d) τ (upd (del H2 a) d (.xd fs))) (fun _ _ _ => False) :=
  d_mkO (R := fun cls d H' => OQ.wCls K' W D ks cls d τ H') oc nv k
theorem d_mkOW0 {K K' : PySem.W.Frag} {H : Hp} {C : Addr} {W : WX} {D : Ends} {ks : List OQ.Cl} {τ : L2.St} (oc : OexC K C) (nv : PySem.W.findIn K (.ref C) "value" = some none) (k : ∀ d, H d = none → OQ.wCls K' W D ks (.ref C) (some d) τ (upd H d (ErrD .non))) :
    ([] : List V).length ≤ 1000 ∧ ∀ a, H a = none → spWE0 K (.ref a :: ([] ++ [])) (upd H a (exo a C none))
      (fun u H2 => u = .non ∧ ∃ (d : Addr) (fs : List (Str × V)), H2 a = some (exo a C (some d)) ∧ H2 d = some (exd d fs) ∧ H d = none ∧ OQ.wCls K' W D ks (.ref C) (some d) τ (upd (del H2 a) d (.xd fs))) (fun _ _ _ => False) :=
  d_mkO0 (R := fun cls d H' => OQ.wCls K' W D ks cls d τ H') oc nv k
theorem ok_law_caught (T : Top K mg) : FnOk P w K mg base CX0 6 T.f_law_caught T.fd_law_caught ["which", "value"] (spCaught K) := by
  refine T.F_law_caught.ok sc_law_caught (fun vs H Q E h => ?_) (fun cdv A outer s H vs Q E hr h => ?_)
  · obtain ⟨which, v, rfl, _⟩ := h; rfl
  · obtain ⟨which, v, rfl, k⟩ := h
    refine ⟨_, (pss_cons (ps_set (i := 2) sc_law_caught.nd rfl (Or.inl rfl) (pe_tup (pa_cons pe_str (pa_cons pe_non pa_nil))))
 (pss_cons (OQ.ps_try_cls (W := fun _ _ _ _ => False) rfl rfl sc_law_caught.nd takes0 (fun W pn xe tk _ => (pss_cons (ps_if (pt_cmpR op_eq (pv 0) pe_int (nomark _))
 (pss_one (ps_raise rfl tk (pmk_oex (T.e_BadWord).oex (T.e_BadWord).ini T.tI (ok_WayError__init T) (hr.mono (by decide)) T.b_WayError__init .nil pass0 (by rfl) T.g_BadWord (pa_cons (pv 1) pa_nil))))
 pss_nil)
 (pss_cons (ps_if (pt_cmpR op_eq (pv 0) pe_int (nomark _))
 (pss_one (ps_raise rfl tk (pmk_oex (T.e_NotTold).oex (T.e_NotTold).ini T.tI (ok_WayError__init T) (hr.mono (by decide)) T.b_WayError__init .nil pass0 (by rfl) T.g_NotTold (pa_cons (pv 1) pa_nil))))
 pss_nil)
 (pss_one (ps_raise rfl tk (OQ.pmk_mk0 (T.e_TooMany).oex (T.e_TooMany).ini T.tI_TooMany (ok_TooMany__init T) (hr.mono (by decide)) T.b_TooMany__init .nil pass0 (by rfl) T.g_TooMany)))))) (OQ.Cls.cons ⟨.ref T.C_TooMany, 3, _⟩ rfl rfl ⟨rfl, by decide, Or.inl T.g_TooMany⟩ (fun a oe cls d pn hz hf => (pss_one (ps_set (i := 2) sc_law_caught.nd rfl (Or.inl rfl) (pe_tup (pa_cons pe_str (pa_cons (OQ.pe_xe hz hf (pv 3)) pa_nil)))))) (OQ.Cls.cons ⟨.ref T.C_WayError, 3, _⟩ rfl rfl ⟨rfl, by decide, Or.inl T.g_WayError⟩ (fun a oe cls d pn hz hf => (pss_one (ps_set (i := 2) sc_law_caught.nd rfl (Or.inl rfl) (pe_tup (pa_cons pe_str (pa_cons (OQ.pe_xe hz hf (pv 3)) pa_nil)))))) OQ.Cls.nil)))
 (pss_one (ps_ret (pv 2))))), ?_⟩
    walk_at "rd"
    refine ⟨by show 2 ≤ sizeLine; decide, fun p0 hp0 => ?_⟩
    have s0 : Same H (upd H p0 (.tup [.str "none", .non])) := same_upd hp0
    walk_at "rd"
    have fin : ∀ {p1 : Addr} {zs : List V} {G : Hp}, Same H G → zs = wayV which v → ∀ hp1 : G p1 = none, Q (.ref p1) (upd G p1 (.tup zs)) := fun {p1 zs G} sg ez hp1 => by
      rw [ez]; exact k p1 _ (sg.trans (same_upd hp1)) (sg.free hp1) upd_same
    have sd : ∀ {d : Addr} {o : HO}, (upd H p0 (.tup [.str "none", .non])) d = none → Same H (upd (upd H p0 (.tup [.str "none", .non])) d o) := fun hd => s0.trans (same_upd hd)
    refine RD.iteD (fun c => ?_) (fun c => ?_)
    · walk_at "rd"
      refine d_mkOW (T.e_BadWord).oex (T.e_BadWord).va (fun d hd => ?_)
      refine .inr ⟨T.x_BadWord_TooMany, .inl ⟨T.x_BadWord_WayError, fun e he => ?_⟩⟩
      refine ⟨_, (T.e_BadWord).xf, (T.e_BadWord).va, ?_⟩
      walk_at "rd"
      refine ⟨rfl, rfl, d, _, _, rfl, upd_same, errD_v _, ?_⟩
      walk_at "rd"
      refine ⟨by show 2 ≤ sizeLine; decide, fun p1 hp1 => ?_⟩
      walk_at "rd"
      exact fin (sd hd) (by unfold wayV; rw [if_pos (Or.inl c)]) hp1
    · walk_at "rd"
      refine RD.iteD (fun c2 => ?_) (fun c2 => ?_)
      · walk_at "rd"
        refine d_mkOW (T.e_NotTold).oex (T.e_NotTold).va (fun d hd => ?_)
        refine .inr ⟨T.x_NotTold_TooMany, .inl ⟨T.x_NotTold_WayError, fun e he => ?_⟩⟩
        refine ⟨_, (T.e_NotTold).xf, (T.e_NotTold).va, ?_⟩
        walk_at "rd"
        refine ⟨rfl, rfl, d, _, _, rfl, upd_same, errD_v _, ?_⟩
        walk_at "rd"
        refine ⟨by show 2 ≤ sizeLine; decide, fun p1 hp1 => ?_⟩
        walk_at "rd"
        exact fin (sd hd) (by unfold wayV; rw [if_pos (Or.inr c2)]) hp1
      · walk_at "rd"
        refine d_mkOW0 (T.e_TooMany).oex (T.e_TooMany).va (fun d hd => ?_)
        refine .inl ⟨T.x_TooMany_TooMany, fun e he => ?_⟩
        refine ⟨_, (T.e_TooMany).xf, (T.e_TooMany).va, ?_⟩
        walk_at "rd"
        refine ⟨rfl, rfl, d, _, _, rfl, upd_same, errD_v _, ?_⟩
        walk_at "rd"
        refine ⟨by show 2 ≤ sizeLine; decide, fun p1 hp1 => ?_⟩
        walk_at "rd"
        exact fin (sd hd) (by unfold wayV; rw [if_neg (fun z => z.elim c c2)]) hp1
end

/-! ### the values that are handed to the errors -/
inductive Vk (H : Hp) : V → Prop
  | non : Vk H .non
  | bl (b : Bool) : Vk H (.bl b)
  | int (i : Int) : Vk H (.int i)
  | str : Vk H (.str "word")
  | lst {p : Addr} (e : H p = some (.lst [.int 1])) : Vk H (.ref p)
  | tup {p : Addr} (e : H p = some (.tup [.int 2, .str "a"])) : Vk H (.ref p)
  | emp {p : Addr} (e : H p = some (.tup [])) : Vk H (.ref p)
  | dct {p : Addr} (e : H p = some (.dK [(.inr "a", .int 1)])) : Vk H (.ref p)
theorem Vk.same {H H' : Hp} {v : V} (s : Same H H') (h : Vk H v) : Vk H' v := by
  cases h with
  | non => exact .non
  | bl b => exact .bl b
  | int i => exact .int i
  | str => exact .str
  | lst e => exact .lst (s _ _ e)
  | tup e => exact .tup (s _ _ e)
  | emp e => exact .emp (s _ _ e)
  | dct e => exact .dct (s _ _ e)
theorem Vk.it {H : Hp} {v : V} (h : Vk H v) : OQ.SameIt v := by
  cases h <;> first | exact .inl rfl | exact .inr ⟨_, rfl⟩
theorem Vk.ne {K : PySem.W.Frag} {H : Hp} {v : V} {Q : VK} (h : Vk H v) (q : Q (.bl false) H) : rNeD K v v H Q ∨ rNeDA v v H Q := by
  have D : ∀ d : PyData, Dp K H v d → SeqAt.shaped d = true → PyData.eqv d d = true → rNeD K v v H Q ∨ rNeDA v v H Q := fun d h1 h2 h3 => .inl ⟨d, d, h1, h1, h2, h2, by rw [h3]; exact q⟩
  cases h with
  | non => exact D _ .non (by decide) (by decide)
  | bl b => exact D _ (.bl b) (by cases b <;> decide) (by cases b <;> decide)
  | int i => exact D _ (.int i) (by rfl) (by simp [PyData.eqv])
  | str => exact D _ (.str _) (by decide +kernel) (by simp [PyData.eqv])
  | lst e => exact D _ (.lst (SqL.of e) (.cons (.int _) .nil)) (by decide +kernel) (by simp [PyData.eqv, PyData.eqvAll])
  | tup e => exact D _ (.tup (SqT.of e) (.cons (.int _) (.cons (.str _) .nil))) (by decide +kernel) (by simp [PyData.eqv, PyData.eqvAll])
  | emp e => exact D _ (.tup (SqT.of e) .nil) (by decide +kernel) (by simp [PyData.eqv, PyData.eqvAll])
  | dct e => exact .inr ⟨_, _, _, _, rfl, rfl, e, e, rfl, fun p hp => by
      rw [List.mem_singleton.mp hp]
      exact ⟨by simp [valV], rfl⟩, q⟩
theorem Vk.isB {K : PySem.W.Frag} {H : Hp} {v : V} (h : Vk H v) : ∃ (t : Value) (b : Bool), TyX K H v t ∧ PySem.W.kitOne K t (.type "bool") = some b := by
  cases h with
  | non => exact ⟨_, false, .base .non, kit_ty (by decide +kernel)⟩
  | bl b => exact ⟨_, true, .base (.bl b), kit_ty (by decide +kernel)⟩
  | int i => exact ⟨_, false, .base (.int i), kit_ty (by decide +kernel)⟩
  | str => exact ⟨_, false, .base (.str _), kit_ty (by decide +kernel)⟩
  | lst e => exact ⟨_, false, .base (.lst e), kit_ty (by decide +kernel)⟩
  | tup e => exact ⟨_, false, .base (.tup e), kit_ty (by decide +kernel)⟩
  | emp e => exact ⟨_, false, .base (.tup e), kit_ty (by decide +kernel)⟩
  | dct e => exact ⟨_, false, .base (.dK e), kit_ty (by decide +kernel)⟩
section
variable {K : PySem.W.Frag}
theorem flags_lay : ∀ bs : List Bool, PyData.canLayAll0 (bs.map PyData.bool) = true ∧ PyData.depthAll (bs.map PyData.bool) = 0
  | [] => ⟨rfl, rfl⟩
  | b :: bs => by
    obtain ⟨h1, h2⟩ := flags_lay bs
    refine ⟨?_, ?_⟩
    · rw [List.map_cons, PyData.canLayAll0, h1]; rfl
    · rw [List.map_cons, PyData.depthAll, h2]; rfl
theorem flags_dp {H : Hp} : ∀ bs : List Bool, DpAll K H (bs.map V.bl) (bs.map PyData.bool)
  | [] => .nil
  | b :: bs => .cons (.bl b) (flags_dp bs)
/-- two lists of the same flags are not unlike -/
theorem flags_ne {H : Hp} {p q : Addr} {bs : List Bool} {Q : VK} (hp : H p = some (.lst (bs.map V.bl))) (hq : H q = some (.lst (bs.map V.bl))) (k : Q (.bl false) H) : rNeD K (.ref p) (.ref q) H Q := by
  have sh : SeqAt.shaped (.list (bs.map PyData.bool)) = true := by
    unfold SeqAt.shaped
    rw [PyData.canLay0, (flags_lay bs).1, PyData.depth, (flags_lay bs).2]; rfl
  refine ⟨_, _, .lst (SqL.of hp) (flags_dp bs), .lst (SqL.of hq) (flags_dp bs), sh, sh, ?_⟩
  rw [SeqAt.eqv_refl _ (SeqAt.canLay_of_shaped sh)]; exact k
end
section
variable {K : PySem.W.Frag} {mg : Str → Option Value}
theorem ers_len (T : Top K mg) : (ers T).length = 45 := rfl
theorem errsV_lo (T : Top K mg) (v : V) : errsV T v = ((ers T).take 43).map (fun C => (C, v)) ++ ((ers T).drop 43).map (fun C => (C, V.non)) := rfl
theorem errsV_at (T : Top K mg) (v : V) {t : Nat} (h : t < 45) : (errsV T v)[t]? = some ((ers T)[t]'(by rw [ers_len]; exact h), if 42 < t then V.non else v) := by
  have hl : ((ers T).take 43).length = 43 := rfl
  have ht : t < (ers T).length := by rw [ers_len]; exact h
  rw [errsV_lo]
  by_cases c : 42 < t
  · rw [if_pos c, List.getElem?_append_right (by rw [List.length_map, hl]; omega), List.length_map, hl, List.getElem?_map, List.getElem?_drop, show 43 + (t - 43) = t by omega, List.getElem?_eq_getElem ht]; rfl
  · rw [if_neg c, List.getElem?_append_left (by rw [List.length_map, hl]; omega), List.getElem?_map, List.getElem?_take_of_lt (by omega), List.getElem?_eq_getElem ht]; rfl
def ErF (T : Top K mg) (C : Addr) : Prop := ∃ f, OQ.ErC K T.C_WayError f C
theorem ers_ok (T : Top K mg) : ∀ C ∈ ers T, ErF T C := by
  have h : ∀ {C : Addr} {r : List Addr}, ErF T C → (∀ D ∈ r, ErF T D) → ∀ D ∈ C :: r, ErF T D := fun e h D m => (List.mem_cons.mp m).elim (fun z => z ▸ e) (h D)
  exact h ⟨_, T.e_BadBook⟩ <| h ⟨_, T.e_BadFlat⟩ <| h ⟨_, T.e_BadKnown⟩ <| h ⟨_, T.e_BadLengths⟩ <| h ⟨_, T.e_BadLetter⟩ <| h ⟨_, T.e_BadLetters⟩ <| h ⟨_, T.e_BadMany⟩ <| h ⟨_, T.e_BadMost⟩ <| h ⟨_, T.e_BadName⟩ <| h ⟨_, T.e_BadNames⟩ <| h ⟨_, T.e_BadNumber⟩ <| h ⟨_, T.e_BadOffers⟩ <| h ⟨_, T.e_BadPart⟩ <| h ⟨_, T.e_BadPrice⟩ <| h ⟨_, T.e_BadReckoning⟩ <| h ⟨_, T.e_BadRoads⟩ <| h ⟨_, T.e_BadRow⟩ <| h ⟨_, T.e_BadRule⟩ <| h ⟨_, T.e_BadRules⟩ <| h ⟨_, T.e_BadSpot⟩ <| h ⟨_, T.e_BadTable⟩ <| h ⟨_, T.e_BadTables⟩ <| h ⟨_, T.e_BadText⟩ <| h ⟨_, T.e_BadTimes⟩ <| h ⟨_, T.e_BadWatch⟩ <| h ⟨_, T.e_BadWatchers⟩ <| h ⟨_, T.e_BadWatches⟩ <| h ⟨_, T.e_BadWeb⟩ <| h ⟨_, T.e_BadWord⟩ <| h ⟨_, T.e_BadWords⟩ <| h ⟨_, T.e_BadWorth⟩ <| h ⟨_, T.e_BadZigzag⟩ <| h ⟨_, T.e_ManyRows⟩ <| h ⟨_, T.e_NoRow⟩ <| h ⟨_, T.e_NotTold⟩ <| h ⟨_, T.e_BadEnds⟩ <| h ⟨_, T.e_BadMap⟩ <| h ⟨_, T.e_BadMenu⟩ <| h ⟨_, T.e_BadMoves⟩ <| h ⟨_, T.e_BadSigns⟩ <| h ⟨_, T.e_BadTexts⟩ <| h ⟨_, T.e_BadTies⟩ <| h ⟨_, T.e_BadTongue⟩ <| h ⟨_, T.e_NothingDone⟩ <| h ⟨_, T.e_TooMany⟩ <| fun _ z => nomatch z
theorem flags_are (T : Top K mg) {t : Nat} (h : t < 45) : ((ers T).map fun C => decide ((ers T)[t]'(by rw [ers_len]; exact h) = C)) = (List.range 45).map fun j => decide (j = t) := by
  refine List.ext_getElem (by rw [List.length_map, List.length_map, List.length_range, ers_len]) fun j h1 h2 => ?_
  rw [List.getElem_map, List.getElem_map, List.getElem_range]
  have hj : j < (ers T).length := by rw [List.length_map] at h1; exact h1
  have nd : (ers T).Nodup := T.nd
  by_cases e : j = t
  · subst e; rw [decide_eq_true rfl, decide_eq_true rfl]
  · have no := List.pairwise_iff_getElem.mp nd
    have ht : t < (ers T).length := by rw [ers_len]; exact h
    rw [decide_eq_false e, decide_eq_false fun z => ?_]
    rcases Nat.lt_or_gt_of_ne e with l | l
    · exact no j t hj ht l z.symm
    · exact no t j ht hj l z
theorem errs_get {H : Hp} {as : List Addr} {xs : List (Addr × V)} (p : ErrsAt H as xs) : ∀ {t : Nat} {y : Addr × V}, xs[t]? = some y → ∃ a, as[t]? = some a ∧ OQ.ErrAt H a y.1 [(("value" : Str), y.2)] := by
  unfold ErrsAt at p
  induction p with
  | nil => intro t y e; cases e
  | @cons a x as xs h _ ih =>
    intro t y e
    rcases t with _ | t
    · cases e; exact ⟨a, rfl, h⟩
    · exact ih e
end
def spLaw (K : PySem.W.Frag) : Sp := fun vs H Q _ => ∃ (a : Addr) (ns : List Int), vs = [.ref a] ∧ SqL K H a (ns.map V.int) ∧ ns.length ≤ 63 ∧ ∀ H', Q (.bl true) H'

section
variable {P : Program} {w : World} {K : PySem.W.Frag} {mg : Str → Option Value} {base : Heap}
theorem tapeSame {H H' : Hp} {h c : Addr} (t : TapeAt H h c) (s : Same H H') : TapeAt H' h c := by
  obtain ⟨cs, p, q, m, n, e1, e2, ne, hp⟩ := t
  exact ⟨cs, p, q, m, n, s _ _ e1, s _ _ e2, ne, hp⟩
theorem Vk.but {H H' : Hp} {h c : Addr} {v : V} (t : TapeAt H h c) (b : But h H H') (k : Vk H v) : Vk H' v := by
  obtain ⟨cs, p, q, m, n, e1, _⟩ := t
  have go : ∀ {p : Addr} {o : HO}, H p = some o → HO.lst [.ref c, .int _, .int q, .int m, .int n] ≠ o → H' p = some o := fun {p o} e ne => by
    rw [b p (fun z => by rw [z, e1] at e; exact ne (Option.some.inj e))]; exact e
  cases k with
  | non => exact .non
  | bl b => exact .bl b
  | int i => exact .int i
  | str => exact .str
  | lst e => exact .lst (go e (by simp))
  | tup e => exact .tup (go e (by simp))
  | emp e => exact .emp (go e (by simp))
  | dct e => exact .dct (go e (by simp))
theorem d_vf {K : PySem.W.Frag} {n : Str} {te : TE} {τ : L2.St} {H : Hp} {Q : VK} (h : te τ H fun x H1 => ∃ (a C : Addr) (fs : List (Str × V)) (v : V), x = .ref a ∧ OQ.ErrAt H1 a C fs ∧ XfC K C ∧ PySem.W.findIn K (.ref C) n = some none ∧ fs.lookup n = some v ∧ Q v H1) : OQ.tVf K n te τ H Q := h
theorem ok_law (T : Top K mg) : FnOk P w K mg base CX0 8 T.f_law T.fd_law ["script"] (spLaw K) := by
  refine T.F_law.ok sc_law (fun vs H Q E h => ?_) (fun cdv A outer s H vs Q E hr h => ?_)
  · obtain ⟨a, ns, rfl, _⟩ := h; rfl
  · obtain ⟨a, ns, rfl, hS, hl, k⟩ := h
    refine ⟨_, (C8.pss_cut (ps_set (i := 1) sc_law.nd rfl (Or.inl rfl) (pe_call (ok_law_tape T) (hr.mono (by decide)) (by rfl) T.g_law_tape T.F_law_tape.kp T.b_law_tape .nil pass0 (pa_cons (pv 0) pa_nil)))
 (C8.pss_cut (ps_set (i := 2) sc_law.nd rfl (Or.inr rfl) (pe_ix ix_list (pe_lst (pa_cons pe_non (pa_cons pe_bl (pa_cons pe_int (pa_cons (pe_un un_neg pe_int) (pa_cons pe_str (pa_cons (pe_lst (pa_cons pe_int pa_nil)) (pa_cons (pe_tup (pa_cons pe_int (pa_cons pe_str pa_nil))) (pa_cons (pe_disp (pps_cons pe_str pe_int pps_nil) (by rfl) (by rfl) (by simp) (by decide)) (pa_cons (pe_op op_pow pe_int pe_int) (pa_cons (pe_tup pa_nil) pa_nil))))))))))) (pe_call (ok_law_pick T) (hr.mono (by decide)) (by rfl) T.g_law_pick T.F_law_pick.kp T.b_law_pick .nil pass0 (pa_cons (pv 1) (pa_cons pe_int pa_nil))) (fun _ _ => rfl)))
 (C8.pss_cut (ps_set (i := 3) sc_law.nd rfl (Or.inl rfl) (pe_call (ok_law_first T) (hr.mono (by decide)) (by rfl) T.g_law_first T.F_law_first.kp T.b_law_first .nil pass0 (pa_cons (pv 2) pa_nil)))
 (pss_cons (ps_for PassesOwn.never rfl (pi_range1 (by rfl) T.n_range (pa_cons (pe_callB RD.c_len (by rfl) T.n_len (by decide +kernel) (pa_cons (pv 3) pa_nil)) pa_nil)) (pg_name (i := 4) sc_law.nd rfl (Or.inr rfl))
 (C8.pss_cut (ps_set (i := 5) sc_law.nd rfl (Or.inl rfl) (pv 2))
 (C8.pss_cut (ps_if (pt_cmpR op_gt (pv 4) pe_int (nomark _))
 (pss_one (ps_set (i := 5) sc_law.nd rfl (Or.inl rfl) pe_non))
 pss_nil)
 (C8.pss_cut (ps_if (PW.pt (pw_or (pt_cmpR (OQ.op_or (op_neD hr.units) (op_ne_dictA hr.units0)) (OQ.pe_vf (pe_ix ix_list (pv 3) (pv 4) (fun _ _ => rfl))) (pv 5) (nomark _)) (pw_or1 (pt_cmpR op_ne (pe_callB call_isi (by rfl) T.n_isinstance (by decide +kernel) (pa_cons (OQ.pe_vf (pe_ix ix_list (pv 3) (pv 4) (fun _ _ => rfl))) (pa_cons (pe_bltn (v := V.ty "bool") (by rfl) T.n_bool (by decide +kernel) rfl) pa_nil))) (pe_callB call_isi (by rfl) T.n_isinstance (by decide +kernel) (pa_cons (pv 5) (pa_cons (pe_bltn (v := V.ty "bool") (by rfl) T.n_bool (by decide +kernel) rfl) pa_nil))) (nomark _)))))
 (pss_one (ps_ret pe_bl))
 pss_nil)
 (C8.pss_cut (ps_if (PW.pt (pw_or (pt_not (pt_val (pe_callB OQ.call_isV (by rfl) T.n_isinstance (by decide +kernel) (pa_cons (pe_ix ix_list (pv 3) (pv 4) (fun _ _ => rfl)) (pa_cons (pe_glob (v := V.ref T.C_WayError) (by rfl) T.g_WayError rfl) pa_nil))))) (pw_or1 (pt_not (pt_val (pe_callB OQ.call_isV (by rfl) T.n_isinstance (by decide +kernel) (pa_cons (pe_ix ix_list (pv 3) (pv 4) (fun _ _ => rfl)) (pa_cons (pe_bltn (v := V.ty "ValueError") (by rfl) T.n_ValueError (by decide +kernel) rfl) pa_nil))))))))
 (pss_one (ps_ret pe_bl))
 pss_nil)
 (pss_one (ps_if (pt_cmpR (op_neD hr.units) (pe_call (ok_law_kinds T) (hr.mono (by decide)) (by rfl) T.g_law_kinds T.F_law_kinds.kp T.b_law_kinds .nil pass0 (pa_cons (pe_ix ix_list (pv 3) (pv 4) (fun _ _ => rfl)) pa_nil)) (pe_lc (own := [("place", 6)]) (g := (gName 6)) (tt := tYes) rfl sc_law.nd (pi_range1 (by rfl) T.n_range (pa_cons pe_int pa_nil)) (blkOk_by (own := [("place", 6)]) (N := ["script", "tape", "value", "made", "k", "due", "place", "which"]) (sc := defScope s_law) (by decide +kernel)) (fun _ _ _ _ _ => (pg_name (i := 6) sc_law.nd rfl (Or.inl rfl))) (fun _ _ _ _ _ => pts_nil) (fun _ _ _ _ _ => (pe_cmpR op_eq (pv 6) (pv 4) (nomark _)))) (nomark _))
 (pss_one (ps_ret pe_bl))
 pss_nil)))))))
 (pss_one (ps_ret (pe_cmpR (OQ.op_eqTw (Nat.lt_of_le_of_lt (Nat.add_le_add_left (by decide) _) hr.units)) (pe_lc (own := [("which", 7)]) (g := (gName 7)) (tt := tYes) rfl sc_law.nd (pi_range1 (by rfl) T.n_range (pa_cons pe_int pa_nil)) (blkOk_by (own := [("which", 7)]) (N := ["script", "tape", "value", "made", "k", "due", "place", "which"]) (sc := defScope s_law) (by decide +kernel)) (fun _ _ _ _ _ => (pg_name (i := 7) sc_law.nd rfl (Or.inl rfl))) (fun _ _ _ _ _ => pts_nil) (fun _ _ _ _ _ => (pe_call (ok_law_caught T) (hr.mono (by decide)) (by rfl) T.g_law_caught T.F_law_caught.kp T.b_law_caught .nil pass0 (pa_cons (pv 7) (pa_cons (pv 2) pa_nil))))) (pe_lst (pa_cons (pe_tup (pa_cons pe_str (pa_cons (pv 2) pa_nil))) (pa_cons (pe_tup (pa_cons pe_str (pa_cons (pv 2) pa_nil))) (pa_cons (pe_tup (pa_cons pe_str (pa_cons pe_non pa_nil))) pa_nil)))) (nomark _)))))))), ?_⟩
    refine RD.d_cut (fun σ' H' => ∃ (h c : Addr), σ' = [some (.ref a), some (.ref h), none, none, none, none, none, none] ∧ TapeAt H' h c) ?_ ?_
    · walk_at "rd"
      refine ⟨a, ns, rfl, hS, fun h c H1 t1 s1 nh nc => ?_⟩
      walk_at "rd"
      exact ⟨h, c, rfl, t1⟩
    rintro σ' H1 ⟨h, c, rfl, t1⟩
    refine RD.d_cut (fun σ' H' => ∃ (v : V), σ' = [some (.ref a), some (.ref h), some v, none, none, none, none, none] ∧ Vk H' v) ?_ ?_
    · walk_at "rd"
      refine ⟨by show 1 ≤ sizeLine; decide, fun pl hpl => ?_⟩
      have s1 := same_upd (o := HO.lst [.int 1]) hpl
      have el : upd H1 pl (.lst [.int 1]) pl = some (.lst [.int 1]) := upd_same
      replace t1 := tapeSame t1 s1
      generalize upd H1 pl (.lst [.int 1]) = H2 at *
      walk_at "rd"
      refine ⟨by show 2 ≤ sizeLine; decide, fun pt hpt => ?_⟩
      have s2 := same_upd (o := HO.tup [.int 2, .str "a"]) hpt
      have et : upd H2 pt (.tup [.int 2, .str "a"]) pt = some (.tup [.int 2, .str "a"]) := upd_same
      replace t1 := tapeSame t1 s2
      replace el := s2 _ _ el
      generalize upd H2 pt (.tup [.int 2, .str "a"]) = H3 at *
      walk_at "rd"
      refine fun pd hpd => ?_
      unfold tPairs
      walk_at "rd"
      unfold tPairs
      refine ⟨upd_same, [(.inr "a", .int 1)], rfl, by decide, ?_⟩
      rw [upd_upd]
      have s3 := same_upd (o := HO.dK (mergeK [] [(.inr "a", .int 1)])) hpd
      have ed : upd H3 pd (.dK (mergeK [] [(.inr "a", .int 1)])) pd = some (.dK [(.inr "a", .int 1)]) := upd_same
      replace t1 := tapeSame t1 s3
      replace el := s3 _ _ el
      replace et := s3 _ _ et
      generalize upd H3 pd (.dK (mergeK [] [(.inr "a", .int 1)])) = H4 at *
      walk_at "rd"
      refine ⟨by show 0 ≤ sizeLine; decide, fun pe hpe => ?_⟩
      have s4 := same_upd (o := HO.tup []) hpe
      have ee : upd H4 pe (.tup []) pe = some (.tup []) := upd_same
      replace t1 := tapeSame t1 s4
      replace el := s4 _ _ el
      replace et := s4 _ _ et
      replace ed := s4 _ _ ed
      generalize upd H4 pe (.tup []) = H5 at *
      generalize hb : (10 : Int) ^ Int.toNat 30 = big
      clear hb
      walk_at "rd"
      refine ⟨by show 10 ≤ sizeLine; decide, fun pq hpq => ?_⟩
      generalize hits : [V.non, V.bl true, V.int 0, V.int (-7), V.str "word", V.ref pl, V.ref pt, V.ref pd, V.int big, V.ref pe] = its
      have s5 := same_upd (o := HO.lst its) hpq
      have eq : upd H5 pq (.lst its) pq = some (.lst its) := upd_same
      have ten : its.length = 10 := by rw [← hits]; rfl
      replace t1 := tapeSame t1 s5
      have vks : ∀ v ∈ its, Vk (upd H5 pq (.lst its)) v := by
        intro v hv
        refine Vk.same s5 ?_
        rw [← hits] at hv
        simp only [List.mem_cons, List.not_mem_nil, or_false] at hv
        rcases hv with rfl | rfl | rfl | rfl | rfl | rfl | rfl | rfl | rfl | rfl
        · exact .non
        · exact .bl _
        · exact .int _
        · exact .int _
        · exact .str
        · exact .lst el
        · exact .tup et
        · exact .dct ed
        · exact .int _
        · exact .emp ee
      generalize upd H5 pq (.lst its) = H6 at *
      walk_at "rd"
      refine ⟨h, c, 10, rfl, t1, by decide, by decide +kernel, fun r H7 r0 r1 t2 b2 => ?_⟩
      have rl : r.toNat < its.length := by omega
      have ar : atI its r = some its[r.toNat] := by
        have z := atI_nat (List.getElem?_eq_getElem rl)
        rwa [Int.toNat_of_nonneg r0] at z
      have nq : pq ≠ h := fun z => by
        obtain ⟨cs, p, q, m, n, e1, _⟩ := t1
        rw [z, e1] at eq
        have z2 := congrArg List.length (HO.lst.inj (Option.some.inj eq))
        rw [ten] at z2
        exact absurd z2 (by simp)
      walk_at "rd"
      refine RD.d_ixL (SqL.of (by rw [b2 pq nq]; exact eq)) ar ?_
      walk_at "rd"
      exact ⟨_, rfl, Vk.but t1 b2 (vks _ (List.getElem_mem rl))⟩
    clear t1
    rintro σ' H2 ⟨v, rfl, vk⟩
    refine RD.d_cut (fun σ' H' => ∃ (p : Addr) (as : List Addr), σ' = [some (.ref a), some (.ref h), some v, some (.ref p), none, none, none, none] ∧ Vk H' v ∧ H' p = some (.lst (as.map V.ref)) ∧ ErrsAt H' as (errsV T v)) ?_ ?_
    · walk_at "rd"
      refine ⟨v, rfl, fun p H3 as s3 ep er => ?_⟩
      walk_at "rd"
      exact ⟨p, as, rfl, vk.same s3, ep, er⟩
    clear vk
    rintro σ' H3 ⟨p, as, rfl, vk, ep, er⟩
    have al : as.length = 45 := Paired.length er
    walk_at "rd"
    refine ⟨45, by rw [List.length_map, al]; rfl, by decide, by decide, ?_⟩
    refine RD.f_range (lo := 0) (n := 45) (fun t σ' H' => ∃ v4 v5 v6 : Option V, σ' = [some (.ref a), some (.ref h), some v, some (.ref p), v4, v5, v6, none] ∧ Same H3 H') ⟨none, none, none, rfl, fun _ _ e => e⟩ ?_ ?_
    · rintro t σ' H4 ht ⟨v4, v5, v6, rfl, s4⟩
      have vk4 := vk.same s4
      have ep4 := s4 _ _ ep
      have er4 := ErrsSame er s4
      obtain ⟨x, ax, ex⟩ := errs_get er4 (errsV_at T v ht)
      have hx : (as.map V.ref)[t]? = some (.ref x) := by rw [List.getElem?_map, ax]; rfl
      have atx : atI (as.map V.ref) (0 + (t : Int)) = some (.ref x) := by rw [Int.zero_add]; exact atI_nat hx
      obtain ⟨f, ec⟩ := ers_ok T _ (List.getElem_mem (by rw [ers_len]; exact ht : t < (ers T).length))
      generalize hC : (ers T)[t]'(by rw [ers_len]; exact ht) = C at *
      generalize hd : (if 42 < t then V.non else v) = dv at *
      have vd : Vk H4 dv := by rw [← hd]; split; exact .non; exact vk4
      walk_at "rd"
      refine RD.d_cut (fun σ' H' => σ' = [some (.ref a), some (.ref h), some v, some (.ref p), some (.int (0 + t)), some v, v6, none] ∧ H' = H4) ?_ ?_
      · walk_at "rd"
        exact ⟨rfl, rfl⟩
      rintro σ' H' ⟨rfl, rfl⟩
      refine RD.d_cut (fun σ' H'' => σ' = [some (.ref a), some (.ref h), some v, some (.ref p), some (.int (0 + t)), some dv, v6, none] ∧ H'' = H') ?_ ?_
      · walk_at "rd"
        refine RD.iteD (fun c => ?_) (fun c => ?_)
        · walk_at "rd"
          exact ⟨by rw [← hd, if_pos (by omega)]; rfl, rfl⟩
        · walk_at "rd"
          exact ⟨by rw [← hd, if_neg (by omega)], rfl⟩
      rintro σ' H'' ⟨rfl, rfl⟩
      refine RD.d_cut (fun σ' H' => σ' = [some (.ref a), some (.ref h), some v, some (.ref p), some (.int (0 + t)), some dv, v6, none] ∧ H' = H'') ?_ ?_
      · walk_at "rd"
        refine d_vf ?_
        walk_at "rd"
        refine RD.d_ixL (SqL.of ep4) atx ?_
        refine ⟨x, C, _, dv, rfl, ex, ec.xf, ec.va, errD_v dv, ?_⟩
        walk_at "rd"
        refine Vk.ne vd ?_
        walk_at "rd"
        obtain ⟨ty, b, hty, hkb⟩ := vd.isB (K := K)
        refine d_vf ?_
        walk_at "rd"
        refine RD.d_ixL (SqL.of ep4) atx ?_
        refine ⟨x, C, _, dv, rfl, ex, ec.xf, ec.va, errD_v dv, ?_⟩
        walk_at "rd"
        refine RD.d_isi (.ty _) hty hkb ?_
        walk_at "rd"
        refine RD.d_isi (.ty _) hty hkb ?_
        walk_at "rd"
        refine ⟨rfl, ?_⟩
        rw [decide_eq_true rfl]
        walk_at "rd"
        exact ⟨rfl, rfl⟩
      rintro σ' H' ⟨rfl, rfl⟩
      refine RD.d_cut (fun σ' H'' => σ' = [some (.ref a), some (.ref h), some v, some (.ref p), some (.int (0 + t)), some dv, v6, none] ∧ H'' = H') ?_ ?_
      · walk_at "rd"
        refine RD.d_ixL (SqL.of ep4) atx ?_
        walk_at "rd"
        refine ⟨x, C, _, _, _, _, rfl, ex, ec.exi, .own _, OQ.kit_eW ec T.w_cls T.w_ty, ?_⟩
        walk_at "rd"
        refine RD.d_ixL (SqL.of ep4) atx ?_
        walk_at "rd"
        refine ⟨x, C, _, _, _, _, rfl, ex, ec.exi, .ty _, OQ.kit_eV ec, ?_⟩
        walk_at "rd"
        exact ⟨rfl, rfl⟩
      rintro σ' H'' ⟨rfl, rfl⟩
      walk_at "rd"
      refine RD.d_ixL (SqL.of ep4) atx ?_
      walk_at "rd"
      refine ⟨x, C, f, _, rfl, ex, ec, fun q H5 s5 nq eq => ?_⟩
      walk_at "rd"
      refine ⟨45, rfl, by decide, by decide, ?_⟩
      intro D hD
      refine lc_range (lo := 0) (n := 45) (fun i H' => Same H5 H' ∧ H' D = some (.lst ((List.range i).map fun j => V.bl (decide (j = t))))) ?_ ?_ ?_
      · exact ⟨same_upd hD, upd_same⟩
      · rintro i H' hi ⟨s6, eD⟩
        walk_at "rd"
        refine ⟨_, eD, by rw [List.length_map, List.length_range]; exact Nat.lt_of_lt_of_le hi (by decide), fun b u e => ?_, ?_⟩
        · rw [upd_ne (ne_of_none e hD)]; exact s6 _ _ e
        · rw [upd_same, List.range_succ, List.map_append]
          have q1 : decide ((0 : Int) + (i : Int) = 0 + (t : Int)) = decide (i = t) := by rw [decide_eq_decide]; omega
          rw [q1]; rfl
      · rintro H' ⟨s6, eD⟩
        have eq6 := s6 _ _ eq
        have f1 : H' q = some (.lst (((List.range 45).map fun j => decide (j = t)).map V.bl)) := by
          rw [eq6, ← flags_are T ht, List.map_map, hC]; rfl
        have f2 : H' D = some (.lst (((List.range 45).map fun j => decide (j = t)).map V.bl)) := by rw [eD, List.map_map]; rfl
        refine flags_ne f1 f2 ?_
        walk_at "rd"
        exact ⟨_, _, _, rfl, (s4.trans s5).trans s6⟩
    · rintro σ' H4 ⟨v4, v5, v6, rfl, s4⟩
      walk_at "rd"
      refine ⟨3, rfl, by decide, by decide, ?_⟩
      intro D hD
      refine lc_range (lo := 0) (n := 3) (fun i H' => ∃ ps : List Addr, Same H4 H' ∧ ps.length = i ∧ H' D = some (.lst (ps.map V.ref)) ∧ ∀ (j : Nat) (p : Addr), ps[j]? = some p → p ≠ D ∧ H' p = some (.tup (wayV j v))) ?_ ?_ ?_
      · exact ⟨[], same_upd hD, rfl, upd_same, fun j p e => by cases e⟩
      · rintro i H' hi ⟨ps, s6, len, eD, all⟩
        walk_at "rd"
        refine ⟨_, _, rfl, fun p1 H7 s7 n7 e7 => ?_⟩
        have nD : p1 ≠ D := fun z => by rw [z, eD] at n7; cases n7
        refine ⟨_, s7 _ _ eD, by rw [List.length_map, len]; exact Nat.lt_of_lt_of_le hi (by decide), ps ++ [p1], fun b u e => ?_, by rw [List.length_append, len]; rfl, ?_, fun j p e => ?_⟩
        · rw [upd_ne (ne_of_none e hD)]; exact s7 _ _ (s6 _ _ e)
        · rw [upd_same, List.map_append]; rfl
        · by_cases lj : j < ps.length
          · rw [List.getElem?_append_left lj] at e
            obtain ⟨n1, e1⟩ := all j p e
            exact ⟨n1, by rw [upd_ne n1]; exact s7 _ _ e1⟩
          · have q : j = i := by
              have := (List.getElem?_eq_some_iff.mp e).1
              rw [List.length_append, len] at this
              simp at this
              omega
            subst q
            rw [List.getElem?_append_right (by omega), len, Nat.sub_self] at e
            cases e
            refine ⟨nD, ?_⟩
            rw [upd_ne nD, e7, Int.zero_add]
      · rintro H' ⟨ps, s6, len, eD, all⟩
        obtain ⟨r0, r1, r2, rfl⟩ : ∃ a b c, ps = [a, b, c] := by
          match ps, len with
          | [a, b, c], _ => exact ⟨a, b, c, rfl⟩
        have e0 := (all 0 r0 rfl).2
        have e1 := (all 1 r1 rfl).2
        have e2 := (all 2 r2 rfl).2
        have w0 : wayV (0 : Nat) v = [.str "way", v] := if_pos (.inl rfl)
        have w1 : wayV (1 : Nat) v = [.str "way", v] := if_pos (.inr rfl)
        have w2 : wayV (2 : Nat) v = [.str "many", .non] := if_neg (by decide)
        rw [w0] at e0
        rw [w1] at e1
        rw [w2] at e2
        clear w0 w1 w2 all
        have it := vk.it
        walk_at "rd"
        refine ⟨by show 2 ≤ sizeLine; decide, fun q0 h0 => ?_⟩
        have z0 := same_upd (o := HO.tup [.str "way", v]) h0
        have f0 : upd H' q0 (.tup [.str "way", v]) q0 = some (.tup [.str "way", v]) := upd_same
        replace e0 := z0 _ _ e0
        replace e1 := z0 _ _ e1
        replace e2 := z0 _ _ e2
        replace eD := z0 _ _ eD
        generalize upd H' q0 (.tup [.str "way", v]) = G0 at *
        walk_at "rd"
        refine ⟨by show 2 ≤ sizeLine; decide, fun q1 h1 => ?_⟩
        have z1 := same_upd (o := HO.tup [.str "way", v]) h1
        have f1 : upd G0 q1 (.tup [.str "way", v]) q1 = some (.tup [.str "way", v]) := upd_same
        replace f0 := z1 _ _ f0
        replace e0 := z1 _ _ e0
        replace e1 := z1 _ _ e1
        replace e2 := z1 _ _ e2
        replace eD := z1 _ _ eD
        generalize upd G0 q1 (.tup [.str "way", v]) = G1 at *
        walk_at "rd"
        refine ⟨by show 2 ≤ sizeLine; decide, fun q2 h2 => ?_⟩
        have z2 := same_upd (o := HO.tup [.str "many", .non]) h2
        have f2 : upd G1 q2 (.tup [.str "many", .non]) q2 = some (.tup [.str "many", .non]) := upd_same
        replace f0 := z2 _ _ f0
        replace f1 := z2 _ _ f1
        replace e0 := z2 _ _ e0
        replace e1 := z2 _ _ e1
        replace e2 := z2 _ _ e2
        replace eD := z2 _ _ eD
        generalize upd G1 q2 (.tup [.str "many", .non]) = G2 at *
        walk_at "rd"
        refine ⟨by show 3 ≤ sizeLine; decide, fun ql hl2 => ?_⟩
        have z3 := same_upd (o := HO.lst [.ref q0, .ref q1, .ref q2]) hl2
        have eL : upd G2 ql (.lst [.ref q0, .ref q1, .ref q2]) ql = some (.lst [.ref q0, .ref q1, .ref q2]) := upd_same
        have its : ∀ u ∈ [V.str "way", v], OQ.SameIt u := fun u hu => by
          rcases List.mem_cons.mp hu with rfl | hu
          · exact .inl rfl
          · rw [List.mem_singleton.mp hu]; exact it
        have itm : ∀ u ∈ [V.str "many", V.non], OQ.SameIt u := fun u hu => by
          rcases List.mem_cons.mp hu with rfl | hu
          · exact .inl rfl
          · rw [List.mem_singleton.mp hu]; exact .inl rfl
        refine ⟨_, _, _, _, rfl, rfl, SqL.of (z3 _ _ eD), SqL.of eL, ?_, k _⟩
        exact .cons ⟨_, _, _, rfl, rfl, SqT.of (z3 _ _ e0), SqT.of (z3 _ _ f0), its⟩ (.cons ⟨_, _, _, rfl, rfl, SqT.of (z3 _ _ e1), SqT.of (z3 _ _ f1), its⟩ (.cons ⟨_, _, _, rfl, rfl, SqT.of (z3 _ _ e2), SqT.of (z3 _ _ f2), itm⟩ .nil))
end

/-! ### the head -/
def faH0 : List He.Fa := [.glo "WayError", .glo "BadBook", .glo "BadFlat", .glo "BadKnown", .glo "BadLengths", .glo "BadLetter", .glo "BadLetters", .glo "BadMany", .glo "BadMost", .glo "BadName", .glo "BadNames", .glo "BadNumber", .glo "BadOffers", .glo "BadPart", .glo "BadPrice", .glo "BadReckoning", .glo "BadRoads", .glo "BadRow", .glo "BadRule", .glo "BadRules", .glo "BadSpot", .glo "BadTable", .glo "BadTables", .glo "BadText", .glo "BadTimes", .glo "BadWatch", .glo "BadWatchers", .glo "BadWatches", .glo "BadWeb", .glo "BadWord"]
def faH1 : List He.Fa := [.glo "BadWords", .glo "BadWorth", .glo "BadZigzag", .glo "ManyRows", .glo "NoRow", .glo "NotTold", .glo "BadEnds", .glo "BadMap", .glo "BadMenu", .glo "BadMoves", .glo "BadSigns", .glo "BadTexts", .glo "BadTies", .glo "BadTongue", .glo "NothingDone", .glo "TooMany", .glo "_law_tape", .glo "_law_pick", .glo "_law_kinds", .glo "_law_first", .glo "_law_caught", .glo "law", .free "ValueError", .free "bool", .free "int", .free "isinstance", .free "len", .free "list", .free "range"]
def faH : List He.Fa := faH0 ++ faH1
def dH_WayError__init : He.DefD := ⟨("WayError", some "__init__"), "__init__", "WayError.__init__", defArgs s_WayError__init, defBody s_WayError__init, defScope s_WayError__init, [], []⟩
def dH_TooMany__init : He.DefD := ⟨("TooMany", some "__init__"), "__init__", "TooMany.__init__", defArgs s_TooMany__init, defBody s_TooMany__init, defScope s_TooMany__init, [], []⟩
def dH_NothingDone__init : He.DefD := ⟨("NothingDone", some "__init__"), "__init__", "NothingDone.__init__", defArgs s_NothingDone__init, defBody s_NothingDone__init, defScope s_NothingDone__init, [], []⟩
def dH_law_tape : He.DefD := ⟨("_law_tape", none), "_law_tape", "_law_tape", defArgs s_law_tape, defBody s_law_tape, defScope s_law_tape, [], []⟩
def dH_law_pick : He.DefD := ⟨("_law_pick", none), "_law_pick", "_law_pick", defArgs s_law_pick, defBody s_law_pick, defScope s_law_pick, [], []⟩
def dH_law_kinds : He.DefD := ⟨("_law_kinds", none), "_law_kinds", "_law_kinds", defArgs s_law_kinds, defBody s_law_kinds, defScope s_law_kinds, [], []⟩
def dH_law_first : He.DefD := ⟨("_law_first", none), "_law_first", "_law_first", defArgs s_law_first, defBody s_law_first, defScope s_law_first, [], []⟩
def dH_law_caught : He.DefD := ⟨("_law_caught", none), "_law_caught", "_law_caught", defArgs s_law_caught, defBody s_law_caught, defScope s_law_caught, [], []⟩
def dH_law : He.DefD := ⟨("law", none), "law", "law", defArgs s_law, defBody s_law, defScope s_law, [], []⟩
def fnH : List He.DefD := [dH_WayError__init, dH_TooMany__init, dH_NothingDone__init, dH_law_tape, dH_law_pick, dH_law_kinds, dH_law_first, dH_law_caught, dH_law]
def erH0 : List Str := ["BadBook", "BadFlat", "BadKnown", "BadLengths", "BadLetter", "BadLetters", "BadMany", "BadMost", "BadName", "BadNames", "BadNumber", "BadOffers", "BadPart", "BadPrice", "BadReckoning", "BadRoads", "BadRow", "BadRule", "BadRules", "BadSpot", "BadTable", "BadTables", "BadText", "BadTimes", "BadWatch", "BadWatchers", "BadWatches", "BadWeb", "BadWord", "BadWords"]
def erH1 : List Str := ["BadWorth", "BadZigzag", "ManyRows", "NoRow", "NotTold", "BadEnds", "BadMap", "BadMenu", "BadMoves", "BadSigns", "BadTexts", "BadTies", "BadTongue"]
def erH : List Str := erH0 ++ erH1
def x_eAll (K : PySem.W.Frag) : Bool := OQ.allB (fun x => OQ.erB K (He.ga K "WayError") (He.fAd K ("WayError", some "__init__")) (He.ga K x)) erH
def x_eTooMany (K : PySem.W.Frag) : Bool := OQ.erB K (He.ga K "WayError") (He.fAd K ("TooMany", some "__init__")) (He.ga K "TooMany")
def x_eNothingDone (K : PySem.W.Frag) : Bool := OQ.erB K (He.ga K "WayError") (He.fAd K ("NothingDone", some "__init__")) (He.ga K "NothingDone")
def x_hnO (K : PySem.W.Frag) : Bool := OQ.isB (PySem.W.specialIn K (.builtin "object.__class__") "__get__") (some (.builtin "getset_descriptor.__get__"))
def x_htO (K : PySem.W.Frag) : Bool := decide (PySem.W.takesIn K (.builtin "object.__class__") = some true)
def x_tiWE (K : PySem.W.Frag) : Bool := decide (PySem.W.typeIn K (.ref (He.fAd K ("WayError", some "__init__"))) = some (.type "function"))
def x_tiTM (K : PySem.W.Frag) : Bool := decide (PySem.W.typeIn K (.ref (He.fAd K ("TooMany", some "__init__"))) = some (.type "function"))
def x_tiND (K : PySem.W.Frag) : Bool := decide (PySem.W.typeIn K (.ref (He.fAd K ("NothingDone", some "__init__"))) = some (.type "function"))
def x_rdWE (K : PySem.W.Frag) : Bool := PySem.W.readsIn K (He.ga K "WayError") (.type "type")
def x_gaWE (K : PySem.W.Frag) : Bool := OQ.isB (PySem.W.specialIn K (.ref (He.ga K "WayError")) "__getattribute__") (some (.builtin "type.__getattribute__"))
def x_vaWE (K : PySem.W.Frag) : Bool := (match PySem.W.findCls K (.ref (He.ga K "WayError")) (.type "type") "__init__" with | some (.val v) => decide (v = .ref (He.fAd K ("WayError", some "__init__"))) | _ => false)
def x_icWE (K : PySem.W.Frag) : Bool := PySem.W.isClsIn K (He.ga K "WayError")
def x_tyWE (K : PySem.W.Frag) : Bool := decide (PySem.W.typeIn K (.ref (He.ga K "WayError")) = some (.type "type"))
def x_exWE (K : PySem.W.Frag) : Bool := decide (PySem.W.subIn K (.ref (He.ga K "WayError")) (.type "BaseException") = some true)
def x_nBT (K : PySem.W.Frag) : Bool := decide ((He.ga K "BadWord") ≠ (He.ga K "TooMany"))
def x_nNT (K : PySem.W.Frag) : Bool := decide ((He.ga K "NotTold") ≠ (He.ga K "TooMany"))
def x_nTW (K : PySem.W.Frag) : Bool := decide ((He.ga K "TooMany") ≠ (He.ga K "WayError"))
def x_nd (K : PySem.W.Frag) : Bool := decide (([(He.ga K "BadBook"), (He.ga K "BadFlat"), (He.ga K "BadKnown"), (He.ga K "BadLengths"), (He.ga K "BadLetter"), (He.ga K "BadLetters"), (He.ga K "BadMany"), (He.ga K "BadMost"), (He.ga K "BadName"), (He.ga K "BadNames"), (He.ga K "BadNumber"), (He.ga K "BadOffers"), (He.ga K "BadPart"), (He.ga K "BadPrice"), (He.ga K "BadReckoning"), (He.ga K "BadRoads"), (He.ga K "BadRow"), (He.ga K "BadRule"), (He.ga K "BadRules"), (He.ga K "BadSpot"), (He.ga K "BadTable"), (He.ga K "BadTables"), (He.ga K "BadText"), (He.ga K "BadTimes"), (He.ga K "BadWatch"), (He.ga K "BadWatchers"), (He.ga K "BadWatches"), (He.ga K "BadWeb"), (He.ga K "BadWord"), (He.ga K "BadWords"), (He.ga K "BadWorth"), (He.ga K "BadZigzag"), (He.ga K "ManyRows"), (He.ga K "NoRow"), (He.ga K "NotTold"), (He.ga K "BadEnds"), (He.ga K "BadMap"), (He.ga K "BadMenu"), (He.ga K "BadMoves"), (He.ga K "BadSigns"), (He.ga K "BadTexts"), (He.ga K "BadTies"), (He.ga K "BadTongue"), (He.ga K "NothingDone"), (He.ga K "TooMany")]).Nodup)
def x_nW (K : PySem.W.Frag) : Bool := decide ((He.ga K "WayError") ∉ [(He.ga K "BadBook"), (He.ga K "BadFlat"), (He.ga K "BadKnown"), (He.ga K "BadLengths"), (He.ga K "BadLetter"), (He.ga K "BadLetters"), (He.ga K "BadMany"), (He.ga K "BadMost"), (He.ga K "BadName"), (He.ga K "BadNames"), (He.ga K "BadNumber"), (He.ga K "BadOffers"), (He.ga K "BadPart"), (He.ga K "BadPrice"), (He.ga K "BadReckoning"), (He.ga K "BadRoads"), (He.ga K "BadRow"), (He.ga K "BadRule"), (He.ga K "BadRules"), (He.ga K "BadSpot"), (He.ga K "BadTable"), (He.ga K "BadTables"), (He.ga K "BadText"), (He.ga K "BadTimes"), (He.ga K "BadWatch"), (He.ga K "BadWatchers"), (He.ga K "BadWatches"), (He.ga K "BadWeb"), (He.ga K "BadWord"), (He.ga K "BadWords"), (He.ga K "BadWorth"), (He.ga K "BadZigzag"), (He.ga K "ManyRows"), (He.ga K "NoRow"), (He.ga K "NotTold"), (He.ga K "BadEnds"), (He.ga K "BadMap"), (He.ga K "BadMenu"), (He.ga K "BadMoves"), (He.ga K "BadSigns"), (He.ga K "BadTexts"), (He.ga K "BadTies"), (He.ga K "BadTongue"), (He.ga K "NothingDone"), (He.ga K "TooMany")])
def exH (K : PySem.W.Frag) : Bool := x_eAll K && (x_eTooMany K && (x_eNothingDone K && (x_hnO K && (x_htO K && (x_tiWE K && (x_tiTM K && (x_tiND K && (x_rdWE K && (x_gaWE K && (x_vaWE K && (x_icWE K && (x_tyWE K && (x_exWE K && (x_nBT K && (x_nNT K && (x_nTW K && (x_nd K && (x_nW K))))))))))))))))))
abbrev hk : PySem.W.Hook := OQ.hookB 5 faH fnH exH
def ob : PySem.W.SharedT → He.AlD × Bool := OQ.obB 5 faH fnH exH
theorem vaH {r : Option PySem.W.CFound} {f : Addr} (h : (match r with | some (.val v) => decide (v = Value.ref f) | _ => false) = true) : r = some (.val (.ref f)) := by
  split at h
  · rw [of_decide_eq_true h]
  · cases h
theorem facts {P : Program} {w : World} {K : PySem.W.Frag} {h : Heap} {mg : Str → Option Value} {f : Addr} (X : K.In h) (G : h.Ns mainGlobals mg) (hfa : mg ("law" : Str) = some (.ref f)) (c : He.SaysD faH fnH K) (x : exH K = true) :
    ∃ fd : FuncData, (∀ (s : Shared) (v : Value), BindsTo s fd ⟨[v], []⟩ [("script", v)]) ∧ ∀ base : Heap, K.In base → base.Ns mainGlobals mg → FnOk P w K mg base CX0 8 f fd ["script"] (spLaw K) := by
  obtain ⟨fdWayError__init, DWayError__init⟩ := c.def_ 0 (d := dH_WayError__init) rfl
  have FWayError__init : Fun K _ _ s_WayError__init _ fdWayError__init := OQ.fun_of DWayError__init
  have bWayError__init := FWayError__init.binds (ps := ["self", "value"]) fun _ _ _ _ _ _ us hl => match us, hl with | [_, _], _ => rfl
  obtain ⟨fdTooMany__init, DTooMany__init⟩ := c.def_ 1 (d := dH_TooMany__init) rfl
  have FTooMany__init : Fun K _ _ s_TooMany__init _ fdTooMany__init := OQ.fun_of DTooMany__init
  have bTooMany__init := FTooMany__init.binds (ps := ["self"]) fun _ _ _ _ _ _ us hl => match us, hl with | [_], _ => rfl
  obtain ⟨fdNothingDone__init, DNothingDone__init⟩ := c.def_ 2 (d := dH_NothingDone__init) rfl
  have FNothingDone__init : Fun K _ _ s_NothingDone__init _ fdNothingDone__init := OQ.fun_of DNothingDone__init
  have bNothingDone__init := FNothingDone__init.binds (ps := ["self"]) fun _ _ _ _ _ _ us hl => match us, hl with | [_], _ => rfl
  obtain ⟨fdlaw_tape, Dlaw_tape⟩ := c.def_ 3 (d := dH_law_tape) rfl
  have Flaw_tape : Fun K _ _ s_law_tape _ fdlaw_tape := OQ.fun_of Dlaw_tape
  have blaw_tape := Flaw_tape.binds (ps := ["script"]) fun _ _ _ _ _ _ us hl => match us, hl with | [_], _ => rfl
  obtain ⟨fdlaw_pick, Dlaw_pick⟩ := c.def_ 4 (d := dH_law_pick) rfl
  have Flaw_pick : Fun K _ _ s_law_pick _ fdlaw_pick := OQ.fun_of Dlaw_pick
  have blaw_pick := Flaw_pick.binds (ps := ["tape", "size"]) fun _ _ _ _ _ _ us hl => match us, hl with | [_, _], _ => rfl
  obtain ⟨fdlaw_kinds, Dlaw_kinds⟩ := c.def_ 5 (d := dH_law_kinds) rfl
  have Flaw_kinds : Fun K _ _ s_law_kinds _ fdlaw_kinds := OQ.fun_of Dlaw_kinds
  have blaw_kinds := Flaw_kinds.binds (ps := ["e"]) fun _ _ _ _ _ _ us hl => match us, hl with | [_], _ => rfl
  obtain ⟨fdlaw_first, Dlaw_first⟩ := c.def_ 6 (d := dH_law_first) rfl
  have Flaw_first : Fun K _ _ s_law_first _ fdlaw_first := OQ.fun_of Dlaw_first
  have blaw_first := Flaw_first.binds (ps := ["value"]) fun _ _ _ _ _ _ us hl => match us, hl with | [_], _ => rfl
  obtain ⟨fdlaw_caught, Dlaw_caught⟩ := c.def_ 7 (d := dH_law_caught) rfl
  have Flaw_caught : Fun K _ _ s_law_caught _ fdlaw_caught := OQ.fun_of Dlaw_caught
  have blaw_caught := Flaw_caught.binds (ps := ["which", "value"]) fun _ _ _ _ _ _ us hl => match us, hl with | [_, _], _ => rfl
  obtain ⟨fdlaw, Dlaw⟩ := c.def_ 8 (d := dH_law) rfl
  have Flaw : Fun K _ _ s_law _ fdlaw := OQ.fun_of Dlaw
  have blaw := Flaw.binds (ps := ["script"]) fun _ _ _ _ _ _ us hl => match us, hl with | [_], _ => rfl
  have gWayError : mg "WayError" = some (.ref (He.ga K "WayError")) := He.glo_ok X G (c.fact 0 (f := .glo "WayError") rfl)
  have gBadBook : mg "BadBook" = some (.ref (He.ga K "BadBook")) := He.glo_ok X G (c.fact 1 (f := .glo "BadBook") rfl)
  have gBadFlat : mg "BadFlat" = some (.ref (He.ga K "BadFlat")) := He.glo_ok X G (c.fact 2 (f := .glo "BadFlat") rfl)
  have gBadKnown : mg "BadKnown" = some (.ref (He.ga K "BadKnown")) := He.glo_ok X G (c.fact 3 (f := .glo "BadKnown") rfl)
  have gBadLengths : mg "BadLengths" = some (.ref (He.ga K "BadLengths")) := He.glo_ok X G (c.fact 4 (f := .glo "BadLengths") rfl)
  have gBadLetter : mg "BadLetter" = some (.ref (He.ga K "BadLetter")) := He.glo_ok X G (c.fact 5 (f := .glo "BadLetter") rfl)
  have gBadLetters : mg "BadLetters" = some (.ref (He.ga K "BadLetters")) := He.glo_ok X G (c.fact 6 (f := .glo "BadLetters") rfl)
  have gBadMany : mg "BadMany" = some (.ref (He.ga K "BadMany")) := He.glo_ok X G (c.fact 7 (f := .glo "BadMany") rfl)
  have gBadMost : mg "BadMost" = some (.ref (He.ga K "BadMost")) := He.glo_ok X G (c.fact 8 (f := .glo "BadMost") rfl)
  have gBadName : mg "BadName" = some (.ref (He.ga K "BadName")) := He.glo_ok X G (c.fact 9 (f := .glo "BadName") rfl)
  have gBadNames : mg "BadNames" = some (.ref (He.ga K "BadNames")) := He.glo_ok X G (c.fact 10 (f := .glo "BadNames") rfl)
  have gBadNumber : mg "BadNumber" = some (.ref (He.ga K "BadNumber")) := He.glo_ok X G (c.fact 11 (f := .glo "BadNumber") rfl)
  have gBadOffers : mg "BadOffers" = some (.ref (He.ga K "BadOffers")) := He.glo_ok X G (c.fact 12 (f := .glo "BadOffers") rfl)
  have gBadPart : mg "BadPart" = some (.ref (He.ga K "BadPart")) := He.glo_ok X G (c.fact 13 (f := .glo "BadPart") rfl)
  have gBadPrice : mg "BadPrice" = some (.ref (He.ga K "BadPrice")) := He.glo_ok X G (c.fact 14 (f := .glo "BadPrice") rfl)
  have gBadReckoning : mg "BadReckoning" = some (.ref (He.ga K "BadReckoning")) := He.glo_ok X G (c.fact 15 (f := .glo "BadReckoning") rfl)
  have gBadRoads : mg "BadRoads" = some (.ref (He.ga K "BadRoads")) := He.glo_ok X G (c.fact 16 (f := .glo "BadRoads") rfl)
  have gBadRow : mg "BadRow" = some (.ref (He.ga K "BadRow")) := He.glo_ok X G (c.fact 17 (f := .glo "BadRow") rfl)
  have gBadRule : mg "BadRule" = some (.ref (He.ga K "BadRule")) := He.glo_ok X G (c.fact 18 (f := .glo "BadRule") rfl)
  have gBadRules : mg "BadRules" = some (.ref (He.ga K "BadRules")) := He.glo_ok X G (c.fact 19 (f := .glo "BadRules") rfl)
  have gBadSpot : mg "BadSpot" = some (.ref (He.ga K "BadSpot")) := He.glo_ok X G (c.fact 20 (f := .glo "BadSpot") rfl)
  have gBadTable : mg "BadTable" = some (.ref (He.ga K "BadTable")) := He.glo_ok X G (c.fact 21 (f := .glo "BadTable") rfl)
  have gBadTables : mg "BadTables" = some (.ref (He.ga K "BadTables")) := He.glo_ok X G (c.fact 22 (f := .glo "BadTables") rfl)
  have gBadText : mg "BadText" = some (.ref (He.ga K "BadText")) := He.glo_ok X G (c.fact 23 (f := .glo "BadText") rfl)
  have gBadTimes : mg "BadTimes" = some (.ref (He.ga K "BadTimes")) := He.glo_ok X G (c.fact 24 (f := .glo "BadTimes") rfl)
  have gBadWatch : mg "BadWatch" = some (.ref (He.ga K "BadWatch")) := He.glo_ok X G (c.fact 25 (f := .glo "BadWatch") rfl)
  have gBadWatchers : mg "BadWatchers" = some (.ref (He.ga K "BadWatchers")) := He.glo_ok X G (c.fact 26 (f := .glo "BadWatchers") rfl)
  have gBadWatches : mg "BadWatches" = some (.ref (He.ga K "BadWatches")) := He.glo_ok X G (c.fact 27 (f := .glo "BadWatches") rfl)
  have gBadWeb : mg "BadWeb" = some (.ref (He.ga K "BadWeb")) := He.glo_ok X G (c.fact 28 (f := .glo "BadWeb") rfl)
  have gBadWord : mg "BadWord" = some (.ref (He.ga K "BadWord")) := He.glo_ok X G (c.fact 29 (f := .glo "BadWord") rfl)
  have gBadWords : mg "BadWords" = some (.ref (He.ga K "BadWords")) := He.glo_ok X G (c.fact 30 (f := .glo "BadWords") rfl)
  have gBadWorth : mg "BadWorth" = some (.ref (He.ga K "BadWorth")) := He.glo_ok X G (c.fact 31 (f := .glo "BadWorth") rfl)
  have gBadZigzag : mg "BadZigzag" = some (.ref (He.ga K "BadZigzag")) := He.glo_ok X G (c.fact 32 (f := .glo "BadZigzag") rfl)
  have gManyRows : mg "ManyRows" = some (.ref (He.ga K "ManyRows")) := He.glo_ok X G (c.fact 33 (f := .glo "ManyRows") rfl)
  have gNoRow : mg "NoRow" = some (.ref (He.ga K "NoRow")) := He.glo_ok X G (c.fact 34 (f := .glo "NoRow") rfl)
  have gNotTold : mg "NotTold" = some (.ref (He.ga K "NotTold")) := He.glo_ok X G (c.fact 35 (f := .glo "NotTold") rfl)
  have gBadEnds : mg "BadEnds" = some (.ref (He.ga K "BadEnds")) := He.glo_ok X G (c.fact 36 (f := .glo "BadEnds") rfl)
  have gBadMap : mg "BadMap" = some (.ref (He.ga K "BadMap")) := He.glo_ok X G (c.fact 37 (f := .glo "BadMap") rfl)
  have gBadMenu : mg "BadMenu" = some (.ref (He.ga K "BadMenu")) := He.glo_ok X G (c.fact 38 (f := .glo "BadMenu") rfl)
  have gBadMoves : mg "BadMoves" = some (.ref (He.ga K "BadMoves")) := He.glo_ok X G (c.fact 39 (f := .glo "BadMoves") rfl)
  have gBadSigns : mg "BadSigns" = some (.ref (He.ga K "BadSigns")) := He.glo_ok X G (c.fact 40 (f := .glo "BadSigns") rfl)
  have gBadTexts : mg "BadTexts" = some (.ref (He.ga K "BadTexts")) := He.glo_ok X G (c.fact 41 (f := .glo "BadTexts") rfl)
  have gBadTies : mg "BadTies" = some (.ref (He.ga K "BadTies")) := He.glo_ok X G (c.fact 42 (f := .glo "BadTies") rfl)
  have gBadTongue : mg "BadTongue" = some (.ref (He.ga K "BadTongue")) := He.glo_ok X G (c.fact 43 (f := .glo "BadTongue") rfl)
  have gNothingDone : mg "NothingDone" = some (.ref (He.ga K "NothingDone")) := He.glo_ok X G (c.fact 44 (f := .glo "NothingDone") rfl)
  have gTooMany : mg "TooMany" = some (.ref (He.ga K "TooMany")) := He.glo_ok X G (c.fact 45 (f := .glo "TooMany") rfl)
  have g_law_tape : mg "_law_tape" = some (.ref (He.ga K "_law_tape")) := He.glo_ok X G (c.fact 46 (f := .glo "_law_tape") rfl)
  have g_law_pick : mg "_law_pick" = some (.ref (He.ga K "_law_pick")) := He.glo_ok X G (c.fact 47 (f := .glo "_law_pick") rfl)
  have g_law_kinds : mg "_law_kinds" = some (.ref (He.ga K "_law_kinds")) := He.glo_ok X G (c.fact 48 (f := .glo "_law_kinds") rfl)
  have g_law_first : mg "_law_first" = some (.ref (He.ga K "_law_first")) := He.glo_ok X G (c.fact 49 (f := .glo "_law_first") rfl)
  have g_law_caught : mg "_law_caught" = some (.ref (He.ga K "_law_caught")) := He.glo_ok X G (c.fact 50 (f := .glo "_law_caught") rfl)
  have glaw : mg "law" = some (.ref (He.ga K "law")) := He.glo_ok X G (c.fact 51 (f := .glo "law") rfl)
  have zValueError : mg "ValueError" = none := He.free_ok X G (c.fact 52 (f := .free "ValueError") rfl)
  have zbool : mg "bool" = none := He.free_ok X G (c.fact 53 (f := .free "bool") rfl)
  have zint : mg "int" = none := He.free_ok X G (c.fact 54 (f := .free "int") rfl)
  have zisinstance : mg "isinstance" = none := He.free_ok X G (c.fact 55 (f := .free "isinstance") rfl)
  have zlen : mg "len" = none := He.free_ok X G (c.fact 56 (f := .free "len") rfl)
  have zlist : mg "list" = none := He.free_ok X G (c.fact 57 (f := .free "list") rfl)
  have zrange : mg "range" = none := He.free_ok X G (c.fact 58 (f := .free "range") rfl)
  have r0 := x
  obtain ⟨eAll, r1⟩ := OQ.two r0
  obtain ⟨eTooMany, r2⟩ := OQ.two r1
  obtain ⟨eNothingDone, r3⟩ := OQ.two r2
  obtain ⟨hnO, r4⟩ := OQ.two r3
  obtain ⟨htO, r5⟩ := OQ.two r4
  obtain ⟨tiWE, r6⟩ := OQ.two r5
  obtain ⟨tiTM, r7⟩ := OQ.two r6
  obtain ⟨tiND, r8⟩ := OQ.two r7
  obtain ⟨rdWE, r9⟩ := OQ.two r8
  obtain ⟨gaWE, r10⟩ := OQ.two r9
  obtain ⟨vaWE, r11⟩ := OQ.two r10
  obtain ⟨icWE, r12⟩ := OQ.two r11
  obtain ⟨tyWE, r13⟩ := OQ.two r12
  obtain ⟨exWE, r14⟩ := OQ.two r13
  obtain ⟨nBT, r15⟩ := OQ.two r14
  obtain ⟨nNT, r16⟩ := OQ.two r15
  obtain ⟨nTW, r17⟩ := OQ.two r16
  obtain ⟨nd, r18⟩ := OQ.two r17
  have nW := r18
  replace hnO := OQ.isB_ok hnO
  replace htO := of_decide_eq_true htO
  have eA : ∀ x ∈ erH, OQ.erB K (He.ga K "WayError") (He.fAd K ("WayError", some "__init__")) (He.ga K x) = true := OQ.allB_at eAll
  have eX : ∀ {x : Str}, erH.contains x = true → OQ.ErC K (He.ga K "WayError") (He.fAd K ("WayError", some "__init__")) (He.ga K x) := fun h => OQ.erB_ok hnO htO (eA _ (List.contains_iff_mem.mp h))
  have eTM := OQ.erB_ok hnO htO eTooMany
  have eND := OQ.erB_ok hnO htO eNothingDone
  have e := hfa.symm.trans glaw
  cases e
  let T : Top K mg := { f_WayError__init := _, fd_WayError__init := fdWayError__init, F_WayError__init := FWayError__init, b_WayError__init := bWayError__init, f_TooMany__init := _, fd_TooMany__init := fdTooMany__init, F_TooMany__init := FTooMany__init, b_TooMany__init := bTooMany__init, f_NothingDone__init := _, fd_NothingDone__init := fdNothingDone__init, F_NothingDone__init := FNothingDone__init, b_NothingDone__init := bNothingDone__init, f_law_tape := _, fd_law_tape := fdlaw_tape, F_law_tape := Flaw_tape, b_law_tape := blaw_tape, g_law_tape := g_law_tape, f_law_pick := _, fd_law_pick := fdlaw_pick, F_law_pick := Flaw_pick, b_law_pick := blaw_pick, g_law_pick := g_law_pick, f_law_kinds := _, fd_law_kinds := fdlaw_kinds, F_law_kinds := Flaw_kinds, b_law_kinds := blaw_kinds, g_law_kinds := g_law_kinds, f_law_first := _, fd_law_first := fdlaw_first, F_law_first := Flaw_first, b_law_first := blaw_first, g_law_first := g_law_first, f_law_caught := _, fd_law_caught := fdlaw_caught, F_law_caught := Flaw_caught, b_law_caught := blaw_caught, g_law_caught := g_law_caught, f_law := _, fd_law := fdlaw, F_law := Flaw, b_law := blaw, g_law := glaw, n_ValueError := zValueError, n_bool := zbool, n_int := zint, n_isinstance := zisinstance, n_len := zlen, n_list := zlist, n_range := zrange, C_WayError := _, g_WayError := gWayError, tI := of_decide_eq_true tiWE, c_WE := ⟨rdWE, OQ.isB_ok gaWE, vaH vaWE, FWayError__init.kp⟩, tI_TooMany := of_decide_eq_true tiTM, tI_NothingDone := of_decide_eq_true tiND, nd := of_decide_eq_true nd, nW := of_decide_eq_true nW, w_cls := icWE, w_ty := of_decide_eq_true tyWE, C_BadBook := _, g_BadBook := gBadBook, e_BadBook := (eX (x := "BadBook") (by decide +kernel)), C_BadFlat := _, g_BadFlat := gBadFlat, e_BadFlat := (eX (x := "BadFlat") (by decide +kernel)), C_BadKnown := _, g_BadKnown := gBadKnown, e_BadKnown := (eX (x := "BadKnown") (by decide +kernel)), C_BadLengths := _, g_BadLengths := gBadLengths, e_BadLengths := (eX (x := "BadLengths") (by decide +kernel)), C_BadLetter := _, g_BadLetter := gBadLetter, e_BadLetter := (eX (x := "BadLetter") (by decide +kernel)), C_BadLetters := _, g_BadLetters := gBadLetters, e_BadLetters := (eX (x := "BadLetters") (by decide +kernel)), C_BadMany := _, g_BadMany := gBadMany, e_BadMany := (eX (x := "BadMany") (by decide +kernel)), C_BadMost := _, g_BadMost := gBadMost, e_BadMost := (eX (x := "BadMost") (by decide +kernel)), C_BadName := _, g_BadName := gBadName, e_BadName := (eX (x := "BadName") (by decide +kernel)), C_BadNames := _, g_BadNames := gBadNames, e_BadNames := (eX (x := "BadNames") (by decide +kernel)), C_BadNumber := _, g_BadNumber := gBadNumber, e_BadNumber := (eX (x := "BadNumber") (by decide +kernel)), C_BadOffers := _, g_BadOffers := gBadOffers, e_BadOffers := (eX (x := "BadOffers") (by decide +kernel)), C_BadPart := _, g_BadPart := gBadPart, e_BadPart := (eX (x := "BadPart") (by decide +kernel)), C_BadPrice := _, g_BadPrice := gBadPrice, e_BadPrice := (eX (x := "BadPrice") (by decide +kernel)), C_BadReckoning := _, g_BadReckoning := gBadReckoning, e_BadReckoning := (eX (x := "BadReckoning") (by decide +kernel)), C_BadRoads := _, g_BadRoads := gBadRoads, e_BadRoads := (eX (x := "BadRoads") (by decide +kernel)), C_BadRow := _, g_BadRow := gBadRow, e_BadRow := (eX (x := "BadRow") (by decide +kernel)), C_BadRule := _, g_BadRule := gBadRule, e_BadRule := (eX (x := "BadRule") (by decide +kernel)), C_BadRules := _, g_BadRules := gBadRules, e_BadRules := (eX (x := "BadRules") (by decide +kernel)), C_BadSpot := _, g_BadSpot := gBadSpot, e_BadSpot := (eX (x := "BadSpot") (by decide +kernel)), C_BadTable := _, g_BadTable := gBadTable, e_BadTable := (eX (x := "BadTable") (by decide +kernel)), C_BadTables := _, g_BadTables := gBadTables, e_BadTables := (eX (x := "BadTables") (by decide +kernel)), C_BadText := _, g_BadText := gBadText, e_BadText := (eX (x := "BadText") (by decide +kernel)), C_BadTimes := _, g_BadTimes := gBadTimes, e_BadTimes := (eX (x := "BadTimes") (by decide +kernel)), C_BadWatch := _, g_BadWatch := gBadWatch, e_BadWatch := (eX (x := "BadWatch") (by decide +kernel)), C_BadWatchers := _, g_BadWatchers := gBadWatchers, e_BadWatchers := (eX (x := "BadWatchers") (by decide +kernel)), C_BadWatches := _, g_BadWatches := gBadWatches, e_BadWatches := (eX (x := "BadWatches") (by decide +kernel)), C_BadWeb := _, g_BadWeb := gBadWeb, e_BadWeb := (eX (x := "BadWeb") (by decide +kernel)), C_BadWord := _, g_BadWord := gBadWord, e_BadWord := (eX (x := "BadWord") (by decide +kernel)), C_BadWords := _, g_BadWords := gBadWords, e_BadWords := (eX (x := "BadWords") (by decide +kernel)), C_BadWorth := _, g_BadWorth := gBadWorth, e_BadWorth := (eX (x := "BadWorth") (by decide +kernel)), C_BadZigzag := _, g_BadZigzag := gBadZigzag, e_BadZigzag := (eX (x := "BadZigzag") (by decide +kernel)), C_ManyRows := _, g_ManyRows := gManyRows, e_ManyRows := (eX (x := "ManyRows") (by decide +kernel)), C_NoRow := _, g_NoRow := gNoRow, e_NoRow := (eX (x := "NoRow") (by decide +kernel)), C_NotTold := _, g_NotTold := gNotTold, e_NotTold := (eX (x := "NotTold") (by decide +kernel)), C_BadEnds := _, g_BadEnds := gBadEnds, e_BadEnds := (eX (x := "BadEnds") (by decide +kernel)), C_BadMap := _, g_BadMap := gBadMap, e_BadMap := (eX (x := "BadMap") (by decide +kernel)), C_BadMenu := _, g_BadMenu := gBadMenu, e_BadMenu := (eX (x := "BadMenu") (by decide +kernel)), C_BadMoves := _, g_BadMoves := gBadMoves, e_BadMoves := (eX (x := "BadMoves") (by decide +kernel)), C_BadSigns := _, g_BadSigns := gBadSigns, e_BadSigns := (eX (x := "BadSigns") (by decide +kernel)), C_BadTexts := _, g_BadTexts := gBadTexts, e_BadTexts := (eX (x := "BadTexts") (by decide +kernel)), C_BadTies := _, g_BadTies := gBadTies, e_BadTies := (eX (x := "BadTies") (by decide +kernel)), C_BadTongue := _, g_BadTongue := gBadTongue, e_BadTongue := (eX (x := "BadTongue") (by decide +kernel)), C_NothingDone := _, g_NothingDone := gNothingDone, e_NothingDone := eND, C_TooMany := _, g_TooMany := gTooMany, e_TooMany := eTM, x_BadWord_TooMany := (OQ.exm_er (eX (x := "BadWord") (by decide +kernel)) eTM (of_decide_eq_true nTW)).trans (by rw [decide_eq_false (of_decide_eq_true nBT)]), x_NotTold_TooMany := (OQ.exm_er (eX (x := "NotTold") (by decide +kernel)) eTM (of_decide_eq_true nTW)).trans (by rw [decide_eq_false (of_decide_eq_true nNT)]), x_TooMany_TooMany := (OQ.exm_er eTM eTM (of_decide_eq_true nTW)).trans (by rw [decide_eq_true rfl]), x_BadWord_WayError := OQ.exm_eW (eX (x := "BadWord") (by decide +kernel)) (of_decide_eq_true exWE) icWE (of_decide_eq_true tyWE), x_NotTold_WayError := OQ.exm_eW (eX (x := "NotTold") (by decide +kernel)) (of_decide_eq_true exWE) icWE (of_decide_eq_true tyWE) }
  exact ⟨fdlaw, fun s v => FunD.bindsA (ps := ["script"]) Dlaw (fun _ _ _ _ _ _ us hl => match us, hl with | [_], _ => rfl) s [v] rfl, fun base _ _ => ok_law T⟩

/-! ### the run -/
def looseH0 : List Str := ["WayError", "BadBook", "BadFlat", "BadKnown", "BadLengths", "BadLetter", "BadLetters", "BadMany", "BadMost", "BadName", "BadNames", "BadNumber", "BadOffers", "BadPart", "BadPrice", "BadReckoning", "BadRoads", "BadRow", "BadRule", "BadRules", "BadSpot", "BadTable", "BadTables", "BadText", "BadTimes", "BadWatch", "BadWatchers", "BadWatches", "BadWeb", "BadWord"]
def looseH1 : List Str := ["BadWords", "BadWorth", "BadZigzag", "ManyRows", "NoRow", "NotTold", "BadEnds", "BadMap", "BadMenu", "BadMoves", "BadSigns", "BadTexts", "BadTies", "BadTongue", "NothingDone", "TooMany", "_law_tape", "_law_pick", "_law_kinds", "_law_first", "_law_caught"]
def looseH : List Str := looseH0 ++ looseH1
abbrev Rw : PySem.W.OpenRow := PySem.W.OpenLaw.row PySem.Challenge.rw_watchedways_k02_errors_apart
set_option maxHeartbeats 0 in
theorem run (w : World) : HandSHeadRun.RunEq Rw (PySem.W.view Rw.prog [53]) hk ob 12000 looseH w := by
  intro os
  kernel_rfl

end Toy
open PySem PySem.W PySem.Calls PyProof.Rows
set_option maxRecDepth 100000 in
set_option maxHeartbeats 0 in
theorem PySem.Challenge.cw_watchedways_k02_errors_apart_holds : PySem.Challenge.rw_watchedways_k02_errors_apart.Holds := by
  w_on; o_law
  refine HandSHeadRun.head_any (r := OpenLaw.row PySem.Challenge.rw_watchedways_k02_errors_apart) (q := view (OpenLaw.row PySem.Challenge.rw_watchedways_k02_errors_apart).prog [53]) (H := Toy.hk) (ob := Toy.ob) (M := 12000) (loose := Toy.looseH) (d := HandSHeadRun.topDef (OpenLaw.row PySem.Challenge.rw_watchedways_k02_errors_apart).prog 53) (kwd := []) (OQ.obB_eq 5 Toy.faH Toy.fnH Toy.exH)
    (by kernel_rfl) (fun s => by kernel_rfl) Toy.run (by kernel_rfl) (by kernel_rfl) (by kernel_rfl) (by rfl) (by first | assumption | decide +kernel) (by decide +kernel) ⟨rfl, rfl, rfl, rfl, rfl, by decide +kernel⟩ ?hw ?hc
  case hw => w_witness2
  case hc =>
    refine L2.walk_ofE (l := PySem.Challenge.rw_watchedways_k02_errors_apart) (n := 63) (k := 8) (x := "script") (CX := L2.CX0) rfl (by decide) (by kernel_rfl) ⟨rfl, by decide, by decide⟩ ?F (fun _ _ _ _ z => z)
    intro w mg fa h Y G hmg0
    obtain ⟨K, KX, c, x⟩ := Y
    have hmg : mg ("law" : PySem.Str) = some (.ref fa) := by
      have e : (HandSHeadRun.topDef (OpenLaw.row PySem.Challenge.rw_watchedways_k02_errors_apart).prog 53).name = ("law" : PySem.Str) := by kernel_rfl
      rw [← e]
      exact hmg0
    obtain ⟨fd, hb, hF⟩ := Toy.facts (P := (PySem.Challenge.rw_watchedways_k02_errors_apart).prog) (w := w) KX G hmg c x
    exact ⟨K, fd, Toy.spLaw K, KX, hb, fun H a ns hl _ hS => ⟨a, ns, rfl, hS, hl, fun _ => rfl⟩, hF⟩

