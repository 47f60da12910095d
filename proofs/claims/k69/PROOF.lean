import PyProof.Rows.All
import Wide.All
import OpenK.AllK
import Wide.FinOn
import KE.KExcIs
import HandS.ForMost
import HandS.ForExc
import HandS.Codes
import HandS.Wide
import HandS.IsInst
import HandS.ExcInit
import HandS.ExcField
import HandS.ExcIs
import HandS.TryMany
import HandS.CallSlots
import HandS.Defaults
import HandS.Gcd
import HandS.DeepEq
import HandS.Flow
import HandS.TupLe
import PyProof.SumWalk
import PyProof.Rows.CountFlat

import HandS.Walk
import KE.GoesEnum
import HandS.SortInts
import HandS.Style
import HandS.Conv
import HandS.StrMore
import HandS.DictComp
import HandS.Head0
import HandS.Head1
import HandS.Head2
import HandS.Head3
import HandS.HeadEnd
import HandS.HeadHook1
import HandS.HeadHook2
import KE.KStateDown
import PySem.Challenge.RW_watchedways_k69_needless_watches
set_option Elab.async false
set_option linter.all false
set_option maxRecDepth 100000
set_option maxHeartbeats 4000000
set_option exponentiation.threshold 3000

/-! ### readings, step by step -/
namespace RD
open PySem L2
section
variable {σ : St} {H : Hp} {Q : VK} {B : Bool → Hp → Prop} {A : List V → Hp → Prop} {K : PySem.W.Frag} {v x y : V} {i j : Int} {n : Nat} {ta tb tc te : TE} {tA tB' : TT} {r r' : R2} {t : TA}
theorem d_var {n : Nat} {v : V} (e : σ[n]? = some (some v)) (h : Q v H) : tVar n σ H Q := ⟨v, e, h⟩
theorem d_c (h : Q v H) : tC v σ H Q := h
theorem d_op (h : ta σ H fun x H1 => tb σ H1 fun y H2 => r x y H2 Q) : tOp r ta tb σ H Q := h
theorem d_un {r : V → Hp → VK → Prop} (h : ta σ H fun x H1 => r x H1 Q) : tUn r ta σ H Q := h
theorem d_cb {r : List V → Hp → VK → Prop} (h : t σ H fun vs H1 => r vs H1 Q) : tCB r t σ H Q := h
theorem d_call {sp : Sp} {dvs : List V} {E : XK} (h : t σ H fun vs H1 => sp (vs ++ dvs) H1 Q E) : tCall sp dvs E t σ H Q := h
theorem d_nil (h : A [] H) : tNil σ H A := h
theorem d_cons {ta : TE} {tr : TA} (h : ta σ H fun x H1 => tr σ H1 fun xs H2 => A (x :: xs) H2) : tCons ta tr σ H A := h
theorem d_lst (h : t σ H fun xs H1 => xs.length ≤ sizeLine ∧ ∀ p, H1 p = none → Q (.ref p) (upd H1 p (.lst xs))) : tLst t σ H Q := h
theorem d_tup (h : t σ H fun xs H1 => xs.length ≤ sizeLine ∧ ∀ p, H1 p = none → Q (.ref p) (upd H1 p (.tup xs))) : tTup t σ H Q := h
theorem d_test (h : ta σ H fun x H' => ∃ k, x = .bl k ∧ B k H') : tTest ta σ H B := h
theorem d_tB (h : ta σ H fun x H' => ∃ k, x = .bl k ∧ B k H') : L2.tB ta σ H B := h
theorem d_bl {b : Bool} {R : Bool → Prop} (h : R b) : ∃ k, V.bl b = .bl k ∧ R k := ⟨b, rfl, h⟩
theorem d_and (h : tA σ H fun c H1 => if c = true then tB' σ H1 B else B false H1) : tAnd tA tB' σ H B := h
theorem d_or (h : tA σ H fun c H1 => if c = true then B true H1 else tB' σ H1 B) : tOr tA tB' σ H B := h
theorem d_not (h : tA σ H fun c H1 => B (!c) H1) : tNot tA σ H B := h
theorem d_andV (h : ta σ H fun x H1 => ∃ c, x = .bl c ∧ if c = true then tb σ H1 Q else Q (.bl false) H1) : tAndV ta tb σ H Q := h
theorem d_orV (h : ta σ H fun x H1 => ∃ c, x = .bl c ∧ if c = true then Q (.bl true) H1 else tb σ H1 Q) : tOrV ta tb σ H Q := h
theorem d_notV (h : ta σ H fun x H1 => ∃ c, x = .bl c ∧ Q (.bl (!c)) H1) : tNotV ta σ H Q := h
theorem d_if (h : tA σ H fun c H1 => if c = true then ta σ H1 Q else tb σ H1 Q) : tIf tA ta tb σ H Q := h
theorem d_rI0 {g : Int → Int → V} (h : Q (g i j) H) : rI0 g (.int i) (.int j) H Q := ⟨i, j, rfl, rfl, h⟩
theorem d_rI {C : Int → Int → Prop} {g : Int → Int → V} (c : C i j) (h : Q (g i j) H) : rI C g (.int i) (.int j) H Q := ⟨i, j, rfl, rfl, c, h⟩
theorem d_rU {g : Int → V} (h : Q (g i) H) : rU g (.int i) H Q := ⟨i, rfl, h⟩
theorem d_eqI (h : Q (.bl (decide (i = j))) H) : rEq (.int i) (.int j) H Q := ⟨rfl, by
  have e : decide (V.int i = V.int j) = decide (i = j) := by rw [dec_int, Bool.eq_iff_iff]; simp
  rw [e]; exact h⟩
theorem d_neI (h : Q (.bl (!decide (i = j))) H) : rNe (.int i) (.int j) H Q := ⟨rfl, by
  have e : decide (V.int i = V.int j) = decide (i = j) := by rw [dec_int, Bool.eq_iff_iff]; simp
  rw [e]; exact h⟩
theorem d_eqB {i j : Bool} (h : Q (.bl (decide (i = j))) H) : rEq (.bl i) (.bl j) H Q := ⟨rfl, by
  have e : decide (V.bl i = V.bl j) = decide (i = j) := by rw [dec_bl, Bool.eq_iff_iff]; simp
  rw [e]; exact h⟩
theorem d_eqS {i j : Str} (h : Q (.bl (decide (i = j))) H) : rEq (.str i) (.str j) H Q := ⟨rfl, by
  have e : decide (V.str i = V.str j) = decide (i = j) := by rw [dec_str, Bool.eq_iff_iff]; simp
  rw [e]; exact h⟩
theorem d_neS {i j : Str} (h : Q (.bl (!decide (i = j))) H) : rNe (.str i) (.str j) H Q := ⟨rfl, by
  have e : decide (V.str i = V.str j) = decide (i = j) := by rw [dec_str, Bool.eq_iff_iff]; simp
  rw [e]; exact h⟩
theorem d_ixL {p : Addr} {xs : List V} {v : V} (hs : SqL K H p xs) (e : atI xs i = some v) (h : Q v H) : rIxL K (.ref p) (.int i) H Q := ⟨p, xs, i, v, rfl, rfl, hs, e, h⟩
theorem d_ixT {p : Addr} {xs : List V} {v : V} (hs : SqT K H p xs) (e : atI xs i = some v) (h : Q v H) : rIxT K (.ref p) (.int i) H Q := ⟨p, xs, i, v, rfl, rfl, hs, e, h⟩
theorem d_setL {p : Addr} {xs : List V} {k : Nat} {R : Hp → Prop} (hp : H p = some (.lst xs)) (e : ixN xs.length i = some k) (h : R (upd H p (.lst (xs.set k v)))) : rSetL (.ref p) (.int i) v H R := ⟨p, xs, i, k, rfl, rfl, hp, e, h⟩
theorem d_gname {R : St → Hp → Prop} (h : R (σ.set n (some v)) H) : gName n v σ H R := h
theorem d_gsub {to ti : TE} {ts : TSet} {R : St → Hp → Prop} (h : to σ H fun o H1 => ti σ H1 fun i H2 => ts o i v H2 fun H3 => R σ H3) : gSub to ti ts v σ H R := h
section
variable {nx bk ct : St → Hp → Prop} {rt : VK} {u w : TS} {g : TG}
theorem d_seq (h : u ⟨w ⟨nx, rt, bk, ct⟩, rt, bk, ct⟩ σ H) : tSeq u w ⟨nx, rt, bk, ct⟩ σ H := h
theorem d_asg (h : te σ H fun x H1 => g x σ H1 nx) : tAsg te g ⟨nx, rt, bk, ct⟩ σ H := h
theorem d_ret (h : te σ H rt) : tRet te ⟨nx, rt, bk, ct⟩ σ H := h
theorem d_next (h : nx σ H) : tNext ⟨nx, rt, bk, ct⟩ σ H := h
theorem d_drop (h : te σ H fun _ H1 => nx σ H1) : tDrop te ⟨nx, rt, bk, ct⟩ σ H := h
theorem d_ifS (h : tA σ H fun b H1 => if b = true then u ⟨nx, rt, bk, ct⟩ σ H1 else w ⟨nx, rt, bk, ct⟩ σ H1) : tIfS tA u w ⟨nx, rt, bk, ct⟩ σ H := h
theorem d_cut (Mid : St → Hp → Prop) (h : u ⟨Mid, rt, bk, ct⟩ σ H) (k : ∀ σ' H', Mid σ' H' → w ⟨nx, rt, bk, ct⟩ σ' H') : C8.tCut u w ⟨nx, rt, bk, ct⟩ σ H := ⟨Mid, h, k⟩
theorem d_par {t : TA} {i j : Nat} (h : t σ H fun vs H1 => ∃ v w, vs = [v, w] ∧ nx ((σ.set i (some v)).set j (some w)) H1) : tPar i j t ⟨nx, rt, bk, ct⟩ σ H := h
end
def rInt1 : List V → Hp → VK → Prop := fun xs H Q => (∃ i, xs = [.int i] ∧ Q (.int i) H) ∨ ∃ k, xs = [.bl k] ∧ Q (.int (if k then 1 else 0)) H
theorem c_int {X : Cx} : CallR X (.type "int") rInt1 := call_int1
theorem d_int (h : Q (.int i) H) : rInt1 [.int i] H Q := .inl ⟨i, rfl, h⟩
theorem d_intB {b : Bool} (h : Q (.int (if b then 1 else 0)) H) : rInt1 [.bl b] H Q := .inr ⟨b, rfl, h⟩
def rAbs : List V → Hp → VK → Prop := fun xs H Q => ∃ i, xs = [.int i] ∧ Q (.int (if i < 0 then -i else i)) H
theorem c_abs {X : Cx} : CallR X (.builtin "abs") rAbs := call_abs
theorem d_abs (h : Q (.int (if i < 0 then -i else i)) H) : rAbs [.int i] H Q := ⟨i, rfl, h⟩
def rLen (K : PySem.W.Frag) : List V → Hp → VK → Prop := fun xs H Q => ∃ x n, xs = [x] ∧ LenV K x H n ∧ Q (.int n) H
theorem c_len {X : Cx} : CallR X (.builtin "len") (rLen X.K) := call_len
theorem d_lenL {p : Addr} {xs : List V} (hs : SqL K H p xs) (h : Q (.int xs.length) H) : rLen K [.ref p] H Q := ⟨_, _, rfl, .inl ⟨xs, hs, rfl⟩, h⟩
theorem d_lenT {p : Addr} {xs : List V} (hs : SqT K H p xs) (h : Q (.int xs.length) H) : rLen K [.ref p] H Q := ⟨_, _, rfl, .inr ⟨xs, hs, rfl⟩, h⟩
theorem d_lenS {z : Str} (hs : z.length ≤ sizeLine) (h : Q (.int z.length) H) : rLen K [.str z] H Q := ⟨_, _, rfl, ⟨hs, rfl⟩, h⟩
def rIsN : R2 := fun x y H Q => y = .non ∧ Q (.bl (decide (x = .non))) H
theorem o_isN {X : Cx} : OpR X (compareOp .Is) rIsN := op_isN
theorem d_isN (h : Q (.bl (decide (x = .non))) H) : rIsN x .non H Q := ⟨rfl, h⟩
def rNotN : R2 := fun x y H Q => y = .non ∧ Q (.bl (!decide (x = .non))) H
theorem o_notN {X : Cx} : OpR X (compareOp .IsNot) rNotN := op_notN
theorem d_notN (h : Q (.bl (!decide (x = .non))) H) : rNotN x .non H Q := ⟨rfl, h⟩
theorem d_iList {tl : TE} {R : It → Hp → Prop} (h : tl σ H fun x H1 => ∃ a, x = .ref a ∧ (∃ xs, SqL K H1 a xs) ∧ R (Itl K a) H1) : iList K tl σ H R := h
theorem d_refL {p : Addr} {xs : List V} {R : Addr → Prop} (hs : SqL K H p xs) (h : R p) : ∃ a, V.ref p = .ref a ∧ (∃ xs, SqL K H a xs) ∧ R a := ⟨p, rfl, ⟨xs, hs⟩, h⟩
theorem d_rng1 {t : TA} {R : It → Hp → Prop} (h : t σ H fun vs H1 => ∃ j : Int, vs = [.int j] ∧ -(2 ^ 62) ≤ j ∧ j < 2 ^ 62 ∧ R (Itr 0 j.toNat) H1) : iRng1 t σ H R := h
theorem d_lc {wi : TI} {g : TG} {tt : TT} {vs : List Nat} (h : wi σ H fun J H1 => ∀ D, H1 D = none → ∃ W : Nat → Nat → Hp → Prop, (∃ m, W 0 m (upd H1 D (.lst []))) ∧ ∀ i m H, W i m H →
  (J.stop i H ∧ Q (.ref D) H) ∨ (J.go i H ∧ ∃ Nx : Hp → Prop, (∀ H', Nx H' → ∃ m', m' < m ∧ W (i + 1) m' H') ∧ ∀ x H', J.yld i H x H' → g x (wipe σ vs) H' fun σ2 H2 => wipe σ2 vs = wipe σ vs ∧ tt σ2 H2 fun b H3 =>
    if b = true then te σ2 H3 fun y H4 => ∃ acc, H4 D = some (.lst acc) ∧ acc.length < sizeLine ∧ Nx (upd H4 D (.lst (acc ++ [y]))) else Nx H3)) : tLc wi g tt te vs σ H Q := h
theorem d_yes (h : B true H) : tYes σ H B := h
theorem d_iteT {X Y : Prop} (h : X) : if true = true then X else Y := by rw [if_pos rfl]; exact h
theorem d_iteF {X Y : Prop} (h : Y) : if false = true then X else Y := by rw [if_neg Bool.false_ne_true]; exact h
theorem d_wipe {R : Prop} {vs : List Nat} {σ' : St} (e : wipe σ' vs = wipe σ vs) (h : R) : wipe σ' vs = wipe σ vs ∧ R := ⟨e, h⟩
theorem d_sl {r : V → Option Int → Option Int → Hp → VK → Prop} {tl th : TO} (h : te σ H fun x H1 => tl σ H1 fun l H2 => th σ H2 fun u H3 => r x l u H3 Q) : tSl r te tl th σ H Q := h
theorem d_noPart {Q : Option Int → Hp → Prop} (h : Q none H) : tNoPart σ H Q := h
theorem d_part {Q : Option Int → Hp → Prop} (h : te σ H fun x H1 => ∃ i, x = .int i ∧ Q (some i) H1) : tPart te σ H Q := h
theorem d_exI {R : Int → Prop} (h : R i) : ∃ k, V.int i = .int k ∧ R k := ⟨i, rfl, h⟩
theorem d_isi {c : V} {t u : Value} {b : Bool} (hc : ClsV c u) (ty : TyX K H x t) (e : PySem.W.kitOne K t u = some b) (h : Q (.bl b) H) : rIsi K [x, c] H Q := ⟨x, c, t, u, b, rfl, hc, ty, e, h⟩
theorem d_fld {f : Str} (h : ta σ H fun x H1 => ∃ a C dx fs v, x = .ref a ∧ H1 a = some (.ins C dx fs) ∧ Cls K C ∧ NoAttr K C f ∧ fs.lookup f = some v ∧ Q v H1) : tFld K ta f σ H Q := h
theorem d_iteNF {X Y : Prop} (h : X) : if (!false) = true then X else Y := by rw [if_pos (show (!false) = true from rfl)]; exact h
theorem d_iteNT {X Y : Prop} (h : Y) : if (!true) = true then X else Y := by rw [if_neg (by decide)]; exact h
theorem d_iteDT {P X Y : Prop} {inst : Decidable P} (c : P) (h : X) : if decide P = true then X else Y := by rw [if_pos (decide_eq_true c)]; exact h
theorem d_iteDF {P X Y : Prop} {inst : Decidable P} (c : ¬ P) (h : Y) : if decide P = true then X else Y := by rw [if_neg (by simpa using c)]; exact h
theorem d_gcd (h : Q (.int ((Nat.gcd i.natAbs j.natAbs : Nat) : Int)) H) : rGcd [.int i, .int j] H Q := ⟨i, j, rfl, h⟩
theorem d_sfld {f : Str} {tv : TE} {nx bk ct : St → Hp → Prop} {rt : VK} (h : tv σ H fun y H1 => ta σ H1 fun x H2 => ∃ a C dx fs, x = .ref a ∧ H2 a = some (.ins C dx fs) ∧ Cls K C ∧ NoAttr K C f ∧ fs.length < 1000 ∧
  nx σ (upd H2 a (.ins C dx (putF f y fs)))) : sFld K ta tv f ⟨nx, rt, bk, ct⟩ σ H := h
theorem d_for {wi : TI} {g : TG} {tb : TS} {nx bk ct : St → Hp → Prop} {rt : VK} (h : wi σ H fun J H1 => ∃ W : Nat → Nat → St → Hp → Prop, (∃ m, W 0 m σ H1) ∧ ∀ i m σ H, W i m σ H →
  (J.stop i H ∧ nx σ H) ∨ (J.go i H ∧ ∃ N : St → Hp → Prop, (∀ σ' H', N σ' H' → ∃ m', m' < m ∧ W (i + 1) m' σ' H') ∧ ∀ x H', J.yld i H x H' → g x σ H' fun σ2 H2 => tb ⟨N, rt, nx, N⟩ σ2 H2)) :
  tFor wi g tb ⟨nx, rt, bk, ct⟩ σ H := h
theorem f_range {lo : Int} {n : Nat} {g : TG} {tb : TS} {nx : St → Hp → Prop} {rt : VK} (Pv : Nat → St → Hp → Prop) (h0 : Pv 0 σ H)
    (hs : ∀ i σ H, i < n → Pv i σ H → g (.int (lo + i)) σ H fun σ2 H2 => tb ⟨Pv (i + 1), rt, nx, Pv (i + 1)⟩ σ2 H2) (hd : ∀ σ H, Pv n σ H → nx σ H) :
    ∃ W : Nat → Nat → St → Hp → Prop, (∃ m, W 0 m σ H) ∧ ∀ i m σ H, W i m σ H → ((Itr lo n).stop i H ∧ nx σ H) ∨ ((Itr lo n).go i H ∧ ∃ N : St → Hp → Prop, (∀ σ' H', N σ' H' → ∃ m', m' < m ∧ W (i + 1) m' σ' H') ∧
      ∀ x H', (Itr lo n).yld i H x H' → g x σ H' fun σ2 H2 => tb ⟨N, rt, nx, N⟩ σ2 H2) := for_range (D := ⟨nx, rt, fun _ _ => False, fun _ _ => False⟩) Pv h0 hs hd
theorem f_list {K : PySem.W.Frag} {a : Addr} {xs : List V} {g : TG} {tb : TS} {nx : St → Hp → Prop} {rt : VK} (Pv : Nat → St → Hp → Prop) (h0 : Pv 0 σ H) (hl : ∀ i σ H, i ≤ xs.length → Pv i σ H → SqL K H a xs)
    (hs : ∀ i x σ H, xs[i]? = some x → Pv i σ H → g x σ H fun σ2 H2 => tb ⟨Pv (i + 1), rt, nx, Pv (i + 1)⟩ σ2 H2) (hd : ∀ σ H, Pv xs.length σ H → nx σ H) :
    ∃ W : Nat → Nat → St → Hp → Prop, (∃ m, W 0 m σ H) ∧ ∀ i m σ H, W i m σ H → ((Itl K a).stop i H ∧ nx σ H) ∨ ((Itl K a).go i H ∧ ∃ N : St → Hp → Prop, (∀ σ' H', N σ' H' → ∃ m', m' < m ∧ W (i + 1) m' σ' H') ∧
      ∀ x H', (Itl K a).yld i H x H' → g x σ H' fun σ2 H2 => tb ⟨N, rt, nx, N⟩ σ2 H2) := for_list (D := ⟨nx, rt, fun _ _ => False, fun _ _ => False⟩) Pv h0 hl hs hd
theorem iteD {P X Y : Prop} {inst : Decidable P} (h1 : P → X) (h2 : ¬ P → Y) : if decide P = true then X else Y := by
  by_cases h : P
  · rw [if_pos (decide_eq_true h)]; exact h1 h
  · rw [if_neg (by simpa using h)]; exact h2 h
theorem iteN {P X Y : Prop} {inst : Decidable P} (h1 : ¬ P → X) (h2 : P → Y) : if (!decide P) = true then X else Y := by
  by_cases h : P
  · rw [if_neg (by simpa using h)]; exact h2 h
  · rw [if_pos (by simpa using h)]; exact h1 h
end
end RD

/-! ### own == and != of a class of the text -/
namespace OQ
open PySem L2 PySem.Spec PyProof.Rows
section
variable {X : Cx} {CX : CXT} {C f : Addr} {fd : FuncData} {ps : List Str} {sp : Sp} {E : XK} {k : Nat}
/-- a def of the text called somewhere below the body that runs -/
theorem run_at {A : Around} (hA : A.frames = X.A.frames) (hr : Room k A) {pins : List (Addr × Obj)} {σ : L2.St} {H : Hp} {s : Shared} {Q : VK} {us : List Value} {vs : List V}
    (F : FnOk X.prog X.w X.K X.mg X.base CX k f fd ps sp) (hb : Binds X.K fd ps []) (hx : Passes CX X E) (I : Inv X pins σ H s) (r : Vals vs us) (h : sp vs H Q E) :
    wpAny (model X.prog X.w) A (call (.ref f) us) (EP X pins σ Q) X.xe s := by
  have z := I.env0
  have e0 : Env0 X.prog X.w X.K X.mg X.base A X.stack s H := ⟨hA ▸ z.frames, z.mod, z.bs, z.bsz, z.funs, z.frf, z.hok, z.bare⟩
  have hl : us.length = ps.length := by rw [← r.length]; exact F.len _ _ _ _ h
  have b := hb s us I.kIn (by rw [List.append_nil]; exact hl)
  rw [List.append_nil] at b
  refine wpAny_call (codeAny_mono (F.run A X.stack s H ⟨us, []⟩ us vs Q E hr e0 b r h) ?_)
  rintro (e | fl) s' hq
  · exact hx pins σ H s e s' I hq
  · cases fl with
    | ret u => exact I.after hq
    | next => exact hq.elim
    | brk => exact hq.elim
    | cont => exact hq.elim
theorem cmpBack_of {pins : List (Addr × Obj)} {σ : L2.St} {Q : VK} {u : Value} {s' : Shared} (h : EP X pins σ Q u s') : PySem.W.CmpBack (EP X pins σ Q) u s' := by
  obtain ⟨v, H', I', r, q⟩ := h
  have e : EP X pins σ Q u s' := ⟨v, H', I', r, q⟩
  cases u <;> first
    | exact e
    | (exfalso; cases v <;> first | exact Value.noConfusion r | (obtain ⟨t, rt⟩ := r; exact Value.noConfusion rt))
/-- x == y by the __eq__ of x's class -/
def rOwnEq (K : PySem.W.Frag) (C : Addr) (sp : Sp) (E : XK) : R2 := fun x y H Q => ∃ a dx fs t, x = .ref a ∧ H a = some (.ins C dx fs) ∧ TyX K H y t ∧ PySem.W.notFirst K C t = true ∧ sp [x, y] H Q E
theorem op_ownEq (F : FnOk X.prog X.w X.K X.mg X.base CX k f fd ps sp) (hr : Room k X.A) (hs : PySem.W.findIn X.K (.ref C) "__eq__" = some (some (.ref f))) (hf : PySem.W.isFn X.K (.ref f) = true)
    (hb : Binds X.K fd ps []) (hx : Passes CX X E) : OpR X (compareOp .Eq) (rOwnEq X.K C sp E) := by
  intro pins s σ H x y v u Q I rx ry hq
  obtain ⟨a, dx, fs, t, rfl, ha, ty, nf, q⟩ := hq
  cases rx
  obtain ⟨_, J0, _⟩ := ins_get I.hok ha
  obtain ⟨_, J, _⟩ := J0.look
  obtain ⟨_, hF⟩ := I.fr
  obtain ⟨_, kx, hp, _⟩ := kit_of I ry ty
  exact PySem.W.cmp_K (op := .Eq) hr.units0 hF I.ok.mod.kin J (kx.ty _ _ I.kIn hp) nf hs hf
    (wpAny_mono (run_at rfl hr F hb hx I (vs := [V.ref a, y]) (us := [Value.ref a, u]) (Paired.cons (show RelV (V.ref a) (Value.ref a) from rfl) (Paired.cons ry .nil)) q) (fun _ _ z => cmpBack_of z) fun _ _ z => z)
/-- looking a builtin slot up at an instance and calling it -/
theorem ifBound_B {M : Model} {A : Around} {E : Value → Shared → Prop} {s : Shared} {K : PySem.W.Frag} {x C : Addr} {ox : Obj} {od : Option Obj} {name : Str} {id : String} {args : List Value} {Q : Option Value → Shared → Prop} (Z : K.In s.heap)
    (I : PySem.W.InstAt s.heap x ox C od) (hs : PySem.W.findIn K (.ref C) name = some (some (.builtin id))) (S : bindSpecial (.builtin id) (.ref x) = pure (Value.builtin id, [Value.ref x]))
    (h : wpAny M A (call (.builtin id) (.ref x :: args)) (fun v => Q (some v)) E s) : wpAny M A (callSpecialIfBound? (.ref x) name args) Q E s := by
  have fin : wpAny M A (call (.builtin id) ([Value.ref x] ++ args) >>= fun v => pure (some v)) Q E s :=
    wpAny_bind (wpAny_mono h (fun _ _ z => wpAny_pure z) fun _ _ z => z)
  have tail : wpAny M A (some <$> (pure (Value.builtin id, [Value.ref x]) : Sem (Value × List Value))) (fun a s' => wpAny M A (match a with
    | some (g, first) => call g (first ++ args) >>= fun v => pure (some v)
    | none => pure none) Q E s') E s := wpAny_bind (wpAny_pure (wpAny_pure fin))
  simp only [callSpecialIfBound?, bindSpecialIfBound?]
  refine wpAny_holding ?_
  refine wpAny_bind ?_
  refine wpAny_bind ?_
  refine wpAny_bind (I.type.here ?_)
  refine (PySem.W.looks_findIn Z hs).here ?_
  simp only [S]
  refine wpAny_bind ?_
  refine wpAny_askSetting ?_
  refine wpAny_ite ?_
  split
  · refine wpAny_bind ?_
    exact wpAny_pure (wpAny_pure fin)
  · refine wpAny_tryCatch ?_
    refine wpAny_bind ?_
    exact wpAny_pure (wpAny_pure fin)
/-- object.__ne__(x, y) by the own __eq__ -/
theorem ne_body {M : Program} {w : World} {A : Around} {E : Value → Shared → Prop} {s : Shared} {K : PySem.W.Frag} {x C f : Addr} {ox : Obj} {od : Option Obj} {b : Value} {Q : Fin → Shared → Prop} (Z : K.In s.heap) (hu : A.units < cLine)
    (I : PySem.W.InstAt s.heap x ox C od) (hs : PySem.W.findIn K (.ref C) "__eq__" = some (some (.ref f))) (hf : PySem.W.isFn K (.ref f) = true)
    (h : wpAny (model M w) A (call (.ref f) [.ref x, b]) (fun v s' => ∃ r, v = .bool r ∧ Q (.done (.ret (.bool (!r)))) s') E s) :
    wpAny (model M w) A (Builtin.«object.__ne__» ⟨[.ref x, b], []⟩) Q E s := by
  unfold Builtin.«object.__ne__»
  have step : wpAny (model M w) A (callSpecialIfBound? (.ref x) "__eq__" [b]) (fun o s' => ∃ r, o = some (.bool r) ∧ Q (.done (.ret (.bool (!r)))) s') E s :=
    PySem.W.ifBound_K Z I hs hf (wpAny_mono h (fun v s' ⟨r, e, q⟩ => ⟨r, by rw [e], q⟩) fun _ _ z => z)
  refine wpAny_bind (wpAny_of_eq (a := ((Value.ref x : Value), [b])) (by first | rfl | (simp only [slotArgs]; rfl)) ?_)
  dsimp only
  refine wpAny_bind (wpAny_cRoomFor hu ?_)
  refine wpAny_bind (wpAny_mono step (fun o s' hv => ?_) fun _ _ z => z)
  obtain ⟨r, rfl, q⟩ := hv
  dsimp only
  refine wpAny_bind ?_
  refine wpAny_truthy_bool ?_
  exact wpAny_pure q
end
/-- x != y by the __eq__ of x's class -/
def rOwnNe (K : PySem.W.Frag) (C : Addr) (sp : Sp) (E : XK) : R2 := fun x y H Q => ∃ a dx fs t, x = .ref a ∧ H a = some (.ins C dx fs) ∧ TyX K H y t ∧ PySem.W.notFirst K C t = true ∧ sp [x, y] H (fun v H' => ∃ r, v = .bl r ∧ Q (.bl (!r)) H') E
section
variable {X : Cx} {CX : CXT} {C f : Addr} {fd : FuncData} {ps : List Str} {sp : Sp} {E : XK} {k : Nat}
theorem op_ownNe (F : FnOk X.prog X.w X.K X.mg X.base CX k f fd ps sp) (hr : Room (k + 1) X.A) (hs : PySem.W.findIn X.K (.ref C) "__eq__" = some (some (.ref f))) (hf : PySem.W.isFn X.K (.ref f) = true)
    (hn : PySem.W.findIn X.K (.ref C) "__ne__" = some (some (.builtin "object.__ne__"))) (hm : PySem.W.mroIn X.K C (.type "object") = some true)
    (hb : Binds X.K fd ps []) (hx : Passes CX X E) : OpR X (compareOp .NotEq) (rOwnNe X.K C sp E) := by
  intro pins s σ H x y v u Q I rx ry hq
  obtain ⟨a, dx, fs, t, rfl, ha, ty, nf, q⟩ := hq
  cases rx
  obtain ⟨_, J0, _⟩ := ins_get I.hok ha
  obtain ⟨_, J, _⟩ := J0.look
  obtain ⟨_, hF⟩ := I.fr
  obtain ⟨_, kx, hp, _⟩ := kit_of I ry ty
  have hlook := kx.ty (model X.prog X.w) _ I.kIn hp
  have hu := hr.units0
  have body := ne_body (M := X.prog) (w := X.w) (A := X.A.in1) (E := X.xe) (b := u) (Q := fun fin s' => ∃ r : Bool, fin = .done (.ret (.bool r)) ∧ EP X pins σ Q (.bool r) s') I.kIn hr.in1.units0 J hs hf
    (wpAny_mono (run_at (A := X.A.in1) rfl hr.in1 F hb hx I (vs := [V.ref a, y]) (us := [Value.ref a, u]) (Paired.cons (show RelV (V.ref a) (Value.ref a) from rfl) (Paired.cons ry .nil)) q) (fun w' s' z => by
      obtain ⟨v', H', I', rr, r, e, q'⟩ := z
      subst e
      exact ⟨r, rr, !r, rfl, .bl (!r), H', I', rfl, q'⟩) fun _ _ z => z)
  have one : wpAny (model X.prog X.w) X.A (tryCompare (.ref a) "__ne__" u) (fun o s' => ∃ r : Bool, o = some (.bool r) ∧ EP X pins σ Q (.bool r) s') X.xe s := by
    unfold tryCompare
    refine wpAny_bind (ifBound_B I.kIn J hn (PySem.F.cmp_object.ne.bind _) (wpAny_call (codeAny_call_builtin PySem.F.cmp_object.ne.plain PySem.F.cmpEntry_ne ?_)))
    refine PySem.W.check_slot PySem.F.cmpKind_ne PySem.F.cmpSplit_ne (J.type.andThen (PySem.W.looks_mroIn I.kIn hm)) (PySem.F.cmpArgs_ne _ _) ?_
    refine wpAny_mono body (fun fin s' z => ?_) fun _ _ z => z
    obtain ⟨r, rfl, ep⟩ := z
    exact wpAny_pure ⟨r, rfl, ep⟩
  show wpAny (model X.prog X.w) X.A (richCompare .NotEq (.ref a) u) (EP X pins σ Q) X.xe s
  unfold richCompare
  simp only [oneThing_ref]
  refine wpAny_holding ?_
  refine wpAny_bind (wpAny_cRoomFor hu ?_)
  refine wpAny_bind (J.type.here ?_)
  refine wpAny_bind (hlook.here ?_)
  have fin : ∀ {β : Type} {z : Value → Sem Value} {y : Sem Value}, True := fun {_ _ _} => trivial
  split
  · rename_i qq
    have e : PySem.W.subIn X.K t (.ref C) = some false := by
      rcases Bool.or_eq_true_iff.mp nf with e | e
      · rw [beq_iff_eq.mp e] at qq
        simp at qq
      · exact beq_iff_eq.mp e
    refine wpAny_bind ((PySem.W.looks_subIn I.kIn e).here ?_)
    simp only [Bool.false_eq_true, if_false]
    refine wpAny_bind (wpAny_mono one (fun o s' z => ?_) fun _ _ z => z)
    obtain ⟨r, rfl, ep⟩ := z
    exact wpAny_pure ep
  · refine wpAny_bind (wpAny_pure ?_)
    simp only [Bool.false_eq_true, if_false]
    refine wpAny_bind (wpAny_mono one (fun o s' z => ?_) fun _ _ z => z)
    obtain ⟨r, rfl, ep⟩ := z
    exact wpAny_pure ep
end
end OQ

/-! ### errors: isinstance of a caught one that has fields; making an instance within a try -/
namespace OQ
open PySem L2 PySem.Spec PyProof.Rows
/-- isinstance(e, c), e the error that the suite holds at a: its class cls, its dict d -/
def rIsX (K : PySem.W.Frag) (D a : Addr) (cls : Value) (d : Option Addr) : List V → Hp → VK → Prop := fun xs H Q => ∃ (c : V) (cv : Value) (b : Bool) (dd : Addr) (fs : List (Str × V)),
  xs = [.ref a, c] ∧ cls = .ref D ∧ d = some dd ∧ H dd = some (.xd fs) ∧ ClsV c cv ∧ PySem.W.kitOne K (.ref D) cv = some b ∧ Q (.bl b) H
theorem call_isX {X : Cx} {a D : Addr} {cls : Value} {d : Option Addr} {oe : Obj} {pn : List (Addr × Obj)} (C : ExcC X.K D) (hz : Zc cls d oe) (hf : ∃ vs, oe.data = .fields vs) :
    CallR (X.suite a ((a, oe) :: pn)) (.builtin "isinstance") (rIsX X.K D a cls d) := by
  rintro pins s σ H xs us Q I r ⟨c, cv, b, dd, fs, rfl, rfl, rfl, hx, hc, e, q⟩
  cases r with
  | cons rx rr => cases rr with
    | cons rt rr =>
      cases rr
      cases rx
      have ec := hc.eq rt
      subst ec
      obtain ⟨hget, _⟩ := I.pin (a, oe) (List.mem_append_left _ (List.mem_cons_self ..))
      obtain ⟨vs, hv⟩ := hf
      obtain ⟨_, hns, _⟩ := (show ObjOk X.prog X.w H s.heap dd (.xd fs) from I.hok dd _ hx)
      obtain ⟨od, ho, _⟩ := lookIn_ns hns
      have J : PySem.W.InstAt s.heap a oe D (some od) := ⟨hget, hz.1, (by unfold PySem.W.notCls; rw [hv] <;> rfl), (by rw [hz.2]; exact ho)⟩
      have hcl : (PySem.W.clsIn X.K D).isSome = true := by
        obtain ⟨cd, h1, _⟩ := PySem.W.any_some C.hd
        rw [h1]; rfl
      exact PySem.W.kia_one (PySem.W.kitx_exc hcl C.hg C.hk C.hs C.ha C.hn C.ht C.hm) I.kIn J e (fun z => Value.noConfusion z) fun tk => ⟨.bl b, H, I.kept (t' := tk) fun _ _ z => z, rfl, q⟩
section
variable {X : Cx} {CX : CXT} {C f : Addr} {fd : FuncData} {ps : List Str} {sp : Sp} {k : Nat} {ds : List Value} {dvs : List V} {E : L2.St → XK} {x : Str} {p pos : Pos} {e : Expr} {es : List Expr} {t : TA}
/-- C(e, ..), what is raised wished for at the slots -/
def tMakeS (C : Addr) (sp : Sp) (dvs : List V) (E : L2.St → XK) (t : TA) : TE := fun σ H Q => t σ H fun vs H1 => ∀ x dx, H1 x = none → H1 dx = none → dx ≠ x →
  sp (.ref x :: (vs ++ dvs)) (upd (upd H1 dx (.own x)) x (.ins C dx [])) (fun v H2 => v = .non ∧ Q (.ref x) H2) (E σ)
theorem pe_makeS (M : Mk X.K C f) (F : FnOk X.prog X.w X.K X.mg X.base CX k f fd ps sp) (hr : Room (k + 1) X.A) (hg : Gl X x) (hm : X.mg x = some (.ref C)) (hb : Binds X.K fd ps ds) (hd : Vals dvs ds)
    (hx : ∀ σ, PassesAt CX X σ (E σ)) (ha : PA X (e :: es) t) (hdb : (x == ("__debug__" : Str)) = false := by decide)
    (he : starEach (e :: es) X.env = (false, eval e X.env) :: starEach es X.env := by rfl) (hpl : (backTo pos (starEach es X.env)).any (·.1) = false := by rfl) :
    PE X (.Call (.Name x p) (e :: es) [] pos) (tMakeS C sp dvs E t) := by
  refine ⟨fun pins s σ H Q I h => ?_⟩
  refine wpAny_Call_Name_kw (ld_glob I hg hm ?_ hdb)
  refine PySem.W.callWith_K (h₀ := X.base) I.ok.mod.kin M.kp (thn (ha.run pos pins s σ H _ I h) ?_) he hpl
  rintro us s1 ⟨vs, H1, I1, r, q⟩
  refine ⟨I1.kIn, ?_⟩
  have nx : H1 (s1.heap.objs.size + 1) = none := I1.hok.fresh (Nat.le_succ _)
  have ndx : H1 s1.heap.objs.size = none := I1.hok.fresh (Nat.le_refl _)
  have hq := q _ _ nx ndx (Nat.ne_of_lt (Nat.lt_succ_self _))
  have I2 := Inv.made (C := C) I1
  have r2 : Vals (V.ref (s1.heap.objs.size + 1) :: (vs ++ dvs)) (Value.ref (s1.heap.objs.size + 1) :: (us ++ ds)) := .cons rfl (r.append hd)
  have hl : (Value.ref (s1.heap.objs.size + 1) :: us ++ ds).length = ps.length := (r2.length.symm).trans (F.len _ _ _ _ hq)
  refine wpAny_call (make_map (f := f) I1.kIn M.makes M.init (beq_iff_eq.mp M.fn) (codeAny_mono (F.run _ X.stack _ _ _ _ _ _ (E σ) (hr.make C us []) (I2.env0.make C us []) (hb _ (_ :: us) I2.kIn hl) r2 hq) ?_))
  rintro (er | fl) s' hq'
  · exact hx σ pins _ _ er s' I2 hq'
  · cases fl with
    | ret u =>
      obtain ⟨v, H', I3, rv, ev, q3⟩ := I2.after hq'
      subst ev
      exact ⟨rv, V.ref (s1.heap.objs.size + 1), H', I3, rfl, q3⟩
    | next => exact hq'.elim
    | brk => exact hq'.elim
    | cont => exact hq'.elim
end
/-- // by a divisor of either sign, below 2 ^ 9000 -/
def CDivX (_ j : Int) : Prop := j ≠ 0 ∧ j.natAbs.log2 < 9000
theorem op_fdivX {X : Cx} : OpR X (binaryOp .FloorDiv) (rI CDivX fun i j => .int (i.fdiv j)) := opI fun i j _ _ _ _ _ hc q => floordiv_int hc.1 q (.inl (PyProof.noPylong_of_log2 hc.2))
end OQ

namespace OQ
open PySem L2
/-- one of two rules -/
theorem op_or {X : Cx} {f : Value → Value → Sem Value} {r1 r2 : R2} (h1 : OpR X f r1) (h2 : OpR X f r2) : OpR X f (fun x y H Q => r1 x y H Q ∨ r2 x y H Q) :=
  fun pins s σ H x y v u Q I rx ry h => h.elim (h1 pins s σ H x y v u Q I rx ry) (h2 pins s σ H x y v u Q I rx ry)
/-- what lets nothing out where the wish is empty -/
theorem passN {X : Cx} : Passes (L2.CX X.prog X.w) X E0 := fun pins σ H s e s' I h => by
  obtain ⟨_, _, _, _, _, _, _, _, _, _, _, _, f⟩ := h
  exact f.elim
section
variable {σ : L2.St} {H : Hp} {Q : VK} {K : PySem.W.Frag}
theorem d_makeS {C : Addr} {sp : Sp} {dvs : List V} {E : L2.St → XK} {t : TA} (h : t σ H fun vs H1 => ∀ x dx, H1 x = none → H1 dx = none → dx ≠ x →
  sp (.ref x :: (vs ++ dvs)) (upd (upd H1 dx (.own x)) x (.ins C dx [])) (fun v H2 => v = .non ∧ Q (.ref x) H2) (E σ)) : tMakeS C sp dvs E t σ H Q := h
theorem d_make {C : Addr} {sp : Sp} {dvs : List V} {E : XK} {t : TA} (h : t σ H fun vs H1 => ∀ x dx, H1 x = none → H1 dx = none → dx ≠ x →
  sp (.ref x :: (vs ++ dvs)) (upd (upd H1 dx (.own x)) x (.ins C dx [])) (fun v H2 => v = .non ∧ Q (.ref x) H2) E) : tMake C sp dvs E t σ H Q := h
end
end OQ
namespace OQ
open PySem L2
theorem d_isX {K : PySem.W.Frag} {D a : Addr} {cls : Value} {d : Option Addr} {H : Hp} {Q : VK} {c : V} {cv : Value} {b : Bool} {dd : Addr} {fs : List (Str × V)} (e1 : cls = .ref D) (e2 : d = some dd) (hx : H dd = some (.xd fs)) (hc : ClsV c cv)
    (e : PySem.W.kitOne K (.ref D) cv = some b) (h : Q (.bl b) H) : rIsX K D a cls d [.ref a, c] H Q := ⟨c, cv, b, dd, fs, rfl, e1, e2, hx, hc, e, h⟩
end OQ

/-! ### readings: chained comparisons -/
namespace RD
open PySem L2
theorem d_chain {r r' : R2} {ta tb tc : TE} {σ : L2.St} {H : Hp} {Q : VK} (h : ta σ H fun x H1 => tb σ H1 fun y H2 => r x y H2 fun z H3 => ∃ k, z = .bl k ∧ (if k = true then tc σ H3 fun u H4 => r' y u H4 Q else Q (.bl false) H3)) : tChain r r' ta tb tc σ H Q := h
variable {σ : L2.St} {H : Hp}
theorem f_tup {K : PySem.W.Frag} {a : Addr} {xs : List V} {g : TG} {tb : TS} {nx : L2.St → Hp → Prop} {rt : VK} (Pv : Nat → L2.St → Hp → Prop) (h0 : Pv 0 σ H) (hl : ∀ i σ H, i ≤ xs.length → Pv i σ H → SqT K H a xs)
    (hs : ∀ i x σ H, xs[i]? = some x → Pv i σ H → g x σ H fun σ2 H2 => tb ⟨Pv (i + 1), rt, nx, Pv (i + 1)⟩ σ2 H2) (hd : ∀ σ H, Pv xs.length σ H → nx σ H) :
    ∃ W : Nat → Nat → L2.St → Hp → Prop, (∃ m, W 0 m σ H) ∧ ∀ i m σ H, W i m σ H → ((Itt K a).stop i H ∧ nx σ H) ∨ ((Itt K a).go i H ∧ ∃ N : L2.St → Hp → Prop, (∀ σ' H', N σ' H' → ∃ m', m' < m ∧ W (i + 1) m' σ' H') ∧
      ∀ x H', (Itt K a).yld i H x H' → g x σ H' fun σ2 H2 => tb ⟨N, rt, nx, N⟩ σ2 H2) := for_tup (D := ⟨nx, rt, fun _ _ => False, fun _ _ => False⟩) Pv h0 hl hs hd
end RD

/-! ### a range as a value, and for over it -/
namespace OQ
open PySem L2 PySem.Spec PyProof.Rows
section
variable {X : Cx} {tg : Expr} {e : Expr} {te : TE}
theorem cr_range1 : CallR X (.type "range") (fun vs H Q => ∃ j : Int, vs = [V.int j] ∧ ∀ p, H p = none → Q (.ref p) (upd H p (.rng 0 j))) := by
  rintro pins s σ H vs us Q I r ⟨j, rfl, wish⟩
  cases r with
  | cons one rest =>
    cases rest
    obtain ⟨tok, rfl⟩ := one
    have free := I.hok.fresh (Nat.le_refl s.heap.objs.size)
    exact call_range_1 ⟨.ref s.heap.objs.size, _, I.laid (t' := s.toks + 1 + 1) (o := .rng 0 j) (fun _ _ z => Heap.get?_push_of_some _ z) (Nat.le_refl _) ⟨s.toks, tok, s.toks + 1, Heap.get?_push_size _ rfl⟩, rfl, wish _ free⟩
/-- for .. in e, e a range from lo to hi -/
def iRngV (te : TE) : TI := fun σ H R => te σ H fun x H1 => ∃ (a : Addr) (lo hi : Int), x = .ref a ∧ H1 a = some (.rng lo hi) ∧ (-(2 ^ 62) ≤ lo ∧ lo < 2 ^ 62 ∧ -(2 ^ 62) ≤ hi ∧ hi < 2 ^ 62) ∧ R (Itr lo (hi - lo).toNat) H1
theorem pi_rngV (he : PE X e te) : PI X tg e (iRngV te) := by
  refine ⟨fun pins s σ H R I asked => thn (he.run pins s σ H _ I asked) fun v s1 ⟨x, H1, I1, rx, a, lo, hi, ex, ea, ⟨b1, b2, b3, b4⟩, go⟩ => ?_⟩
  subst ex
  obtain rfl : v = Value.ref a := rx
  obtain ⟨t, u, w, there⟩ := I1.hok a _ ea
  have isr : IsRange s1.heap a lo hi 1 t u w := there
  have len : (((hi - lo).toNat : Nat) : Int) = Builtin.Range.rangeSize lo hi 1 := by rw [rangeSize_one]; split <;> omega
  refine wpAny_pyIter_range isr (small_one b1 b2 b3 b4) ⟨s1.heap.objs.size, [s1.heap.objs.size], _, _, H1, rfl, I1.kept (t' := s1.toks) fun _ _ z => Heap.get?_push_of_some _ z, turn_range _ lo (hi - lo).toNat, ?_, fun b hb => ?_, go⟩
  · show IsRangeIter _ _ (lo + ((0 : Nat) : Int) * 1) ((((hi - lo).toNat : Nat) : Int) - ((0 : Nat) : Int)) 1
    rw [len]
    simp only [Int.natCast_zero, Int.zero_mul, Int.add_zero, Int.sub_zero]
    exact Heap.get?_push_size _ rfl
  · obtain rfl : b = s1.heap.objs.size := by simpa using hb
    exact I1.fpOk (Nat.le_refl _) (I1.hok.fresh (Nat.le_refl _))
end
end OQ

/-! ### rules whose reading names K itself (for the blocks of comprehensions) -/
namespace OQ
open PySem L2 PySem.Spec PyProof.Rows
section
variable {X : Cx} {e : Expr} {ta : TE} {f : Str} {pos : Pos}
theorem ixL (K : PySem.W.Frag) (h : X.K = K := by rfl) : IxR X (rIxL K) := h ▸ ix_list
theorem ixT (K : PySem.W.Frag) (h : X.K = K := by rfl) : IxR X (rIxT K) := h ▸ ix_tup
theorem fldK (K : PySem.W.Frag) (he : PE X e ta) (h : X.K = K := by rfl) (hb : attributeBase e f X.env (eval e X.env) = eval e X.env := by rfl) : PE X (.Attribute e f pos) (tFld K ta f) := h ▸ pe_fld he hb
def rTupK (K : PySem.W.Frag) : List V → Hp → VK → Prop := fun xs H Q => ∃ p ys, xs = [.ref p] ∧ ((SqL K H p ys ∧ ∀ l, H l = none → Q (.ref l) (upd H l (.tup ys))) ∨ (SqT K H p ys ∧ Q (.ref p) H))
theorem tupK (K : PySem.W.Frag) (h : X.K = K := by rfl) : CallR X (.type "tuple") (rTupK K) := h ▸ call_tuple_of
end
end OQ

/-! ### own errors as values: made, their fields read, isinstance of them -/
namespace OQ
open PySem L2 PySem.Spec PyProof.Rows
section
variable {X : Cx} {CX : CXT} {x n : Str} {C fI : Addr} {k : Nat} {fd : FuncData} {ps : List Str} {sp : Sp} {ds : List Value} {dvs : List V} {p pos : Pos} {e : Expr} {es : List Expr} {ta : TA} {te : TE} {E : XK}
/-- C(e, ..), C an own error: it stands as it was made -/
def tMkV (C : Addr) (sp : Sp) (dvs : List V) (E : XK) (ta : TA) : TE := fun σ H Q => ta σ H fun vs H1 => ∀ a, H1 a = none → sp (.ref a :: (vs ++ dvs)) (upd H1 a (exo a C none)) (fun v H2 => v = .non ∧ Q (.ref a) H2) E
/-- a new error: its place, and the state with it -/
theorem newErr {pins : List (Addr × Obj)} {st : Shared} {σ : L2.St} {H : Hp} (us : List Value) (D : Addr) (J : Inv X pins σ H st) :
    H (st.heap.objs.size + 1) = none ∧ Inv X pins σ (upd H (st.heap.objs.size + 1) (exo (st.heap.objs.size + 1) D none)) { st with heap := (st.heap.push (PySem.W.kdv_tup us)).push (PySem.HandSPX.excO D st.heap.objs.size) } := by
  have le := Nat.le_succ st.heap.objs.size
  refine ⟨J.hok.fresh le, J.laid (t' := st.toks) (fun _ _ z => Heap.get?_push_of_some _ (Heap.get?_push_of_some _ z)) le (exo_ok (t1 := st.heap.objs.size) ?_)⟩
  have z := Heap.get?_push_size (h := st.heap.push (PySem.W.kdv_tup us)) (o := PySem.HandSPX.excO D st.heap.objs.size) rfl
  have y : (st.heap.push (PySem.W.kdv_tup us)).objs.size = st.heap.objs.size + 1 := by simp [Heap.push]
  rw [y] at z
  exact z
theorem run_mkV {pins : List (Addr × Obj)} {st : Shared} {σ : L2.St} {H1 : Hp} {Q : VK} {vs : List V} {us : List Value} (T : OexC X.K C) (iC : PySem.W.findIn X.K (.ref C) "__init__" = some (some (.ref fI))) (tI : PySem.W.typeIn X.K (.ref fI) = some (.type "function"))
    (F1 : FnOk X.prog X.w X.K X.mg X.base CX k fI fd ps sp) (hr : Room (k + 1) X.A) (hb : Binds X.K fd ps ds) (hd : Vals dvs ds) (hx : Passes CX X E) (few : ps.length ≤ 100) (J : Inv X pins σ H1 st) (rv : Vals vs us)
    (wish : ∀ a, H1 a = none → sp (.ref a :: (vs ++ dvs)) (upd H1 a (exo a C none)) (fun v H2 => v = .non ∧ Q (.ref a) H2) E) : wpAny (model X.prog X.w) X.A (call (.ref C) us) (EP X pins σ Q) X.xe st := by
  obtain ⟨free, J2⟩ := newErr us C J
  have asked := wish _ free
  have all : Vals (V.ref (st.heap.objs.size + 1) :: (vs ++ dvs)) (Value.ref (st.heap.objs.size + 1) :: (us ++ ds)) := .cons rfl (rv.append hd)
  have many : (Value.ref (st.heap.objs.size + 1) :: us ++ ds).length = ps.length := (all.length.symm).trans (F1.len _ _ _ _ asked)
  have short : us.length ≤ sizeLine := by
    have q : (Value.ref (st.heap.objs.size + 1) :: us ++ ds).length ≤ 100 := many ▸ few
    simp only [List.cons_append, List.length_cons, List.length_append] at q
    exact Nat.le_trans (show us.length ≤ 100 by omega) (by decide)
  have body := F1.run _ X.stack _ _ ⟨Value.ref (st.heap.objs.size + 1) :: us, []⟩ _ _ _ E (hr.make C us []) (J2.env0.make C us []) (hb _ (_ :: us) J2.kIn many) all asked
  obtain ⟨_, _, _, _, bm, _, _, _, _, _, _, _, _, _, _, look, good⟩ := T.cls
  refine wpAny_call (PySem.HandSPX.call_own F.excBase_ValueError (fun _ => PySem.HandSPX.refsVE_contains _ bm good) (J.kIn _ _ look) (PySem.W.looks_findIn J.kIn iC) (fun v => PySem.W.bind_fn J.kIn v tI) short (codeAny_mono body ?_))
  rintro (er | fl) s2 post
  · exact hx pins σ _ _ er s2 J2 post
  · match fl, post with
    | .ret u, post =>
      obtain ⟨v, H2, J3, ru, e, q⟩ := J2.after post
      subst e
      exact ⟨ru, V.ref (st.heap.objs.size + 1), H2, J3, rfl, q⟩
theorem pe_mkV (T : OexC X.K C) (iC : PySem.W.findIn X.K (.ref C) "__init__" = some (some (.ref fI))) (tI : PySem.W.typeIn X.K (.ref fI) = some (.type "function"))
    (F1 : FnOk X.prog X.w X.K X.mg X.base CX k fI fd ps sp) (hr : Room (k + 1) X.A) (hb : Binds X.K fd ps ds) (hd : Vals dvs ds) (hx : Passes CX X E) (hsz : ps.length ≤ 100) (hg : Gl X x) (hm : X.mg x = some (.ref C)) (ha : PA X (e :: es) ta)
    (hdb : (x == ("__debug__" : Str)) = false := by decide) (he : starEach (e :: es) X.env = (false, eval e X.env) :: starEach es X.env := by rfl) (hpl : (backTo pos (starEach es X.env)).any (·.1) = false := by rfl) :
    PE X (.Call (.Name x p) (e :: es) [] pos) (tMkV C sp dvs E ta) := by
  refine ⟨fun pins s σ H Q I h => ?_⟩
  refine wpAny_Call_Name_kw (ld_glob I hg hm ?_ hdb)
  refine PySem.W.callWith_K (h₀ := X.base) I.ok.mod.kin T.kC (thn (ha.run pos pins s σ H _ I h) fun us s1 ⟨vs, H1, I1, r1, q1⟩ => ⟨I1.kIn, ?_⟩) he hpl
  exact run_mkV T iC tI F1 hr hb hd hx hsz I1 r1 q1
theorem pe_mkV0 (T : OexC X.K C) (iC : PySem.W.findIn X.K (.ref C) "__init__" = some (some (.ref fI))) (tI : PySem.W.typeIn X.K (.ref fI) = some (.type "function"))
    (F1 : FnOk X.prog X.w X.K X.mg X.base CX k fI fd ps sp) (hr : Room (k + 1) X.A) (hb : Binds X.K fd ps ds) (hd : Vals dvs ds) (hx : Passes CX X E) (hsz : ps.length ≤ 100) (hg : Gl X x) (hm : X.mg x = some (.ref C))
    (hdb : (x == ("__debug__" : Str)) = false := by decide) : PE X (.Call (.Name x p) [] [] pos) (tMkV C sp dvs E tNil) := by
  refine ⟨fun pins s σ H Q I h => ?_⟩
  refine wpAny_Call_Name_kw (ld_glob I hg hm ?_ hdb)
  exact PySem.W.callWith_K0 I.kIn T.kC (run_mkV (us := []) (vs := []) T iC tI F1 hr hb hd hx hsz I .nil h)
/-- an own error at a, with its fields -/
def ErrAt (H : Hp) (a C : Addr) (fs : List (Str × V)) : Prop := ∃ d, H a = some (exo a C (some d)) ∧ H d = some (exd d fs)
theorem errInst {pins : List (Addr × Obj)} {s : Shared} {σ : L2.St} {H : Hp} {a : Addr} {fs : List (Str × V)} (I : Inv X pins σ H s) (h : ErrAt H a C fs) :
    ∃ (oe : Obj) (od : Obj) (mA : Str → Option Value), PySem.W.InstAt s.heap a oe C (some od) ∧ (∀ f, RelO (fs.lookup f) (mA f)) ∧ ∀ n, PySem.W.lookIn n od = some (mA n) := by
  obtain ⟨d, e1, e2⟩ := h
  obtain ⟨t1, ho⟩ := exo_at I.hok e1
  obtain ⟨mA, hns, rel⟩ := exd_at I.hok e2
  obtain ⟨od, hd, hl⟩ := lookIn_ns hns
  exact ⟨_, od, mA, ⟨ho, rfl, rfl, hd⟩, rel, hl⟩
/-- e.f -/
def tVf (K : PySem.W.Frag) (n : Str) (te : TE) : TE := fun σ H Q => te σ H fun x H1 => ∃ (a C : Addr) (fs : List (Str × V)) (v : V), x = .ref a ∧ ErrAt H1 a C fs ∧ XfC K C ∧ PySem.W.findIn K (.ref C) n = some none ∧ fs.lookup n = some v ∧ Q v H1
theorem pe_vf (he : PE X e te) (hb : attributeBase e n X.env (eval e X.env) = eval e X.env := by rfl) : PE X (.Attribute e n pos) (tVf X.K n te) := by
  refine ⟨fun pins s σ H Q I h => ?_⟩
  refine attr_of hb (thn (he.run pins s σ H _ I h) fun u s1 hh => ?_)
  obtain ⟨x, H1, I1, rx, a, D, fs, v, ex, er, T, hno, l, q⟩ := hh
  subst ex
  obtain rfl : u = Value.ref a := rx
  obtain ⟨oe, od, mA, J, hr, hl⟩ := errInst I1 er
  obtain ⟨u, hu, ru⟩ := RelO.some_of (v := v) (o := mA n) (by rw [← l]; exact hr n)
  exact HandSPX.exc_get I1.kIn J T.ga T.gg T.exC (PySem.W.findObj_own T.hdC hno rfl (by rw [hl, hu])) (handed_of ru) ⟨v, H1, I1.tok _, ru, q⟩
/-- isinstance(x, c), x such an error -/
def rIsV (K : PySem.W.Frag) : List V → Hp → VK → Prop := fun xs H Q => ∃ (a D : Addr) (fs : List (Str × V)) (c : V) (cv : Value) (b : Bool), xs = [.ref a, c] ∧ ErrAt H a D fs ∧ ExcC K D ∧ ClsV c cv ∧ PySem.W.kitOne K (.ref D) cv = some b ∧ Q (.bl b) H
theorem call_isV : CallR X (.builtin "isinstance") (rIsV X.K) := by
  rintro pins s σ H xs us Q I r ⟨a, D, fs, c, cv, b, rfl, er, C, hc, e, q⟩
  cases r with
  | cons rx rr => cases rr with
    | cons rt rr =>
      cases rr
      cases rx
      have ec := hc.eq rt
      subst ec
      obtain ⟨oe, od, mA, J, _, _⟩ := errInst I er
      have hcl : (PySem.W.clsIn X.K D).isSome = true := by
        obtain ⟨cd, h1, _⟩ := PySem.W.any_some C.hd
        rw [h1]; rfl
      exact PySem.W.kia_one (PySem.W.kitx_exc hcl C.hg C.hk C.hs C.ha C.hn C.ht C.hm) I.kIn J e (fun z => Value.noConfusion z) fun tk => ⟨.bl b, H, I.kept (t' := tk) fun _ _ z => z, rfl, q⟩
end
end OQ

/-! ### own errors: what is known of their classes -/
namespace OQ
open PySem L2 PySem.Spec PyProof.Rows
structure ErC (K : PySem.W.Frag) (W fI C : Addr) : Prop where
  oex : OexC K C
  ini : PySem.W.findIn K (.ref C) "__init__" = some (some (.ref fI))
  va : PySem.W.findIn K (.ref C) "value" = some none
  xf : XfC K C
  exi : ExcC K C
  mro : ∃ cd, PySem.W.clsIn K C = some cd ∧ cd.mro = [.ref C, .ref W, .type "ValueError", .type "Exception", .type "BaseException", .type "object"]
theorem kit_er {K : PySem.W.Frag} {W f g C D : Addr} (a : ErC K W f C) (b : ErC K W g D) (n : D ≠ W) : PySem.W.kitOne K (.ref C) (.ref D) = some (decide (C = D)) := by
  by_cases h : C = D
  · subst h
    unfold PySem.W.kitOne
    rw [if_pos (by simp), decide_eq_true rfl]
  · have hb : ((Value.ref C : Value) == Value.ref D) = false := Bool.eq_false_iff.mpr fun q => h (by cases beq_iff_eq.mp q; rfl)
    unfold PySem.W.kitOne
    rw [if_neg (by rw [hb]; decide), decide_eq_false h]
    obtain ⟨cd, e1, _⟩ := b.mro
    obtain ⟨cc, e2, e3⟩ := a.mro
    have t : ((PySem.W.clsIn K D).isSome && PySem.W.typeIn K (.ref D) == some (.type "type")) = true := by rw [e1, b.oex.tyC] <;> rfl
    show (if ((PySem.W.clsIn K D).isSome && PySem.W.typeIn K (.ref D) == some (.type "type")) = true then PySem.W.mroIn K C (.ref D) else none) = some false
    rw [if_pos t]
    unfold PySem.W.mroIn
    rw [e2]
    show (if cc.mro.isEmpty = true then none else some (cc.mro.contains (.ref D))) = some false
    rw [e3, if_neg (by simp)]
    congr 1
    refine Bool.eq_false_iff.mpr fun q => ?_
    have m := List.contains_iff_mem.mp q
    simp only [List.mem_cons, List.not_mem_nil, or_false] at m
    rcases m with m | m | m | m | m | m
    · cases m; exact h rfl
    · cases m; exact n rfl
    all_goals cases m
end OQ

/-! ### C.f(..), C an own class of the text: the def itself -/
namespace OQ
open PySem L2 PySem.Spec PyProof.Rows
/-- C.f read off the class: the def at g -/
structure CDef (K : PySem.W.Frag) (C g : Addr) (n : Str) : Prop where
  rd : PySem.W.readsIn K C (.type "type") = true
  ga : PySem.W.specialIn K (.ref C) "__getattribute__" = some (some (.builtin "type.__getattribute__"))
  val : PySem.W.findCls K (.ref C) (.type "type") n = some (.val (.ref g))
  kp : PySem.W.keepIn K (.ref g) = true
section
variable {X : Cx} {CX : CXT} {n : Str} {C g : Addr} {k : Nat} {fd : FuncData} {ps : List Str} {sp : Sp} {o e : Expr} {es : List Expr} {to : TE} {t : TA} {E : XK} {pos apos : Pos} {pl : Sem Bool}
def tCDef (C : Addr) (sp : Sp) (E : XK) (to : TE) (t : TA) : TE := fun σ H Q => to σ H fun x H1 => x = .ref C ∧ t σ H1 fun vs H2 => sp vs H2 Q E
theorem pe_cdef (ho : PE X o to) (c : CDef X.K C g n) (F : FnOk X.prog X.w X.K X.mg X.base CX k g fd ps sp) (hr : Room k X.A) (hb : Binds X.K fd ps []) (hx : Passes CX X E) (ha : PA X (e :: es) t)
    (ht : eval (.Call (.Attribute o n apos) (e :: es) [] pos) X.env = (do
      let ov ← eval o X.env
      standAt apos.atName
      let (f, first) ← holding [ov] (getMethod ov n pl)
      callWith pos f first (backTo pos (starEach (e :: es) X.env)) (backToKw pos (keywordEach [] X.env))) := by rfl)
    (he : starEach (e :: es) X.env = (false, eval e X.env) :: starEach es X.env := by rfl) (hpl : (backTo pos (starEach es X.env)).any (·.1) = false := by rfl) :
    PE X (.Call (.Attribute o n apos) (e :: es) [] pos) (tCDef C sp E to t) := by
  refine ⟨fun pins s σ H Q I h => ?_⟩
  refine PySem.W.methodCall_KW (pl := pl) (thn (ho.run pins s σ H _ I h) fun u s1 ⟨x, H1, I1, rx, ex, q⟩ => ?_) ht
  subst ex
  obtain rfl : u = Value.ref C := rx
  refine PySem.W.method_cls I1.kIn c.ga (PySem.W.cls_value I1.kIn c.rd c.val rfl ?_)
  show wpAny _ _ (callWith pos (Value.ref g) [] (backTo pos (starEach (e :: es) X.env)) []) _ _ _
  refine PySem.W.callWith_K (h₀ := X.base) I1.ok.mod.kin c.kp (thn (ha.run pos pins _ σ H1 _ (I1.tok _) q) fun us s2 ⟨vs, H2, I2, rv, q2⟩ => ⟨I2.kIn, ?_⟩) he hpl
  exact run_at (A := X.A) rfl hr F hb hx I2 rv q2
end
end OQ

/-! ### own errors: of which classes above -/
namespace OQ
open PySem L2 PySem.Spec PyProof.Rows
theorem mro_has {K : PySem.W.Frag} {W f C : Addr} (a : ErC K W f C) {B : Value} (h : B ∈ [Value.ref C, .ref W, .type "ValueError", .type "Exception", .type "BaseException", .type "object"]) : PySem.W.mroIn K C B = some true := by
  obtain ⟨cc, e1, e2⟩ := a.mro
  unfold PySem.W.mroIn
  rw [e1]
  show (if cc.mro.isEmpty = true then none else some (cc.mro.contains B)) = some true
  rw [e2, if_neg (by simp), List.contains_iff_mem.mpr h]
theorem kit_eV {K : PySem.W.Frag} {W f C : Addr} (a : ErC K W f C) : PySem.W.kitOne K (.ref C) (.type "ValueError") = some true := by
  unfold PySem.W.kitOne
  rw [if_neg (by simp)]
  show (if PySem.W.kitMeta "ValueError" = true then PySem.W.mroIn K C (.type "ValueError") else none) = some true
  rw [if_pos (by decide +kernel), mro_has a (by simp)]
theorem kit_eW {K : PySem.W.Frag} {W f C : Addr} (a : ErC K W f C) (hc : PySem.W.isClsIn K W = true) (ht : PySem.W.typeIn K (.ref W) = some (.type "type")) : PySem.W.kitOne K (.ref C) (.ref W) = some true := by
  by_cases n : (Value.ref C == Value.ref W) = true
  · unfold PySem.W.kitOne
    rw [if_pos n]
  · unfold PySem.W.kitOne
    rw [if_neg n]
    have h : ((PySem.W.clsIn K W).isSome && PySem.W.typeIn K (.ref W) == some (.type "type")) = true := by
      rw [show (PySem.W.clsIn K W).isSome = true from hc, ht]; rfl
    show (if ((PySem.W.clsIn K W).isSome && PySem.W.typeIn K (.ref W) == some (.type "type")) = true then PySem.W.mroIn K C (.ref W) else none) = some true
    rw [if_pos h, mro_has a (by simp)]
end OQ

/-! ### all that is asked of an own error's class, in one look -/
namespace OQ
open PySem L2 PySem.Spec PyProof.Rows
/-- the classes above such a one -/
def upVE (C W : Addr) : List Value := [.ref C, .ref W, .type "ValueError", .type "Exception", .type "BaseException", .type "object"]
def shpB (W C : Addr) : Option Obj → Bool
  | some ⟨.type "type", _, .cls k, z⟩ => k.hasDict && (!k.hasDel && (decide (k.mro = upVE C W) && decide (z.size = 6 ∧ z[4]? = some (some (.builtin "ValueError.__new__")))))
  | _ => false
theorem six {z : Array (Option Value)} {u : Option Value} (n : z.size = 6) (e : z[4]? = some u) : ∃ a b c d f, z = #[a, b, c, d, u, f] := by
  obtain ⟨l⟩ := z
  match l, n, e with
  | [a, b, c, d, v, f], _, e => exact ⟨a, b, c, d, f, by cases e; rfl⟩
def fndB (K : PySem.W.Frag) (C : Addr) (n : Str) (v : Option Value) : Bool := decide (PySem.W.findIn K (.ref C) n = some v)
def erB (K : PySem.W.Frag) (W f C : Addr) : Bool :=
  shpB W C (K.lookup C) && (fndB K C "__setattr__" (some (.builtin "object.__setattr__")) && (decide (PySem.W.subIn K (.ref C) (.type "BaseException") = some true) && (decide (PySem.W.typeIn K (.ref C) = some (.type "type")) &&
    (PySem.W.keepIn K (.ref C) && (fndB K C "__init__" (some (.ref f)) && (fndB K C "value" none && (fndB K C "__getattribute__" (some (.builtin "BaseException.__getattribute__")) && (fndB K C "__getattr__" none &&
      (PySem.W.hasDictIn K C && fndB K C "__class__" (some (.builtin "object.__class__")))))))))))
/-- f of all of them -/
def allB {α : Type} (f : α → Bool) : List α → Bool
  | [] => true
  | x :: r => f x && allB f r
theorem allB_at {α : Type} {f : α → Bool} : ∀ {l : List α}, allB f l = true → ∀ x ∈ l, f x = true
  | [], _, _, m => nomatch m
  | y :: r, h, x, m => by
    have q : (f y && allB f r) = true := h
    rw [Bool.and_eq_true] at q
    rcases List.mem_cons.mp m with e | m
    · rw [e]; exact q.1
    · exact allB_at q.2 x m
theorem two {a b : Bool} (h : (a && b) = true) : a = true ∧ b = true := by simpa using h
theorem erB_ok {K : PySem.W.Frag} {W f C : Addr} (hn : PySem.W.specialIn K (.builtin "object.__class__") "__get__" = some (some (.builtin "getset_descriptor.__get__"))) (ht : PySem.W.takesIn K (.builtin "object.__class__") = some true)
    (h : erB K W f C = true) : ErC K W f C := by
  obtain ⟨c1, h⟩ := two h
  obtain ⟨c2, h⟩ := two h
  obtain ⟨c3, h⟩ := two h
  obtain ⟨c4, h⟩ := two h
  obtain ⟨c5, h⟩ := two h
  obtain ⟨c6, h⟩ := two h
  obtain ⟨c7, h⟩ := two h
  obtain ⟨c8, h⟩ := two h
  obtain ⟨c9, h⟩ := two h
  obtain ⟨c10, c11⟩ := two h
  have F : ∀ {n : Str} {v : Option Value}, fndB K C n v = true → PySem.W.findIn K (.ref C) n = some v := fun q => of_decide_eq_true q
  have sub := of_decide_eq_true c3
  cases e : K.lookup C with
  | none => rw [e] at c1; cases c1
  | some o =>
    rw [e] at c1
    unfold shpB at c1
    split at c1
    · rename_i dd k z eo
      have eo' := Option.some.inj eo
      subst eo'
      obtain ⟨d1, c1⟩ := two c1
      obtain ⟨d2, c1⟩ := two c1
      obtain ⟨d3, d4⟩ := two c1
      obtain ⟨s1, s2⟩ := of_decide_eq_true d4
      obtain ⟨k0, k1, k2, k3, k5, rfl⟩ := six s1 s2
      have mr := of_decide_eq_true d3
      obtain ⟨nm, bs, mro, ns, qn, hdct, sn, sub2, ab, col, hdel⟩ := k
      simp only [Bool.not_eq_true'] at d1 d2 mr
      subst d1 d2 mr
      have cl : PySem.W.clsIn K C = some { name := nm, bases := bs, mro := upVE C W, ns := ns, qualname := qn, hasDict := true, slotNames := sn, subclasses := sub2, abstract := ab, collection := col, hasDel := false } := by
        unfold PySem.W.clsIn
        rw [e]
      have up : PySem.W.mroIn K C (.type "object") = some true := by
        unfold PySem.W.mroIn
        rw [cl]
        show (if (upVE C W).isEmpty = true then none else some ((upVE C W).contains (.type "object"))) = some true
        rw [if_neg (by simp [upVE]), List.contains_iff_mem.mpr (by simp [upVE])]
      exact ⟨⟨⟨nm, qn, ns, bs, [.ref W, .type "ValueError", .type "Exception", .type "BaseException", .type "object"], sn, sub2, ab, col, dd, k0, k1, k2, k3, k5, e, by rfl⟩, F c2, sub, of_decide_eq_true c4, c5⟩, F c6, F c7,
        ⟨F c8, F c9, sub, c10⟩, ⟨F c8, F c9, sub, c10, F c11, hn, ht, up⟩, ⟨_, cl, rfl⟩⟩
    · cases c1
end OQ
namespace OQ
open PySem L2 PySem.Spec PyProof.Rows
theorem ErC.cls {K : PySem.W.Frag} {W f C : Addr} (a : ErC K W f C) : PySem.W.isClsIn K C = true := by
  obtain ⟨cc, e, _⟩ := a.mro
  show (PySem.W.clsIn K C).isSome = true
  rw [e]; rfl
/-- what «except D» says of an error of C -/
theorem exm_is {K : PySem.W.Frag} {C D : Addr} {b : Bool} (h1 : PySem.W.subIn K (.ref D) (.type "BaseException") = some true) (h2 : PySem.W.isClsIn K D = true) (h3 : PySem.W.typeIn K (.ref D) = some (.type "type")) (h : PySem.W.mroIn K C (.ref D) = some b) :
    PySem.W.exmOne K (.ref C) (.ref D) = some b := by
  unfold PySem.W.exmOne
  rw [h1, if_pos (by rfl)]
  have q : ((PySem.W.clsIn K D).isSome && PySem.W.typeIn K (.ref D) == some (.type "type")) = true := by
    rw [show (PySem.W.clsIn K D).isSome = true from h2, h3]; rfl
  unfold PySem.W.kitCls
  exact (if_pos q).trans h
theorem mro_er {K : PySem.W.Frag} {W f C : Addr} (a : ErC K W f C) {D : Addr} (n : D ≠ W) : PySem.W.mroIn K C (.ref D) = some (decide (C = D)) := by
  by_cases h : C = D
  · subst h; rw [mro_has a (by simp), decide_eq_true rfl]
  · obtain ⟨cc, e1, e2⟩ := a.mro
    unfold PySem.W.mroIn
    rw [e1, decide_eq_false h]
    show (if cc.mro.isEmpty = true then none else some (cc.mro.contains (.ref D))) = some false
    rw [e2, if_neg (by simp)]
    refine congrArg some (Bool.eq_false_iff.mpr fun q => ?_)
    have m := List.contains_iff_mem.mp q
    simp only [List.mem_cons, Value.ref.injEq, reduceCtorEq, List.not_mem_nil, or_false] at m
    exact m.elim (fun z => h z.symm) n
theorem exm_er {K : PySem.W.Frag} {W f g C D : Addr} (a : ErC K W f C) (b : ErC K W g D) (n : D ≠ W) : PySem.W.exmOne K (.ref C) (.ref D) = some (decide (C = D)) := exm_is b.oex.exC b.cls b.oex.tyC (mro_er a n)
theorem exm_eW {K : PySem.W.Frag} {W f C : Addr} (a : ErC K W f C) (h1 : PySem.W.subIn K (.ref W) (.type "BaseException") = some true) (h2 : PySem.W.isClsIn K W = true) (h3 : PySem.W.typeIn K (.ref W) = some (.type "type")) :
    PySem.W.exmOne K (.ref C) (.ref W) = some true := exm_is h1 h2 h3 (mro_has a (by simp))
end OQ

/-! ### the head by one run: facts by names, and one more look -/
namespace OQ
open PySem L2 PySem.Spec PyProof.Rows
/-- what of the heap is looked at: what the module's names reach, and the host's own names -/
def frB (n : Nat) (g : Addr → Option Obj) : PySem.W.Frag := He.frG g (cStatics :: He.asD g n)
def hookB (n : Nat) (fa : List He.Fa) (fn : List He.DefD) (ex : PySem.W.Frag → Bool) : PySem.W.Hook where
  α := He.AlD × Bool
  obs := fun s => (He.obsD fa fn (frB n s.heap.get?), ex (frB n s.heap.get?))
  val := fun _ => (He.valD fn, true)
  says := fun _ h => ∃ K : PySem.W.Frag, K.In h ∧ He.SaysD fa fn K ∧ ex K = true
  of := fun _ _ e => ⟨_, He.frG_in, congrArg Prod.fst e, congrArg Prod.snd e⟩
  keeps := fun _ _ _ ⟨K, hK, c, x⟩ k => ⟨K, PySem.W.Frag.In.keeps hK k, c, x⟩
def obB (n : Nat) (fa : List He.Fa) (fn : List He.DefD) (ex : PySem.W.Frag → Bool) (s : PySem.W.SharedT) : He.AlD × Bool :=
  (He.obsD fa fn (frB n (HandSHeadRun.getT s)), ex (frB n (HandSHeadRun.getT s)))
theorem obB_eq (n : Nat) (fa : List He.Fa) (fn : List He.DefD) (ex : PySem.W.Frag → Bool) (s : PySem.W.SharedT) : obB n fa fn ex s = (hookB n fa fn ex).obs s.abs := by
  have e : HandSHeadRun.getT s = s.abs.heap.get? := funext (HandSHeadRun.getT_eq s)
  unfold obB
  rw [e]
  rfl
theorem fun_of {K : PySem.W.Frag} {x q : Str} {st : Stmt} {f : Addr} {fd : FuncData} (F : FunD K x q (defArgs st) (defBody st) (defScope st) [] [] f fd) : Fun K x q st f fd := by
  obtain ⟨oc, od, dV, kV, doc, pm, an, cd, ct, sl, e, look, code, df, _⟩ := F.ex
  rcases df with ⟨_, rfl⟩ | ⟨no, _⟩
  · exact ⟨⟨oc, od, kV, doc, pm, an, cd, ct, sl, e, look, code⟩, F.kp⟩
  · exact absurd rfl no
/-- v as an option's option -/
def isB (a : Option (Option Value)) (v : Option Value) : Bool := decide (a = some v)
theorem isB_ok {a : Option (Option Value)} {v : Option Value} (h : isB a v = true) : a = some v := of_decide_eq_true h
end OQ

open RD in
local macro_rules | `(tactic| walk_at "rd1") => `(tactic| with_reducible first
  | refine d_seq ?_ | refine d_asg ?_ | refine d_op ?_ | refine d_c ?_ | refine d_gname ?_ | refine d_ifS ?_ | refine d_test ?_ | refine d_bl ?_ | refine d_ret ?_ | refine d_next ?_ | refine d_drop ?_
  | refine d_and ?_ | refine d_or ?_ | refine d_not ?_ | refine d_andV ?_ | refine d_orV ?_ | refine d_notV ?_ | refine d_if ?_ | refine d_tB ?_
  | refine d_rI0 ?_ | refine d_rU ?_ | refine d_eqI ?_ | refine d_neI ?_ | refine d_eqS ?_ | refine d_neS ?_ | refine d_eqB ?_ | refine d_isN ?_ | refine d_notN ?_ | refine d_intB ?_ | refine d_un ?_ | refine d_cb ?_ | refine d_cons ?_ | refine d_nil ?_ | refine d_lst ?_ | refine d_tup ?_ | refine d_call ?_
  | refine d_iList ?_ | refine d_rng1 ?_ | refine d_lc ?_ | refine d_yes ?_ | refine d_iteT ?_ | refine d_iteF ?_ | refine d_sl ?_ | refine d_noPart ?_ | refine d_part ?_ | refine d_exI ?_ | refine d_fld ?_ | refine d_iteNF ?_ | refine d_iteNT ?_ | refine d_gcd ?_ | refine d_sfld ?_ | refine d_for ?_ | refine OQ.d_makeS ?_ | refine OQ.d_make ?_ | refine OQ.d_methS ?_ | refine OQ.d_meth ?_ | refine d_gsub ?_ | refine d_par ?_ | refine d_int ?_ | refine d_abs ?_)
local macro_rules | `(tactic| walk_at "rdH") => `(tactic| first | assumption | exact L2.upd_same | (simp only [L2.upd_same, L2.upd_ne, ne_eq, not_false_eq_true, *]; done))
local macro_rules | `(tactic| walk_at "rdC") => `(tactic| first | assumption | (refine Or.inr ⟨?_, ?_⟩ <;> first | decide | omega) | (refine Or.inl ⟨?_, ?_⟩ <;> first | decide | omega) | (show (0 : Int) < _; first | assumption | decide | omega) | exact ⟨by decide, by decide +kernel⟩ | exact ⟨by decide, by decide, by decide +kernel⟩ | exact ⟨by assumption, by assumption⟩)
local macro_rules | `(tactic| walk_at "rd2") => `(tactic| first
  | refine RD.d_var rfl ?_
  | ((with_reducible (refine' RD.d_ixL ?hs ?e ?k)); (case hs => exact L2.SqL.of (by walk_at "rdH")); (case e => rfl))
  | ((with_reducible (refine' RD.d_ixT ?hs ?e ?k)); (case hs => exact L2.SqT.of (by walk_at "rdH")); (case e => rfl))
  | ((with_reducible (refine' RD.d_lenL ?hs ?k)); (case hs => exact L2.SqL.of (by walk_at "rdH")))
  | ((with_reducible (refine' RD.d_wipe ?e ?k)); (case e => rfl))
  | ((with_reducible (refine' RD.d_refL ?hs ?k)); (case hs => exact L2.SqL.of (by walk_at "rdH")))
  | ((with_reducible (refine' RD.d_lenT ?hs ?k)); (case hs => exact L2.SqT.of (by walk_at "rdH")))
  | ((with_reducible (refine' RD.d_lenS ?hs ?k)); (case hs => first | assumption | omega))
  | ((with_reducible (refine' RD.d_rI ?c ?k)); (case c => walk_at "rdC"))
  | ((with_reducible (refine' RD.d_setL ?hs ?e ?k)); (case hs => walk_at "rdH"); (case e => rfl)))
local macro_rules | `(tactic| walk_at "rd") => `(tactic| repeat (first | walk_at "rd1" | walk_at "rd2"))

/-! ### words, watches, links, floods -/
namespace WW
abbrev Wd := List Nat
def piece (W : Wd) (i j : Nat) : Wd := (W.drop i).take (j - i)
/-- the watch w stands at spot l of W -/
def Hit (W : Wd) (l : Nat) (w : Wd) : Prop := piece W l (l + w.length) = w
def Link (ws : List Wd) (W : Wd) (i j : Nat) : Prop := ∃ w ∈ ws, (Hit W i w ∧ j = i + w.length) ∨ (Hit W j w ∧ i = j + w.length)
instance {W : Wd} {l : Nat} {w : Wd} : Decidable (Hit W l w) := inferInstanceAs (Decidable (_ = _))
theorem Link.symm {ws : List Wd} {W : Wd} {i j : Nat} (h : Link ws W i j) : Link ws W j i := by
  obtain ⟨w, m, h⟩ := h
  exact ⟨w, m, h.symm⟩
theorem piece_length (W : Wd) (i j : Nat) : (piece W i j).length = min (j - i) (W.length - i) := by simp [piece]
theorem Hit.bound {W : Wd} {l : Nat} {w : Wd} (h : Hit W l w) (n : w ≠ []) : l + w.length ≤ W.length := by
  have e := congrArg List.length h
  rw [piece_length] at e
  have : 0 < w.length := List.length_pos_iff.mpr n
  omega
theorem Link.le {ws : List Wd} {W : Wd} {i j : Nat} (hw : ∀ w ∈ ws, w ≠ []) (h : Link ws W i j) : i ≤ W.length ∧ j ≤ W.length ∧ i ≠ j := by
  obtain ⟨w, m, ⟨h, e⟩ | ⟨h, e⟩⟩ := h
  · have := h.bound (hw w m)
    have : 0 < w.length := List.length_pos_iff.mpr (hw w m)
    omega
  · have := h.bound (hw w m)
    have : 0 < w.length := List.length_pos_iff.mpr (hw w m)
    omega
theorem Link.mono {ws vs : List Wd} {W : Wd} {i j : Nat} (s : ∀ w ∈ ws, w ∈ vs) (h : Link ws W i j) : Link vs W i j := by
  obtain ⟨w, m, h⟩ := h
  exact ⟨w, s w m, h⟩
/-- r steps lead from g to v -/
def Wk (E : Nat → Nat → Prop) (g : Nat) : Nat → Nat → Prop
  | 0, v => v = g
  | r + 1, v => ∃ u, Wk E g r u ∧ E u v
/-- r steps and no fewer -/
def Ds (E : Nat → Nat → Prop) (g r v : Nat) : Prop := Wk E g r v ∧ ∀ s, s < r → ¬ Wk E g s v
def Rc (E : Nat → Nat → Prop) (g v : Nat) : Prop := ∃ r, Wk E g r v
theorem Rc.ds {E : Nat → Nat → Prop} {g v : Nat} (h : Rc E g v) : ∃ r, Ds E g r v := by
  obtain ⟨r, h⟩ := h
  induction r using Nat.strongRecOn with
  | ind r ih =>
    by_cases c : ∃ s, s < r ∧ Wk E g s v
    · obtain ⟨s, hs, k⟩ := c
      exact ih s hs k
    · exact ⟨r, h, fun s hs k => c ⟨s, hs, k⟩⟩
theorem Ds.uniq {E : Nat → Nat → Prop} {g r s v : Nat} (h : Ds E g r v) (k : Ds E g s v) : r = s := by
  rcases Nat.lt_trichotomy r s with c | c | c
  · exact (k.2 r c h.1).elim
  · exact c
  · exact (h.2 s c k.1).elim
/-- a step further than r leads to r + 1, or to what is nearer -/
theorem Ds.step {E : Nat → Nat → Prop} {g r u v : Nat} (h : Ds E g r u) (e : E u v) : Ds E g (r + 1) v ∨ ∃ s, s ≤ r ∧ Ds E g s v := by
  obtain ⟨s, k⟩ := Rc.ds ⟨r + 1, u, h.1, e⟩
  by_cases c : s ≤ r
  · exact .inr ⟨s, c, k⟩
  · by_cases c2 : s = r + 1
    · subst c2; exact .inl k
    · exact (k.2 (r + 1) (by omega) ⟨u, h.1, e⟩).elim
theorem Ds.back {E : Nat → Nat → Prop} {g r v : Nat} (h : Ds E g (r + 1) v) : ∃ u, Ds E g r u ∧ E u v := by
  obtain ⟨⟨u, k, e⟩, n⟩ := h
  exact ⟨u, ⟨k, fun s hs z => n (s + 1) (by omega) ⟨u, z, e⟩⟩, e⟩
theorem Ds.down {E : Nat → Nat → Prop} {g : Nat} : ∀ {r v : Nat}, Ds E g r v → ∀ s, s ≤ r → ∃ u, Ds E g s u
  | r, v, h, s, hs => by
    by_cases c : s = r
    · subst c; exact ⟨v, h⟩
    · cases r with
      | zero => omega
      | succ r =>
        obtain ⟨u, k, _⟩ := h.back
        exact k.down s (by omega)
theorem Wk.trans {E : Nat → Nat → Prop} {g u : Nat} {r : Nat} (h : Wk E g r u) : ∀ {s v : Nat}, Wk E u s v → Wk E g (r + s) v
  | 0, v, k => by cases k; exact h
  | s + 1, v, ⟨x, k, e⟩ => ⟨x, h.trans k, e⟩
theorem Rc.trans {E : Nat → Nat → Prop} {g u v : Nat} (h : Rc E g u) (k : Rc E u v) : Rc E g v := by
  obtain ⟨r, h⟩ := h
  obtain ⟨s, k⟩ := k
  exact ⟨r + s, h.trans k⟩
theorem Rc.one {E : Nat → Nat → Prop} {u v : Nat} (e : E u v) : Rc E u v := ⟨1, u, rfl, e⟩
theorem Rc.refl {E : Nat → Nat → Prop} {u : Nat} : Rc E u u := ⟨0, rfl⟩
theorem Rc.symm {E : Nat → Nat → Prop} (sy : ∀ u v, E u v → E v u) {u v : Nat} (h : Rc E u v) : Rc E v u := by
  obtain ⟨r, h⟩ := h
  induction r generalizing v with
  | zero => cases h; exact .refl
  | succ r ih =>
    obtain ⟨x, k, e⟩ := h
    exact (Rc.one (sy _ _ e)).trans (ih k)
theorem Rc.mono {E F : Nat → Nat → Prop} (m : ∀ u v, E u v → F u v) {u v : Nat} (h : Rc E u v) : Rc F u v := by
  obtain ⟨r, h⟩ := h
  induction r generalizing v with
  | zero => cases h; exact .refl
  | succ r ih =>
    obtain ⟨x, k, e⟩ := h
    exact (ih k).trans (.one (m _ _ e))
/-- the book of ws tells W -/
def Told (ws : List Wd) (W : Wd) : Prop := Rc (Link ws W) 0 W.length
end WW
namespace WW
/-! the marks: spots with one mark are led to one another -/
structure Cls (m : Nat → Int) (n : Nat) (F : Nat → Nat → Prop) : Prop where
  snd : ∀ i j, i ≤ n → j ≤ n → m i = m j → Rc F i j
  cmp : ∀ i j, F i j → m i = m j
def addE (F : Nat → Nat → Prop) (a b : Nat) : Nat → Nat → Prop := fun u v => F u v ∨ (u = a ∧ v = b) ∨ (v = a ∧ u = b)
theorem Cls.same {m : Nat → Int} {n a b : Nat} {F : Nat → Nat → Prop} (h : Cls m n F) (e : m a = m b) : Cls m n (addE F a b) :=
  ⟨fun i j hi hj z => (h.snd i j hi hj z).mono fun _ _ => .inl, fun i j z => by
    rcases z with z | ⟨rfl, rfl⟩ | ⟨rfl, rfl⟩
    · exact h.cmp _ _ z
    · exact e
    · exact e.symm⟩
def relab (m : Nat → Int) (a b : Nat) : Nat → Int := fun i => if m i = m b then m a else m i
theorem Cls.join {m : Nat → Int} {n a b : Nat} {F : Nat → Nat → Prop} (h : Cls m n F) (ha : a ≤ n) (hb : b ≤ n) (e : m a ≠ m b) : Cls (relab m a b) n (addE F a b) := by
  have up : ∀ u v, Rc F u v → Rc (addE F a b) u v := fun u v k => k.mono fun _ _ => .inl
  have ab : Rc (addE F a b) a b := .one (.inr (.inl ⟨rfl, rfl⟩))
  have ba : Rc (addE F a b) b a := .one (.inr (.inr ⟨rfl, rfl⟩))
  refine ⟨fun i j hi hj z => ?_, fun i j z => ?_⟩
  · unfold relab at z
    split at z <;> split at z
    · rename_i c d
      exact up _ _ (h.snd i j hi hj (c.trans d.symm))
    · rename_i c d
      exact ((up _ _ (h.snd i b hi hb c)).trans ba).trans (up _ _ (h.snd a j ha hj z))
    · rename_i c d
      exact ((up _ _ (h.snd i a hi ha z)).trans ab).trans (up _ _ (h.snd b j hb hj d.symm))
    · exact up _ _ (h.snd i j hi hj z)
  · unfold relab
    rcases z with z | ⟨rfl, rfl⟩ | ⟨rfl, rfl⟩
    · rw [h.cmp _ _ z]
    · rw [if_neg e, if_pos rfl]
    · rw [if_neg e, if_pos rfl]
theorem Cls.told {m : Nat → Int} {n : Nat} {F : Nat → Nat → Prop} (h : Cls m n F) {i j : Nat} (hi : i ≤ n) (hj : j ≤ n) : m i = m j ↔ Rc F i j := by
  refine ⟨h.snd i j hi hj, fun k => ?_⟩
  obtain ⟨r, k⟩ := k
  clear hi hj
  induction r generalizing j with
  | zero => cases k; rfl
  | succ r ih =>
    obtain ⟨x, k, e⟩ := k
    exact (ih k).trans (h.cmp _ _ e)
/-! the links, as they are found -/
/-- those found ahead of the watch kk at spot low -/
def LkF (ws : List Wd) (W : Wd) (low kk : Nat) (i j : Nat) : Prop := ∃ l k w, ws[k]? = some w ∧ Hit W l w ∧ (l < low ∨ (l = low ∧ k < kk)) ∧ ((i = l ∧ j = l + w.length) ∨ (j = l ∧ i = l + w.length))
theorem LkF.zero {ws : List Wd} {W : Wd} {i j : Nat} : ¬ LkF ws W 0 0 i j := by
  rintro ⟨l, k, w, _, _, c, _⟩
  omega
theorem LkF.next {ws : List Wd} {W : Wd} {low i j : Nat} : LkF ws W low ws.length i j ↔ LkF ws W (low + 1) 0 i j := by
  refine ⟨fun ⟨l, k, w, h1, h2, c, h3⟩ => ⟨l, k, w, h1, h2, by omega, h3⟩, fun ⟨l, k, w, h1, h2, c, h3⟩ => ⟨l, k, w, h1, h2, ?_, h3⟩⟩
  have := (List.getElem?_eq_some_iff.mp h1).1
  omega
theorem LkF.all {ws : List Wd} {W : Wd} {i j : Nat} (n : ∀ w ∈ ws, w ≠ []) : LkF ws W W.length 0 i j ↔ Link ws W i j := by
  constructor
  · rintro ⟨l, k, w, h1, h2, c, h3⟩
    refine ⟨w, List.mem_of_getElem? h1, ?_⟩
    rcases h3 with ⟨rfl, e⟩ | ⟨rfl, e⟩
    · exact .inl ⟨h2, e⟩
    · exact .inr ⟨h2, e⟩
  · rintro ⟨w, m, h⟩
    obtain ⟨k, hk⟩ := List.getElem?_of_mem m
    have l0 : 0 < w.length := List.length_pos_iff.mpr (n w m)
    rcases h with ⟨h, e⟩ | ⟨h, e⟩
    · exact ⟨i, k, w, hk, h, by have := h.bound (n w m); omega, .inl ⟨rfl, e⟩⟩
    · exact ⟨j, k, w, hk, h, by have := h.bound (n w m); omega, .inr ⟨rfl, e⟩⟩
theorem LkF.miss {ws : List Wd} {W : Wd} {low kk : Nat} {w : Wd} (hk : ws[kk]? = some w) (h : ¬ Hit W low w) (i j : Nat) : LkF ws W low (kk + 1) i j ↔ LkF ws W low kk i j := by
  refine ⟨fun ⟨l, k, v, h1, h2, c, h3⟩ => ⟨l, k, v, h1, h2, ?_, h3⟩, fun ⟨l, k, v, h1, h2, c, h3⟩ => ⟨l, k, v, h1, h2, by omega, h3⟩⟩
  rcases c with c | ⟨rfl, c⟩
  · exact .inl c
  · by_cases e : k = kk
    · subst e
      rw [hk] at h1
      cases h1
      exact (h h2).elim
    · exact .inr ⟨rfl, by omega⟩
theorem LkF.hit {ws : List Wd} {W : Wd} {low kk : Nat} {w : Wd} (hk : ws[kk]? = some w) (h : Hit W low w) (i j : Nat) : LkF ws W low (kk + 1) i j ↔ addE (LkF ws W low kk) low (low + w.length) i j := by
  constructor
  · rintro ⟨l, k, v, h1, h2, c, h3⟩
    by_cases e : l = low ∧ k = kk
    · obtain ⟨rfl, rfl⟩ := e
      rw [hk] at h1
      cases h1
      rcases h3 with ⟨rfl, rfl⟩ | ⟨rfl, rfl⟩
      · exact .inr (.inl ⟨rfl, rfl⟩)
      · exact .inr (.inr ⟨rfl, rfl⟩)
    · exact .inl ⟨l, k, v, h1, h2, by omega, h3⟩
  · rintro (⟨l, k, v, h1, h2, c, h3⟩ | h3)
    · exact ⟨l, k, v, h1, h2, by omega, h3⟩
    · refine ⟨low, kk, w, hk, h, by omega, ?_⟩
      rcases h3 with ⟨rfl, rfl⟩ | ⟨rfl, rfl⟩
      · exact .inl ⟨rfl, rfl⟩
      · exact .inr ⟨rfl, rfl⟩
theorem LkF.new {ws : List Wd} {W : Wd} {low kk : Nat} {w : Wd} (nd : ws.Nodup) (n : ∀ w ∈ ws, w ≠ []) (hk : ws[kk]? = some w) (h : Hit W low w) : ¬ LkF ws W low kk low (low + w.length) ∧ ¬ LkF ws W low kk (low + w.length) low := by
  have l0 : 0 < w.length := List.length_pos_iff.mpr (n w (List.mem_of_getElem? hk))
  have key : ∀ l k v, ws[k]? = some v → Hit W l v → (l < low ∨ (l = low ∧ k < kk)) → l = low → v.length = w.length → False := by
    rintro l k v h1 h2 c rfl e
    have e2 : v = w := by
      unfold Hit at h2 h
      rw [← h2, ← h, e]
    subst e2
    have lt : k < kk := by omega
    have := (List.getElem?_inj (List.getElem?_eq_some_iff.mp h1).1 nd).mp (h1.trans hk.symm)
    omega
  refine ⟨fun ⟨l, k, v, h1, h2, c, h3⟩ => ?_, fun ⟨l, k, v, h1, h2, c, h3⟩ => ?_⟩ <;>
  · have l1 : 0 < v.length := List.length_pos_iff.mpr (n v (List.mem_of_getElem? h1))
    exact key l k v h1 h2 c (by omega) (by omega)
/-- rows of links -/
structure LkI (rows : Nat → List Nat) (F : Nat → Nat → Prop) : Prop where
  mem : ∀ i j, j ∈ rows i ↔ F i j
  nd : ∀ i, (rows i).Nodup
def push (rows : Nat → List Nat) (a b : Nat) : Nat → List Nat := fun i => if i = a then rows i ++ [b] else rows i
theorem LkI.add {rows : Nat → List Nat} {F : Nat → Nat → Prop} {a b : Nat} (h : LkI rows F) (ne : a ≠ b) (n1 : ¬ F a b) (n2 : ¬ F b a) : LkI (push (push rows a b) b a) (addE F a b) := by
  have e : ∀ i, push (push rows a b) b a i = if i = a then rows i ++ [b] else if i = b then rows i ++ [a] else rows i := by
    intro i
    unfold push
    by_cases c : i = a
    · subst c; rw [if_neg ne, if_pos rfl, if_pos rfl]
    · simp only [if_neg c]
  refine ⟨fun i j => ?_, fun i => ?_⟩
  · rw [e]
    split
    · rename_i c
      subst c
      rw [List.mem_append, h.mem, List.mem_singleton]
      unfold addE
      constructor
      · rintro (z | z)
        · exact .inl z
        · exact .inr (.inl ⟨rfl, z⟩)
      · rintro (z | ⟨_, z⟩ | ⟨_, z⟩)
        · exact .inl z
        · exact .inr z
        · exact (ne z).elim
    · rename_i c
      split
      · rename_i d
        subst d
        rw [List.mem_append, h.mem, List.mem_singleton]
        unfold addE
        constructor
        · rintro (z | z)
          · exact .inl z
          · exact .inr (.inr ⟨z, rfl⟩)
        · rintro (z | ⟨z, _⟩ | ⟨z, _⟩)
          · exact .inl z
          · exact (c z).elim
          · exact .inr z
      · rename_i d
        rw [h.mem]
        unfold addE
        constructor
        · exact .inl
        · rintro (z | ⟨z, _⟩ | ⟨_, z⟩)
          · exact z
          · exact (c z).elim
          · exact (d z).elim
  · rw [e]
    have app : ∀ (l : List Nat) (x : Nat), l.Nodup → x ∉ l → (l ++ [x]).Nodup := by
      intro l x nl nx
      rw [List.nodup_append]
      refine ⟨nl, by simp, fun y hy z hz q => ?_⟩
      rw [List.mem_singleton] at hz
      subst hz; subst q
      exact nx hy
    split
    · rename_i c
      subst c
      exact app _ _ (h.nd _) fun z => n1 ((h.mem _ _).mp z)
    · split
      · rename_i c d
        subst d
        exact app _ _ (h.nd _) fun z => n2 ((h.mem _ _).mp z)
      · exact h.nd _
theorem LkI.iff {rows : Nat → List Nat} {F G : Nat → Nat → Prop} (h : LkI rows F) (e : ∀ i j, G i j ↔ F i j) : LkI rows G := ⟨fun i j => (h.mem i j).trans (e i j).symm, h.nd⟩
theorem LkI.zero {ws : List Wd} {W : Wd} : LkI (fun _ => []) (LkF ws W 0 0) := ⟨fun i j => ⟨fun z => (nomatch z), fun z => (LkF.zero z).elim⟩, fun _ => List.nodup_nil⟩
end WW
namespace WW
theorem nodup_len : ∀ (n : Nat) (l : List Nat), l.Nodup → (∀ x ∈ l, x < n) → l.length ≤ n
  | 0, l, _, h => by
    cases l with
    | nil => exact Nat.le_refl _
    | cons a r => exact absurd (h a (List.mem_cons_self ..)) (Nat.not_lt_zero _)
  | n + 1, l, nd, h => by
    by_cases m : n ∈ l
    · have e := List.length_erase_of_mem m
      have ih := nodup_len n (l.erase n) (nd.erase n) (fun x hx => by
        have := h x (List.mem_of_mem_erase hx)
        have : x ≠ n := fun z => by subst z; exact (nd.not_mem_erase hx)
        omega)
      omega
    · exact Nat.le_succ_of_le (nodup_len n l nd fun x hx => by
        have := h x hx
        have : x ≠ n := fun z => m (z ▸ hx)
        omega)
theorem LkF.le {ws : List Wd} {W : Wd} {low kk i j : Nat} (n : ∀ w ∈ ws, w ≠ []) (h : LkF ws W low kk i j) : i ≤ W.length ∧ j ≤ W.length := by
  obtain ⟨l, k, w, h1, h2, c, h3⟩ := h
  have := h2.bound (n w (List.mem_of_getElem? h1))
  omega
theorem LkI.len {rows : Nat → List Nat} {F : Nat → Nat → Prop} {n : Nat} (h : LkI rows F) (b : ∀ i j, F i j → j ≤ n) (i : Nat) : (rows i).length ≤ n + 1 :=
  nodup_len _ _ (h.nd i) fun x m => Nat.lt_succ_of_le (b _ _ ((h.mem i x).mp m))
theorem addE.le {F : Nat → Nat → Prop} {a b n : Nat} (h : ∀ i j, F i j → j ≤ n) (ha : a ≤ n) (hb : b ≤ n) (i j : Nat) (k : addE F a b i j) : j ≤ n := by
  rcases k with k | ⟨_, rfl⟩ | ⟨rfl, _⟩
  · exact h _ _ k
  · exact hb
  · exact ha
/-- ints sorted, as numbers -/
theorem sorted_nats {r : List Nat} {ns : List Int} (p : ns.Perm (r.map fun (j : Nat) => (j : Int))) (s : ns.Pairwise (· ≤ ·)) (nd : r.Nodup) : ∃ q : List Nat, ns = q.map (fun (j : Nat) => (j : Int)) ∧ (∀ x, x ∈ q ↔ x ∈ r) ∧ q.Pairwise (· < ·) := by
  refine ⟨ns.map Int.toNat, ?_, fun x => ?_, ?_⟩
  · rw [List.map_map]
    have : ∀ z ∈ ns, ((fun (j : Nat) => (j : Int)) ∘ Int.toNat) z = z := fun z m => by
      obtain ⟨j, _, rfl⟩ := List.mem_map.mp (p.mem_iff.mp m)
      simp
    rw [List.map_congr_left this, List.map_id']
  · rw [List.mem_map]
    constructor
    · rintro ⟨z, m, rfl⟩
      obtain ⟨j, mj, rfl⟩ := List.mem_map.mp (p.mem_iff.mp m)
      simpa using mj
    · intro m
      exact ⟨(x : Int), p.mem_iff.mpr (List.mem_map.mpr ⟨x, m, rfl⟩), by simp⟩
  · have nd' : ns.Nodup := p.nodup_iff.mpr (List.Pairwise.map _ (fun a b (h : a ≠ b) => (fun z => h (by omega) : (a : Int) ≠ (b : Int))) nd)
    rw [List.pairwise_map]
    have both := s.and nd'
    refine both.imp_of_mem ?_
    rintro a b ma mb ⟨h1, h2⟩
    obtain ⟨x, _, rfl⟩ := List.mem_map.mp (p.mem_iff.mp ma)
    obtain ⟨y, _, rfl⟩ := List.mem_map.mp (p.mem_iff.mp mb)
    simp at *
    omega
end WW

/-! ### texts as lists of letters -/
namespace WW
open PySem L2
/-- the text of these letters -/
def S (l : Wd) : Str := ⟨l.toArray⟩
theorem S_len (l : Wd) : (S l).length = l.length := by show l.toArray.size = _; simp
theorem S_cps (l : Wd) : (S l).cps.toList = l := rfl
theorem S_of (z : Str) : z = S z.cps.toList := by cases z; rfl
theorem S_inj {l m : Wd} : S l = S m ↔ l = m := by
  constructor
  · intro h
    have := congrArg (fun z : Str => z.cps.toList) h
    exact this
  · exact congrArg S
theorem S_app (l m : Wd) : S l ++ S m = S (l ++ m) := by
  show Str.mk _ = Str.mk _
  simp [S]
theorem take_all {α : Type} (l : List α) {n m : Nat} (h : l.length ≤ n) (k : l.length ≤ m) : l.take n = l.take m := by
  rw [List.take_of_length_le h, List.take_of_length_le k]
theorem cut_nat {α : Type} (l : List α) (a b : Nat) : (l.drop (min a l.length)).take (min b l.length - min a l.length) = (l.drop a).take (b - a) := by
  rcases Nat.le_total a l.length with ha | ha
  · have e : min a l.length = a := by omega
    rw [e]
    rcases Nat.le_total b l.length with hb | hb
    · have e : min b l.length = b := by omega
      rw [e]
    · exact take_all _ (by rw [List.length_drop]; omega) (by rw [List.length_drop]; omega)
  · have e : min a l.length = l.length := by omega
    rw [e, List.drop_of_length_le (Nat.le_refl l.length), List.drop_of_length_le ha]
    simp
theorem S_cut (l : Wd) (a b : Nat) : cutS (S l) (some (a : Int)) (some (b : Int)) = S (piece l a b) := by
  unfold cutS piece
  rw [S_len, HT.sIx_nat, HT.sIx_nat, S_cps, cut_nat]
  rfl
theorem S_cutLo (l : Wd) (a : Nat) : cutS (S l) (some (a : Int)) none = S (l.drop a) := by
  have e : cutS (S l) (some (a : Int)) none = cutS (S l) (some (a : Int)) (some ((l.length : Nat) : Int)) := by
    unfold cutS
    rw [S_len, HT.sIx_nat, HT.sIx_nat, HT.sIx_none, Nat.min_self]
  rw [e, S_cut]
  show S _ = S _
  congr 1
  exact List.take_of_length_le (by rw [List.length_drop]; omega)
theorem S_cutHi (l : Wd) (b : Nat) : cutS (S l) none (some (b : Int)) = S (l.take b) := by
  have e : cutS (S l) none (some (b : Int)) = cutS (S l) (some ((0 : Nat) : Int)) (some (b : Int)) := by
    unfold cutS
    have z : ∀ n : Nat, HT.sIx n 0 (some ((0 : Nat) : Int)) = 0 := fun n => by rw [HT.sIx_nat, Nat.zero_min]
    rw [z, HT.sIx_none]
  rw [e, S_cut]
  rfl
/-- a row of texts -/
def Ss (ws : List Wd) : List V := ws.map fun w => V.str (S w)
theorem Ss_get {ws : List Wd} {i : Nat} {x : V} (h : (Ss ws)[i]? = some x) : ∃ w, ws[i]? = some w ∧ x = .str (S w) := by
  unfold Ss at h
  rw [List.getElem?_map] at h
  cases e : ws[i]? with
  | none => rw [e] at h; cases h
  | some w => rw [e] at h; cases h; exact ⟨w, rfl, rfl⟩
theorem Ss_len (ws : List Wd) : (Ss ws).length = ws.length := List.length_map ..
def Lt (c : Nat) : Prop := 97 ≤ c ∧ c ≤ 122
instance {c : Nat} : Decidable (Lt c) := inferInstanceAs (Decidable (_ ∧ _))
/-- all of its signs are letters -/
def Lw (l : Wd) : Prop := ∀ c ∈ l, Lt c
theorem Lw.piece {l : Wd} (h : Lw l) (a b : Nat) : Lw (piece l a b) := fun c m => h c (List.mem_of_mem_drop (List.mem_of_mem_take m))
theorem Lw.drop {l : Wd} (h : Lw l) (a : Nat) : Lw (l.drop a) := fun c m => h c (List.mem_of_mem_drop m)
theorem Lw.take {l : Wd} (h : Lw l) (a : Nat) : Lw (l.take a) := fun c m => h c (List.mem_of_mem_take m)
theorem Lw.app {l m : Wd} (h : Lw l) (k : Lw m) : Lw (l ++ m) := fun c z => (List.mem_append.mp z).elim (h c) (k c)
theorem Lw.nil : Lw [] := fun _ m => nomatch m
theorem Lw.one {c : Nat} (h : Lt c) : Lw [c] := fun x m => by rw [List.mem_singleton.mp m]; exact h
def alpha : Str := "abcdefghijklmnopqrstuvwxyz"
theorem alpha_S : alpha = S (List.range' 97 26) := by decide +kernel
theorem alpha_in (c : Nat) : decide (c ∈ alpha.cps.toList) = decide (Lt c) := by
  rw [alpha_S, S_cps]
  rw [decide_eq_decide]
  unfold Lt
  rw [List.mem_range'_1]
  omega
theorem alpha_at {i : Nat} (h : i < 26) : (List.range' 97 26)[i]? = some (97 + i) := by
  rw [List.getElem?_range' h]; simp
end WW
/-! ### readings of texts -/
namespace RD
open PySem L2
section
variable {σ : L2.St} {H : Hp} {Q : VK} {K : PySem.W.Frag} {l m : WW.Wd} {a b : Nat} {i j : Int}
def rAddS : R2 := fun x y H Q => ∃ i j, x = .str i ∧ y = .str j ∧ i.length + j.length ≤ sizeLine ∧ Q (.str (i ++ j)) H
theorem o_addS {X : Cx} : OpR X (binaryOp .Add) rAddS := op_add_str
theorem d_addS (n : l.length + m.length ≤ sizeLine) (h : Q (.str (WW.S (l ++ m))) H) : rAddS (.str (WW.S l)) (.str (WW.S m)) H Q :=
  ⟨_, _, rfl, rfl, by rw [WW.S_len, WW.S_len]; exact n, by rw [WW.S_app]; exact h⟩
def rSign : R2 := fun x y H Q => ∃ (c : Nat) (z : Str), x = .str ⟨#[c]⟩ ∧ y = .str z ∧ Q (.bl (decide (c ∈ z.cps.toList))) H
theorem o_sign {X : Cx} : OpR X (compareOp .In) rSign := op_in_sign
theorem d_alpha {c : Nat} (h : Q (.bl (decide (WW.Lt c))) H) : rSign (.str ⟨#[c]⟩) (.str "abcdefghijklmnopqrstuvwxyz") H Q :=
  ⟨c, _, rfl, rfl, by rw [show decide (c ∈ (("abcdefghijklmnopqrstuvwxyz" : Str)).cps.toList) = decide (WW.Lt c) from WW.alpha_in c]; exact h⟩
theorem d_cutS {i j : Int} (hi : i = a) (hj : j = b) (n : l.length ≤ sizeLine) (h : Q (.str (WW.S (WW.piece l a b))) H) : rSlS (.str (WW.S l)) (some i) (some j) H Q := by
  subst hi hj
  exact ⟨_, rfl, by rw [WW.S_len]; exact n, by rw [WW.S_cut]; exact h⟩
theorem d_cutSLo {i : Int} (hi : i = a) (n : l.length ≤ sizeLine) (h : Q (.str (WW.S (l.drop a))) H) : rSlS (.str (WW.S l)) (some i) none H Q := by
  subst hi
  exact ⟨_, rfl, by rw [WW.S_len]; exact n, by rw [WW.S_cutLo]; exact h⟩
theorem d_cutSHi {i : Int} (hi : i = b) (n : l.length ≤ sizeLine) (h : Q (.str (WW.S (l.take b))) H) : rSlS (.str (WW.S l)) none (some i) H Q := by
  subst hi
  exact ⟨_, rfl, by rw [WW.S_len]; exact n, by rw [WW.S_cutHi]; exact h⟩
theorem d_lenW (n : l.length ≤ sizeLine) (h : Q (.int l.length) H) : rLen K [.str (WW.S l)] H Q := ⟨_, _, rfl, ⟨by rw [WW.S_len]; exact n, rfl⟩, by rw [WW.S_len]; exact h⟩
theorem d_ixS {i : Int} {c : Nat} (hi : i = a) (n : l.length ≤ sizeLine) (e : l[a]? = some c) (h : Q (.str (WW.S [c])) H) : rIxS (.str (WW.S l)) (.int i) H Q := by
  subst hi
  exact ⟨_, _, c, rfl, rfl, by rw [WW.S_len]; exact n, by rw [WW.S_cps]; exact atI_nat e, h⟩
theorem d_eqW (h : Q (.bl (decide (l = m))) H) : rEq (.str (WW.S l)) (.str (WW.S m)) H Q := ⟨rfl, by
  have e : decide (V.str (WW.S l) = V.str (WW.S m)) = decide (l = m) := by rw [decide_eq_decide]; exact ⟨fun z => WW.S_inj.mp (V.str.inj z), fun z => by rw [z]⟩
  rw [e]; exact h⟩
theorem d_neW (h : Q (.bl (!decide (l = m))) H) : rNe (.str (WW.S l)) (.str (WW.S m)) H Q := ⟨rfl, by
  have e : decide (V.str (WW.S l) = V.str (WW.S m)) = decide (l = m) := by rw [decide_eq_decide]; exact ⟨fun z => WW.S_inj.mp (V.str.inj z), fun z => by rw [z]⟩
  rw [e]; exact h⟩
end
end RD

/-! ### enumerate over a tuple -/
namespace OQ
open PySem L2 PySem.Spec PyProof.Rows
theorem meets_enumV {v : Value} {o : Obj} {B : Heap → Prop} (b : Begins v o B) :
    Meets (Builtin.«enumerate.__new__» ⟨[.type "enumerate", v], []⟩) (fun _ R z => B z.heap ∧
      R (.ok (.ret (.ref (z.heap.push o).objs.size))) { z with heap := (z.heap.push o).push { cls := .type "enumerate", data := .fields #[.none, .bool false, .ref z.heap.objs.size, rawInt 0, .none, .none] } }) :=
  .of_wp fun P W A R z q => by
    obtain ⟨hp, g, d, tk, os⟩ := z; obtain ⟨b0, q⟩ := q
    have know := sub_enumerate
    have begin_ : ∀ {A' : Around} {E Q : Value → Shared → Prop}, Q (.ref hp.objs.size) ⟨hp.push o, g, d, tk, os⟩ → wpAny (model P W) A' (pyIter v) Q E ⟨hp, g, d, tk, os⟩ :=
      fun r => b.iter P W _ _ ⟨hp, g, d, tk, os⟩ _ b0 r
    wp_walk using begin_
    refine wpAny_stack_any fun _ => wpAny_pure ?_
    split
    · rename_i c _ _ _ _ _
      cases (c == Value.type "enumerate") <;> (wp_walk using begin_; exact ⟨_, rfl, q⟩)
    · (wp_walk using begin_; exact ⟨_, rfl, q⟩)
theorem call_enumV {P : Program} {W : World} {A : Around} {E Q : Value → Shared → Prop} {z : Shared} {v : Value} {o : Obj} {B : Heap → Prop} (b : Begins v o B) (b0 : B z.heap)
    (q : ∀ h', IsEnum h' (z.heap.objs.size + 1) z.heap.objs.size 0 .none → h'.get? z.heap.objs.size = some o → (∀ c u, z.heap.get? c = some u → h'.get? c = some u) → Q (.ref (z.heap.objs.size + 1)) { z with heap := h' }) :
    wpAny (model P W) A (call (.type "enumerate") [v]) Q E z := by
  refine callType_new F.called_enumerate (by decide) (F.typeCall_enumerate_1 _) (F.newCall_enumerate_1 _) (fun _ => F.args_object_init_2 _ _) F.entry_enumerate_new (meets_enumV b) ⟨b0, ?_⟩
  have n1 : (z.heap.push o).objs.size = z.heap.objs.size + 1 := Heap.size_push ..
  have e1 := Heap.get?_push_size (z.heap.push o) (o := { cls := .type "enumerate", data := .fields #[.none, .bool false, .ref z.heap.objs.size, rawInt 0, .none, .none] }) rfl
  rw [n1] at e1
  show _ ∧ _
  rw [n1]
  exact ⟨⟨_, e1, rfl⟩, q _ e1 (Heap.get?_push_of_some _ (Heap.get?_push_size _ b.free)) fun c u x => Heap.get?_push_of_some _ (Heap.get?_push_of_some _ x)⟩
/-- the tuple at a, each item in a new pair behind its number -/
def IteT (K : PySem.W.Frag) (a : Addr) : It where
  go i H := ∃ xs x, SqT K H a xs ∧ xs[i]? = some x
  yld i H v H' := ∃ T x, v = .ref T ∧ H T = none ∧ H' = upd H T (.tup [.int (i : Nat), x]) ∧ ∀ xs, SqT K H a xs → xs[i]? = some x
  stop i H := ∃ xs, SqT K H a xs ∧ xs.length ≤ i
theorem two_mem {b e it : Addr} (h : b ∈ [e, it]) : b = e ∨ b = it := by simpa using h
theorem turn_enumT {P : Program} {w : World} {K : PySem.W.Frag} {elts : List Expr} {kk : Nat} {tpos : Pos} (a e it : Addr) :
    Turn P w K (.Tuple elts kk tpos) (IteT K a) [e, it] e (fun i h => (∃ old, IsEnum h e it ((i : Nat) : Int) old) ∧ h.IsTupleIter it a i ∧ e ≠ it) where
  mem := List.mem_cons_self ..
  obj := fun i h st b hb => by
    obtain ⟨⟨old, x1⟩, ⟨o, x2, _, x3⟩, _⟩ := st
    rcases two_mem hb with rfl | rfl
    · exact ⟨_, x1, fun _ z => nomatch z⟩
    · exact ⟨o, x2, fun _ z => by rw [x3] at z; cases z⟩
  keep := fun i h h' st k => ⟨st.1.imp fun _ y => k e (List.mem_cons_self ..) _ y, st.2.1.at fun o y => k it (by simp) o y, st.2.2⟩
  item := by
    intro X hP hw hK hc i pins s σ H E I hf st hg
    subst hP hw hK
    obtain ⟨⟨old, x1⟩, x2, ne⟩ := st
    obtain ⟨xs, x, sq, hx⟩ := hg
    obtain ⟨its, rv, pt, _⟩ := I.tuple sq
    obtain ⟨u, hu, ru⟩ := rv.get hx
    have pt' : s.heap.IsTuple a its.toArray := pt
    have na : a ≠ it := fun z => by
      subst z
      obtain ⟨o1, y1, c1, _⟩ := x2
      obtain ⟨o2, y2, c2, _⟩ := pt'
      rw [y1] at y2
      cases y2
      rw [c1] at c2
      simp at c2
    have le : e < s.heap.objs.size := Heap.lt_size x1
    have li : it < s.heap.objs.size := let ⟨_, y, _⟩ := x2; Heap.lt_size y
    have la : a < s.heap.objs.size := let ⟨_, y, _⟩ := pt'; Heap.lt_size y
    have nea : e ≠ a := fun z => by
      subst z
      obtain ⟨o2, y2, c2, _⟩ := pt'
      have y1 : s.heap.get? e = _ := x1
      rw [y1] at y2
      cases y2
      simp at c2
    have lt : i < its.toArray.size := by
      have := rv.length
      have := (List.getElem?_eq_some_iff.mp hx).1
      rw [List.size_toArray]; omega
    refine wpAny_pyNext_enum_itemD (Draws.tuple (A := X.A.in1) (show X.A.in1.handled = none from I.ok.hd hc) it a na its.toArray) x1 ⟨x2, pt'⟩ lt ne (by intro z; rcases two_mem z with z | z; exact ne z; exact nea z) fun y h1 tk hy out st1 hT _ hk => ?_
    have ey : y = u := by
      have : its.toArray[i]? = some u := by simpa using hu
      rw [this] at hy
      exact (Option.some.inj hy).symm
    subst ey
    refine ⟨_, rfl, wpAny_letOwnedTupleGo_enum (s := { s with heap := h1, toks := tk + 1 }) out fun h2 x3 sb => ?_⟩
    have hT2 := (sb.2 _ (Nat.ne_of_gt le)).trans hT
    have new : ObjOk X.prog X.w (upd H s.heap.objs.size (.tup [.int (i : Nat), x])) h2 s.heap.objs.size (.tup [.int (i : Nat), x]) :=
      ⟨by show 2 ≤ sizeLine; decide, [.int i tk, y], .cons ⟨_, rfl⟩ (.cons ru .nil), ⟨_, hT2, rfl, _, rfl⟩⟩
    have I2 : Inv X pins σ (upd H s.heap.objs.size (.tup [.int (i : Nat), x])) { s with heap := h2, toks := tk + 1 } :=
      I.turnedNew (ch := [e, it]) (fun b o nb q => (sb.2 b (fun z => nb (by simp [z]))).trans (hk b o (fun z => nb (by simp [z])) (fun z => nb (by simp [z])) q)) hf (Nat.le_refl _) new
    refine ⟨.ref s.heap.objs.size, _, I2, rfl, ⟨_, x, rfl, I.hok.fresh (Nat.le_refl _), rfl, fun ys hy => by rw [I.tuple_inj hy sq]; exact hx⟩, ⟨⟨y, ?_⟩, st1.1.at fun o q => (sb.2 it (Ne.symm ne)).trans q, ne⟩, fun b hb => ?_⟩
    · rw [Int.natCast_succ]; exact x3
    · have lb : b < s.heap.objs.size := (two_mem hb).elim (fun z => z ▸ le) (fun z => z ▸ li)
      rw [upd_ne (Nat.ne_of_lt lb)]
      exact (hf b hb).1
  done := by
    intro X hP hw hK hc i pins s σ H E I hf st hg
    subst hP hw hK
    obtain ⟨⟨old, x1⟩, x2, ne⟩ := st
    obtain ⟨xs, sq, lx⟩ := hg
    obtain ⟨its, rv, pt, _⟩ := I.tuple sq
    obtain ⟨f0, f1, f2, f3, f4, f5⟩ := hf it (by simp)
    have pt' : s.heap.IsTuple a its.toArray := pt
    have len := rv.length
    have hT : s.TypeIs (.ref e) "enumerate" := ⟨_, x1, rfl⟩
    unfold pyNext
    refine wpAny_bind (wpAny_attempt (wpAny_callSpecial?_slot (name := Str.ofString "__next__") hT F.slot_enumerate_next
      (wpAny_call_entry F.slot_enumerate_next hT F.entry_enumerate_next ?_ (F.args_enumerate_next_1 _))))
    show wpAny _ _ (field (.ref e) 2 >>= _) _ _ _
    refine wpAny_bind (wpAny_field x1 rfl (x := .ref it) rfl ?_)
    refine wpAny_bind (wpAny_nextOf_tuple_end (I.ok.hd hc) x2 pt' (by simp; omega) fun h' x he' hx' => ?_)
    obtain ⟨o, ho, c⟩ := hx'
    exact wpAny_bind (wpAny_isInstance (T := "StopIteration") (b := true) ⟨o, ho, c⟩ isSubtype_stop (wpAny_pure ⟨rfl, I.turned (t' := s.toks) (fun b u nb q => he' b u nb q) f0 f1 f3 f4 f5⟩))
  self := fun A i s Q E st h => let ⟨⟨_, x1⟩, _⟩ := st; wpAny_pyIter_enum x1 h
def iEnumT (K : PySem.W.Frag) (ta : TA) : TI := fun σ H R => ta σ H fun vs H1 => ∃ a xs, vs = [.ref a] ∧ SqT K H1 a xs ∧ R (IteT K a) H1
theorem pi_enumT {X : Cx} {arg : Expr} {ta : TA} {p q tp : Pos} {elts : List Expr} {kk : Nat} (hg : Gl X "enumerate") (hm : X.mg "enumerate" = none) (ha : PA X [arg] ta) (hs : starEach [arg] X.env = [(false, eval arg X.env)] := by rfl) :
    PI X (.Tuple elts kk tp) (.Call (.Name "enumerate" p) [arg] [] q) (iEnumT X.K ta) := by
  refine ⟨fun pins s σ H R I asked => Call_ (ld_blt I hg hm boot_enumerate (callWith_type1 (thn (ha.run q pins s σ H _ I asked) fun us s1 ⟨vs, H1, I1, rel, a, xs, evs, sq, go⟩ => ?_) hs rfl))⟩
  subst evs
  cases rel with
  | cons one rest =>
    cases rest
    cases one
    obtain ⟨its, rv, pt, _⟩ := I1.tuple sq
    have pt' : s1.heap.IsTuple a its.toArray := pt
    refine call_enumV (begins_tuple a its.toArray) pt' fun h' x1 x2 hk => wpAny_pyIter_enum x1 ?_
    refine ⟨s1.heap.objs.size + 1, [s1.heap.objs.size + 1, s1.heap.objs.size], _, _, H1, rfl, I1.kept (t' := s1.toks) hk, turn_enumT a (s1.heap.objs.size + 1) s1.heap.objs.size, ⟨⟨.none, x1⟩, ⟨_, x2, rfl, rfl⟩, Nat.succ_ne_self _⟩, fun b hb => ?_, go⟩
    have lb : s1.heap.objs.size ≤ b := by
      rcases two_mem hb with z | z
      · exact z ▸ Nat.le_succ _
      · exact z ▸ Nat.le_refl _
    exact I1.fpOk lb (I1.hok.fresh lb)
/-- enumerate of a list or of a tuple -/
theorem walk_enumT {K : PySem.W.Frag} {a : Addr} {xs : List V} : Walk (IteT K a) xs.length (fun H => SqT K H a xs) (YPair (fun i => some (.int (i : Nat))) (fun i => xs[i]?)) where
  goes i _ hi q := ⟨xs, xs[i], q, List.getElem?_eq_getElem hi⟩
  stops _ q := ⟨xs, q, Nat.le_refl _⟩
  yields i H v H' _ q y := let ⟨T, x, h1, h2, h3, h4⟩ := y; ⟨T, .int (i : Nat), x, h1, h2, h3, rfl, h4 xs q⟩
end OQ

/-! ### rows: lists or tuples -/
namespace OQ
open PySem L2 PySem.Spec PyProof.Rows
def SeqAt (K : PySem.W.Frag) (H : Hp) (a : Addr) (xs : List V) : Prop := SqL K H a xs ∨ SqT K H a xs
theorem sqT_same {K : PySem.W.Frag} {H H' : Hp} {a : Addr} {xs : List V} (h : SqT K H a xs) (e : Same H H') : SqT K H' a xs :=
  h.imp (fun h => h.imp (e _ _) fun ⟨o, h⟩ => ⟨o, e _ _ h⟩) id
theorem SeqAt.same {K : PySem.W.Frag} {H H' : Hp} {a : Addr} {xs : List V} (h : SeqAt K H a xs) (e : Same H H') : SeqAt K H' a xs :=
  h.imp e.seq fun h => sqT_same h e
theorem SeqAt.len {K : PySem.W.Frag} {H : Hp} {a : Addr} {xs : List V} {Q : VK} (h : SeqAt K H a xs) (k : Q (.int xs.length) H) : RD.rLen K [.ref a] H Q :=
  h.elim (fun h => RD.d_lenL h k) fun h => RD.d_lenT h k
/-- the one way of walking or the other -/
def iOr (u w : TI) : TI := fun σ H R => u σ H R ∨ w σ H R
theorem pi_or {X : Cx} {tg e : Expr} {u w : TI} (h : PI X tg e u) (k : PI X tg e w) : PI X tg e (iOr u w) :=
  ⟨fun pins s σ H R I z => z.elim (h.run pins s σ H R I) (k.run pins s σ H R I)⟩
theorem pi_seq {X : Cx} {tg e : Expr} {te : TE} (he : PE X e te) : PI X tg e (iOr (iList X.K te) (iTup X.K te)) := pi_or (pi_list he) (pi_tup he)
theorem d_seqVar {K : PySem.W.Frag} {σ : L2.St} {H : Hp} {R : It → Hp → Prop} {n : Nat} {a : Addr} {xs : List V} (e : σ[n]? = some (some (.ref a))) (h : SeqAt K H a xs)
    (k : ∀ J G, Walk J xs.length G (YAt xs) → (∀ H', Same H H' → G H') → R J H) : iOr (iList K (tVar n)) (iTup K (tVar n)) σ H R := by
  rcases h with h | h
  · exact .inl ⟨_, e, a, rfl, ⟨xs, h⟩, k _ _ walk_list fun H' s => s.seq h⟩
  · exact .inr ⟨_, e, a, rfl, ⟨xs, h⟩, k _ _ walk_tup fun H' s => sqT_same h s⟩
theorem d_enumVar {K : PySem.W.Frag} {σ : L2.St} {H : Hp} {R : It → Hp → Prop} {n : Nat} {a : Addr} {xs : List V} (e : σ[n]? = some (some (.ref a))) (h : SeqAt K H a xs)
    (k : ∀ J G, Walk J xs.length G (YPair (fun i => some (.int (i : Nat))) (fun i => xs[i]?)) → (∀ H', Same H H' → G H') → R J H) :
    iOr (iEnum K (tCons (tVar n) tNil)) (iEnumT K (tCons (tVar n) tNil)) σ H R := by
  rcases h with h | h
  · exact .inl ⟨_, e, a, xs, rfl, h, k _ _ walk_enum fun H' s => s.seq h⟩
  · exact .inr ⟨_, e, a, xs, rfl, h, k _ _ walk_enumT fun H' s => sqT_same h s⟩
theorem eqV_str {z y : Str} : eqV (.str z) (.str y) = (z == y) := rfl
theorem inV_Ss (w : WW.Wd) (ws : List WW.Wd) : inV (.str (WW.S w)) (WW.Ss ws) = decide (w ∈ ws) := by
  unfold inV WW.Ss
  rw [Bool.eq_iff_iff]
  simp only [List.any_map, List.any_eq_true, Function.comp, decide_eq_true_eq, eqV_str, beq_iff_eq, WW.S_inj]
  constructor
  · rintro ⟨x, m, rfl⟩; exact m
  · intro m; exact ⟨w, m, rfl⟩
theorem flat_Ss (ws : List WW.Wd) : (WW.Ss ws).all flatV = true := by
  unfold WW.Ss
  rw [List.all_map]
  exact List.all_eq_true.mpr fun _ _ => rfl
theorem d_inSs {K : PySem.W.Frag} {H : Hp} {Q : VK} {a : Addr} {w : WW.Wd} {ws : List WW.Wd} (h : SeqAt K H a (WW.Ss ws)) (k : Q (.bl (decide (w ∈ ws))) H) : rIn K false (.str (WW.S w)) (.ref a) H Q :=
  ⟨a, _, rfl, h, rfl, flat_Ss ws, by rw [inV_Ss]; exact k⟩
theorem d_notInSs {K : PySem.W.Frag} {H : Hp} {Q : VK} {a : Addr} {w : WW.Wd} {ws : List WW.Wd} (h : SeqAt K H a (WW.Ss ws)) (k : Q (.bl (!decide (w ∈ ws))) H) : rIn K true (.str (WW.S w)) (.ref a) H Q :=
  ⟨a, _, rfl, h, rfl, flat_Ss ws, by rw [inV_Ss]; exact k⟩
end OQ
namespace OQ
open PySem L2 PySem.Spec PyProof.Rows
theorem sortK {X : Cx} (K : PySem.W.Frag) (h : X.K = K := by rfl) : CallR X (.builtin "sorted") (rSortedI K) := h ▸ cr_sortedI
theorem lenK {X : Cx} (K : PySem.W.Frag) (h : X.K = K := by rfl) : CallR X (.builtin "len") (RD.rLen K) := h ▸ RD.c_len
theorem inK {X : Cx} (K : PySem.W.Frag) (h : X.K = K := by rfl) : OpR X (compareOp .In) (rIn K false) := h ▸ op_in_seq
theorem notInK {X : Cx} (K : PySem.W.Frag) (h : X.K = K := by rfl) : OpR X (compareOp .NotIn) (rIn K true) := h ▸ op_notIn_seq
end OQ

/-! ### any for, step by step -/
namespace RD
open PySem L2
theorem f_it {J : It} {n : Nat} {G : Hp → Prop} {Y : Nat → Hp → V → Hp → Prop} {σ : L2.St} {H : Hp} {g : TG} {tb : TS} {nx : L2.St → Hp → Prop} {rt : VK} (w : Walk J n G Y) (Pv : Nat → L2.St → Hp → Prop) (h0 : Pv 0 σ H) (hG : ∀ i σ H, i ≤ n → Pv i σ H → G H)
    (hs : ∀ i x σ H H', i < n → Pv i σ H → Y i H x H' → g x σ H' fun σ2 H2 => tb ⟨Pv (i + 1), rt, nx, Pv (i + 1)⟩ σ2 H2) (hd : ∀ σ H, Pv n σ H → nx σ H) :
    ∃ W : Nat → Nat → L2.St → Hp → Prop, (∃ m, W 0 m σ H) ∧ ∀ i m σ H, W i m σ H → (J.stop i H ∧ nx σ H) ∨ (J.go i H ∧ ∃ N : L2.St → Hp → Prop, (∀ σ' H', N σ' H' → ∃ m', m' < m ∧ W (i + 1) m' σ' H') ∧
      ∀ x H', J.yld i H x H' → g x σ H' fun σ2 H2 => tb ⟨N, rt, nx, N⟩ σ2 H2) := for_it (D := ⟨nx, rt, fun _ _ => False, fun _ _ => False⟩) w Pv h0 hG hs hd
/-- a pair taken apart by two names -/
theorem d_two {K : PySem.W.Frag} {n i j : Nat} {a : Addr} {x y : V} {σ : L2.St} {H : Hp} {R : L2.St → Hp → Prop} (en : n = 2) (e : SqT K H a [x, y]) (k : R ((σ.set i (some x)).set j (some y)) H) :
    gTup K n (gCons (gName i) (gCons (gName j) gNil)) (.ref a) σ H R := ⟨a, [x, y], rfl, e, en.symm, x, [y], rfl, y, [], rfl, rfl, k⟩
end RD
namespace OQ
open PySem L2
theorem d_tupSeq {K : PySem.W.Frag} {H : Hp} {a : Addr} {xs : List V} {Q : VK} (h : SeqAt K H a xs) (k : ∀ H' t, Same H H' → SqT K H' t xs → Q (.ref t) H') : rTupK K [.ref a] H Q := by
  rcases h with h | h
  · exact ⟨a, xs, rfl, .inl ⟨h, fun l hl => k _ l (fun b u e => by rw [upd_ne (ne_of_none e hl)]; exact e) (SqT.of upd_same)⟩⟩
  · exact ⟨a, xs, rfl, .inr ⟨h, k _ a (Same.refl _) h⟩⟩
end OQ
namespace RD
open PySem L2
theorem d_bm {K : PySem.W.Frag} {T : String} {r : V → List V → Hp → VK → Prop} {to : TE} {t : TA} {σ : L2.St} {H : Hp} {Q : VK} (h : to σ H fun x H1 => tyV K T x H1 ∧ t σ H1 fun xs H2 => r x xs H2 Q) : tBM K T r to t σ H Q := h
theorem tyL {K : PySem.W.Frag} {H : Hp} {p : Addr} {xs : List V} (e : H p = some (.lst xs)) : tyV K "list" (.ref p) H := .inl ⟨rfl, xs, SqL.of e⟩
theorem d_app {H : Hp} {Q : VK} {p : Addr} {xs : List V} {y : V} (e : H p = some (.lst xs)) (n : xs.length < sizeLine) (h : Q .non (upd H p (.lst (xs ++ [y])))) : rAppend (.ref p) [y] H Q := ⟨p, xs, y, rfl, rfl, e, n, h⟩
end RD
namespace WW
open PySem L2
def Ns (r : List Nat) : List V := r.map fun (j : Nat) => V.int j
theorem Ns_len (r : List Nat) : (Ns r).length = r.length := List.length_map ..
theorem Ns_app (r : List Nat) (j : Nat) : Ns r ++ [V.int j] = Ns (r ++ [j]) := by unfold Ns; rw [List.map_append]; rfl
theorem Ns_get {r : List Nat} {i : Nat} {x : V} (h : (Ns r)[i]? = some x) : ∃ j, r[i]? = some j ∧ x = .int (j : Nat) := by
  unfold Ns at h
  rw [List.getElem?_map] at h
  cases e : r[i]? with
  | none => rw [e] at h; cases h
  | some w => rw [e] at h; cases h; exact ⟨w, rfl, rfl⟩
end WW
namespace RD
open PySem L2
theorem d_dput {td ty tv : TE} {σ : L2.St} {H : Hp} {nx bk ct : L2.St → Hp → Prop} {rt : VK} (h : tv σ H fun v H1 => td σ H1 fun x H2 => ty σ H2 fun y H3 => ∃ a H4, x = .ref a ∧ DPut H3 a y v H4 ∧ nx σ H4) : sDPut td ty tv ⟨nx, rt, bk, ct⟩ σ H := h
theorem d_dget {td ty : TE} {σ : L2.St} {H : Hp} {Q : VK} (h : td σ H fun x H1 => ty σ H1 fun y H2 => ∃ a v, x = .ref a ∧ DGet H2 a y (some v) ∧ Q v H2) : tDGet td ty σ H Q := h
end RD
namespace RD
open PySem L2
theorem d_din {ty td : TE} {σ : L2.St} {H : Hp} {Q : VK} (h : ty σ H fun y H1 => td σ H1 fun x H2 => ∃ a o, x = .ref a ∧ DGet H2 a y o ∧ Q (.bl o.isSome) H2) : tDIn ty td σ H Q := h
theorem d_dnotin {ty td : TE} {σ : L2.St} {H : Hp} {Q : VK} (h : ty σ H fun y H1 => td σ H1 fun x H2 => ∃ a o, x = .ref a ∧ DGet H2 a y o ∧ Q (.bl (!o.isSome)) H2) : tDNotIn ty td σ H Q := h
end RD
namespace RD
open PySem L2
theorem d_break {nx bk ct : L2.St → Hp → Prop} {rt : VK} {σ : L2.St} {H : Hp} (h : bk σ H) : tBreak ⟨nx, rt, bk, ct⟩ σ H := h
end RD
namespace WW
open PySem L2
theorem Ss_app (ws : List Wd) (w : Wd) : Ss ws ++ [V.str (S w)] = Ss (ws ++ [w]) := by unfold Ss; rw [List.map_append]; rfl
theorem nodup_snoc {α : Type} {l : List α} {x : α} (h : l.Nodup) (n : x ∉ l) : (l ++ [x]).Nodup := by
  rw [List.nodup_append]
  refine ⟨h, by simp, fun a ha b hb q => ?_⟩
  rw [List.mem_singleton] at hb
  subst hb; subst q
  exact n ha
end WW
namespace RD
open PySem L2
theorem d_lstRg {ta : TE} {σ : L2.St} {H : Hp} {Q : VK} (h : ta σ H fun x H1 => ∃ n, x = .int n ∧ RgOk 0 n ∧ ∀ q, H1 q = none → Q (.ref q) (upd H1 q (.lst (rgV 0 n)))) : tLstRg (tRg1 ta) σ H Q := h
end RD

/-! ### breadth first -/
namespace WW
open PySem L2
def Dk (ps : List (Nat × Nat)) : List (Key × V) := ps.map fun p => (Sum.inl (p.1 : Int), V.int p.2)
def look (ps : List (Nat × Nat)) (v : Nat) : Option Nat := (ps.find? fun p => p.1 == v).map (·.2)
theorem valV_Dk (ps : List (Nat × Nat)) (v : Nat) : valV (Dk ps) (Sum.inl (v : Int)) = (look ps v).map fun (d : Nat) => V.int d := by
  induction ps with
  | nil => rfl
  | cons p ps ih =>
    unfold Dk look at *
    rw [List.map_cons, List.find?_cons]
    by_cases c : p.1 = v
    · rw [valV_pos (by rw [c])]
      simp [c]
    · rw [valV_neg (fun z => c (by have := Sum.inl.inj z; omega)), ih]
      have e : (p.1 == v) = false := by simpa using c
      rw [e]
theorem look_none {ps : List (Nat × Nat)} {v : Nat} : look ps v = none ↔ v ∉ ps.map (·.1) := by
  unfold look
  rw [Option.map_eq_none_iff, List.find?_eq_none, List.mem_map]
  constructor
  · rintro h ⟨p, m, e⟩
    exact h p m (by simpa using e)
  · intro h p m e
    exact h ⟨p, m, by simpa using e⟩
theorem look_snoc {ps : List (Nat × Nat)} {v r : Nat} (h : look ps v = none) (w : Nat) : look (ps ++ [(v, r)]) w = if w = v then some r else look ps w := by
  by_cases c : w = v
  · subst c
    rw [if_pos rfl]
    unfold look at *
    rw [List.find?_append]
    rw [Option.map_eq_none_iff] at h
    simp [h]
  · rw [if_neg c]
    unfold look
    rw [List.find?_append]
    have : ((v, r) :: []).find? (fun p : Nat × Nat => p.1 == w) = none := by simp; exact fun z => c z.symm
    rw [this]
    simp
theorem Dk_put {ps : List (Nat × Nat)} {v r : Nat} (h : look ps v = none) : putK (Dk ps) (Sum.inl (v : Int)) (.int r) = Dk (ps ++ [(v, r)]) := by
  rw [putK_new]
  · unfold Dk; rw [List.map_append]; rfl
  · rw [valV_Dk, h]; rfl
/-- what is found while the ring of those r steps away is gone through: Sn was seen -/
structure Bf (E : Nat → Nat → Prop) (g n r : Nat) (ps : List (Nat × Nat)) (far : List Nat) (Sn : Nat → Prop) : Prop where
  st : ∀ v d, look ps v = some d ↔ (Ds E g d v ∧ d ≤ r) ∨ (d = r + 1 ∧ Ds E g (r + 1) v ∧ Sn v)
  far : ∀ v, v ∈ far ↔ Ds E g (r + 1) v ∧ Sn v
  nd : (ps.map (·.1)).Nodup
  lt : ∀ p ∈ ps, p.1 < n
theorem Bf.iff {E : Nat → Nat → Prop} {g n r : Nat} {ps : List (Nat × Nat)} {far : List Nat} {Sn Sm : Nat → Prop} (h : Bf E g n r ps far Sn) (e : ∀ v, Sm v ↔ Sn v) : Bf E g n r ps far Sm :=
  ⟨fun v d => by rw [h.st, e], fun v => by rw [h.far, e], h.nd, h.lt⟩
theorem Bf.len {E : Nat → Nat → Prop} {g n r : Nat} {ps : List (Nat × Nat)} {far : List Nat} {Sn : Nat → Prop} (h : Bf E g n r ps far Sn) : ps.length ≤ n := by
  have := nodup_len n _ h.nd (fun x m => by obtain ⟨p, mp, rfl⟩ := List.mem_map.mp m; exact h.lt p mp)
  rwa [List.length_map] at this
theorem Bf.here {E : Nat → Nat → Prop} {g n r : Nat} {ps : List (Nat × Nat)} {far : List Nat} {Sn : Nat → Prop} (h : Bf E g n r ps far Sn) {u : Nat} (hu : Ds E g r u) : look ps u = some r := (h.st u r).mpr (.inl ⟨hu, Nat.le_refl _⟩)
theorem Bf.old {E : Nat → Nat → Prop} {g n r : Nat} {ps : List (Nat × Nat)} {far : List Nat} {Sn : Nat → Prop} (h : Bf E g n r ps far Sn) {v : Nat} (hv : look ps v ≠ none) : Bf E g n r ps far (fun w => Sn w ∨ w = v) := by
  have key : Ds E g (r + 1) v → Sn v := fun k => by
    cases e : look ps v with
    | none => exact absurd e hv
    | some d =>
      rcases (h.st v d).mp e with ⟨k2, le⟩ | ⟨_, _, s⟩
      · have := k.uniq k2; omega
      · exact s
  have same : ∀ w, (Ds E g (r + 1) w ∧ (Sn w ∨ w = v)) ↔ (Ds E g (r + 1) w ∧ Sn w) := fun w => by
    constructor
    · rintro ⟨a, b | rfl⟩
      · exact ⟨a, b⟩
      · exact ⟨a, key a⟩
    · rintro ⟨a, b⟩; exact ⟨a, .inl b⟩
  exact ⟨fun w d => by rw [h.st, same], fun w => by rw [h.far, same], h.nd, h.lt⟩
theorem Bf.new {E : Nat → Nat → Prop} {g n r : Nat} {ps : List (Nat × Nat)} {far : List Nat} {Sn : Nat → Prop} (h : Bf E g n r ps far Sn) {u v : Nat} (hu : Ds E g r u) (e : E u v) (hn : v < n) (hv : look ps v = none) : Bf E g n r (ps ++ [(v, r + 1)]) (far ++ [v]) (fun w => Sn w ∨ w = v) := by
  have dv : Ds E g (r + 1) v := by
    rcases hu.step e with k | ⟨s, hs, k⟩
    · exact k
    · have := (h.st v s).mpr (.inl ⟨k, hs⟩)
      rw [hv] at this; cases this
  refine ⟨fun w d => ?_, fun w => ?_, ?_, ?_⟩
  · rw [look_snoc hv]
    by_cases c : w = v
    · subst c
      rw [if_pos rfl]
      constructor
      · intro z; cases z; exact .inr ⟨rfl, dv, .inr rfl⟩
      · rintro (⟨k, le⟩ | ⟨rfl, _, _⟩)
        · have := k.uniq dv; omega
        · rfl
    · rw [if_neg c, h.st]
      constructor
      · rintro (k | ⟨a, b, s⟩)
        · exact .inl k
        · exact .inr ⟨a, b, .inl s⟩
      · rintro (k | ⟨a, b, s | s⟩)
        · exact .inl k
        · exact .inr ⟨a, b, s⟩
        · exact (c s).elim
  · rw [List.mem_append, h.far, List.mem_singleton]
    constructor
    · rintro (⟨a, s⟩ | rfl)
      · exact ⟨a, .inl s⟩
      · exact ⟨dv, .inr rfl⟩
    · rintro ⟨a, s | s⟩
      · exact .inl ⟨a, s⟩
      · exact .inr s
  · rw [List.map_append, List.nodup_append]
    refine ⟨h.nd, by simp, fun a ha b hb q => ?_⟩
    simp at hb
    subst hb; subst q
    exact (look_none.mp hv) ha
  · intro p m
    rcases List.mem_append.mp m with m | m
    · exact h.lt p m
    · rw [List.mem_singleton.mp m]; exact hn
/-- between the rounds -/
structure Bo (E : Nat → Nat → Prop) (g n r : Nat) (ps : List (Nat × Nat)) (ring : List Nat) : Prop where
  st : ∀ v d, look ps v = some d ↔ Ds E g d v ∧ d ≤ r
  ring : ∀ v, v ∈ ring ↔ Ds E g r v
  nd : (ps.map (·.1)).Nodup
  lt : ∀ p ∈ ps, p.1 < n
theorem Bo.zero {E : Nat → Nat → Prop} {g n : Nat} (hg : g < n) : Bo E g n 0 [(g, 0)] [g] := by
  have z : ∀ v, Ds E g 0 v ↔ v = g := fun v => ⟨fun h => h.1, fun h => ⟨h, fun _ k => absurd k (Nat.not_lt_zero _)⟩⟩
  refine ⟨fun v d => ?_, fun v => by rw [z, List.mem_singleton], by simp, by simp; exact hg⟩
  unfold look
  by_cases c : g = v
  · subst c
    simp
    constructor
    · rintro rfl; exact ⟨(z _).mpr rfl, rfl⟩
    · rintro ⟨_, h⟩; exact h.symm
  · simp [c]
    intro k
    intro q
    subst q
    exact c ((z _).mp k).symm
theorem Bo.begin {E : Nat → Nat → Prop} {g n r : Nat} {ps : List (Nat × Nat)} {ring : List Nat} (h : Bo E g n r ps ring) : Bf E g n r ps [] (fun _ => False) :=
  ⟨fun v d => by rw [h.st]; simp, fun v => by simp, h.nd, h.lt⟩
theorem Bf.done {E : Nat → Nat → Prop} {g n r : Nat} {ps : List (Nat × Nat)} {ring far : List Nat} {Sn : Nat → Prop} (h : Bf E g n r ps far Sn) (hr : ∀ v, v ∈ ring ↔ Ds E g r v) (hs : ∀ u v, u ∈ ring → E u v → Sn v) : Bo E g n (r + 1) ps far := by
  have se : ∀ v, Ds E g (r + 1) v → Sn v := fun v k => by
    obtain ⟨u, ku, e⟩ := k.back
    exact hs u v ((hr u).mpr ku) e
  refine ⟨fun v d => ?_, fun v => ?_, h.nd, h.lt⟩
  · rw [h.st]
    constructor
    · rintro (⟨k, le⟩ | ⟨rfl, k, _⟩)
      · exact ⟨k, by omega⟩
      · exact ⟨k, Nat.le_refl _⟩
    · rintro ⟨k, le⟩
      by_cases c : d ≤ r
      · exact .inl ⟨k, c⟩
      · have : d = r + 1 := by omega
        subst this
        exact .inr ⟨rfl, k, se v k⟩
  · rw [h.far]
    exact ⟨fun k => k.1, fun k => ⟨k, se v k⟩⟩
theorem Bo.end_ {E : Nat → Nat → Prop} {g n r : Nat} {ps : List (Nat × Nat)} (h : Bo E g n r ps []) (v d : Nat) : look ps v = some d ↔ Ds E g d v := by
  rw [h.st]
  refine ⟨fun k => k.1, fun k => ⟨k, ?_⟩⟩
  by_cases c : d ≤ r
  · exact c
  · obtain ⟨u, ku⟩ := k.down r (by omega)
    exact nomatch (h.ring u).mpr ku
end WW

/-! ### the law's marks -/
namespace WW
open PySem L2
def Ms (n : Nat) (m : Nat → Int) : List V := (List.range n).map fun i => V.int (m i)
theorem Ms_len (n : Nat) (m : Nat → Int) : (Ms n m).length = n := by unfold Ms; rw [List.length_map, List.length_range]
theorem Ms_get {n i : Nat} (m : Nat → Int) (h : i < n) : (Ms n m)[i]? = some (.int (m i)) := by unfold Ms; rw [List.getElem?_map, List.getElem?_range h]; rfl
theorem Ms_set {n i : Nat} (m : Nat → Int) (v : Int) : (Ms n m).set i (.int v) = Ms n (fun j => if j = i then v else m j) := by
  apply List.ext_getElem?
  intro j
  by_cases hj : j < n
  · rw [Ms_get _ hj, List.getElem?_set]
    by_cases c : i = j
    · subst c
      rw [if_pos rfl, Ms_len, if_pos hj, if_pos rfl]
    · rw [if_neg c, if_neg (fun z => c z.symm), Ms_get _ hj]
  · rw [List.getElem?_eq_none (by rw [List.length_set, Ms_len]; omega), List.getElem?_eq_none (by rw [Ms_len]; omega)]
theorem rgV_Ms (n : Nat) : rgV 0 (n : Int) = Ms n (fun i => (i : Int)) := by
  unfold rgV Ms
  rw [show ((n : Int) - 0).toNat = n from by omega]
  refine List.map_congr_left fun i _ => ?_
  rw [Int.zero_add]
/-- the links ahead of spot sp of the watch kk -/
def MkF (ws : List Wd) (W : Wd) (kk sp : Nat) (i j : Nat) : Prop := ∃ l k w, ws[k]? = some w ∧ Hit W l w ∧ (k < kk ∨ (k = kk ∧ l < sp)) ∧ ((i = l ∧ j = l + w.length) ∨ (j = l ∧ i = l + w.length))
theorem MkF.zero {ws : List Wd} {W : Wd} {i j : Nat} : ¬ MkF ws W 0 0 i j := by
  rintro ⟨l, k, w, _, _, c, _⟩
  omega
theorem MkF.next {ws : List Wd} {W w : Wd} {kk sp i j : Nat} (hk : ws[kk]? = some w) (n : w ≠ []) (hs : W.length < sp + w.length) : MkF ws W kk sp i j ↔ MkF ws W (kk + 1) 0 i j := by
  refine ⟨fun ⟨l, k, v, h1, h2, c, h3⟩ => ⟨l, k, v, h1, h2, by omega, h3⟩, fun ⟨l, k, v, h1, h2, c, h3⟩ => ⟨l, k, v, h1, h2, ?_, h3⟩⟩
  by_cases e : k = kk
  · subst e
    rw [hk] at h1; cases h1
    have := h2.bound n
    omega
  · omega
theorem MkF.all {ws : List Wd} {W : Wd} {i j : Nat} : MkF ws W ws.length 0 i j ↔ Link ws W i j := by
  constructor
  · rintro ⟨l, k, w, h1, h2, c, h3⟩
    refine ⟨w, List.mem_of_getElem? h1, ?_⟩
    rcases h3 with ⟨rfl, e⟩ | ⟨rfl, e⟩
    · exact .inl ⟨h2, e⟩
    · exact .inr ⟨h2, e⟩
  · rintro ⟨w, m, h⟩
    obtain ⟨k, hk⟩ := List.getElem?_of_mem m
    have := (List.getElem?_eq_some_iff.mp hk).1
    rcases h with ⟨h, e⟩ | ⟨h, e⟩
    · exact ⟨i, k, w, hk, h, by omega, .inl ⟨rfl, e⟩⟩
    · exact ⟨j, k, w, hk, h, by omega, .inr ⟨rfl, e⟩⟩
theorem MkF.miss {ws : List Wd} {W : Wd} {kk sp : Nat} {w : Wd} (hk : ws[kk]? = some w) (h : ¬ Hit W sp w) (i j : Nat) : MkF ws W kk (sp + 1) i j ↔ MkF ws W kk sp i j := by
  refine ⟨fun ⟨l, k, v, h1, h2, c, h3⟩ => ⟨l, k, v, h1, h2, ?_, h3⟩, fun ⟨l, k, v, h1, h2, c, h3⟩ => ⟨l, k, v, h1, h2, by omega, h3⟩⟩
  rcases c with c | ⟨rfl, c⟩
  · exact .inl c
  · by_cases e : l = sp
    · subst e
      rw [hk] at h1
      cases h1
      exact (h h2).elim
    · exact .inr ⟨rfl, by omega⟩
theorem MkF.hit {ws : List Wd} {W : Wd} {kk sp : Nat} {w : Wd} (hk : ws[kk]? = some w) (h : Hit W sp w) (i j : Nat) : MkF ws W kk (sp + 1) i j ↔ addE (MkF ws W kk sp) sp (sp + w.length) i j := by
  constructor
  · rintro ⟨l, k, v, h1, h2, c, h3⟩
    by_cases e : l = sp ∧ k = kk
    · obtain ⟨rfl, rfl⟩ := e
      rw [hk] at h1
      cases h1
      rcases h3 with ⟨rfl, rfl⟩ | ⟨rfl, rfl⟩
      · exact .inr (.inl ⟨rfl, rfl⟩)
      · exact .inr (.inr ⟨rfl, rfl⟩)
    · exact .inl ⟨l, k, v, h1, h2, by omega, h3⟩
  · rintro (⟨l, k, v, h1, h2, c, h3⟩ | h3)
    · exact ⟨l, k, v, h1, h2, by omega, h3⟩
    · refine ⟨sp, kk, w, hk, h, by omega, ?_⟩
      rcases h3 with ⟨rfl, rfl⟩ | ⟨rfl, rfl⟩
      · exact .inl ⟨rfl, rfl⟩
      · exact .inr ⟨rfl, rfl⟩
theorem Cls.iff {m : Nat → Int} {n : Nat} {F G : Nat → Nat → Prop} (h : Cls m n F) (e : ∀ i j, G i j ↔ F i j) : Cls m n G :=
  ⟨fun i j hi hj z => (h.snd i j hi hj z).mono fun u v k => (e u v).mpr k, fun i j z => h.cmp i j ((e i j).mp z)⟩
theorem Cls.zero {ws : List Wd} {W : Wd} {n : Nat} : Cls (fun i => (i : Int)) n (MkF ws W 0 0) :=
  ⟨fun i j _ _ z => by have : i = j := by omega
                       subst this; exact .refl, fun i j z => (MkF.zero z).elim⟩
/-- marks of the first at spots set anew -/
def relabTo (m : Nat → Int) (a b at_ : Nat) : Nat → Int := fun i => if i < at_ ∧ m i = m b then m a else m i
theorem relabTo_zero (m : Nat → Int) (a b : Nat) : relabTo m a b 0 = m := by funext i; unfold relabTo; rw [if_neg (by omega)]
theorem relabTo_a {m : Nat → Int} {a b t : Nat} : relabTo m a b t a = m a := by unfold relabTo; split <;> rfl
theorem relabTo_at {m : Nat → Int} {a b t : Nat} : relabTo m a b t t = m t := by unfold relabTo; rw [if_neg (by omega)]
theorem relabTo_hit {m : Nat → Int} {a b t : Nat} (h : m t = m b) : (fun j => if j = t then m a else relabTo m a b t j) = relabTo m a b (t + 1) := by
  funext j
  unfold relabTo
  by_cases c : j = t
  · subst c; rw [if_pos rfl, if_pos ⟨by omega, h⟩]
  · rw [if_neg c]
    by_cases d : j < t ∧ m j = m b
    · rw [if_pos d, if_pos ⟨by omega, d.2⟩]
    · rw [if_neg d, if_neg (fun z => d ⟨by omega, z.2⟩)]
theorem relabTo_miss {m : Nat → Int} {a b t : Nat} (h : m t ≠ m b) : relabTo m a b (t + 1) = relabTo m a b t := by
  funext j
  unfold relabTo
  by_cases d : j < t ∧ m j = m b
  · rw [if_pos d, if_pos ⟨by omega, d.2⟩]
  · rw [if_neg d, if_neg (fun z => d ⟨by
      rcases Nat.lt_or_ge j t with q | q
      · exact q
      · have : j = t := by omega
        subst this; exact (h z.2).elim, z.2⟩)]
theorem Ms_congr {n : Nat} {m m' : Nat → Int} (h : ∀ i, i < n → m i = m' i) : Ms n m = Ms n m' := by
  unfold Ms
  exact List.map_congr_left fun i hi => by rw [h i (List.mem_range.mp hi)]
end WW

/-! ### rows of texts, compared -/
namespace OQ
open PySem L2 PySem.Spec PyProof.Rows
def Td (ls : List WW.Wd) : List PyData := ls.map fun l => .str (WW.S l)
theorem Td_all {K : PySem.W.Frag} {H : Hp} : ∀ ls : List WW.Wd, DpAll K H (WW.Ss ls) (Td ls)
  | [] => .nil
  | l :: ls => .cons (.str _) (Td_all ls)
theorem Td_lay : ∀ ls : List WW.Wd, (∀ l ∈ ls, WW.Lw l) → PyData.canLayAll0 (Td ls) = true ∧ PyData.depthAll (Td ls) = 0
  | [], _ => ⟨by rw [Td, List.map_nil, PyData.canLayAll0], by rw [Td, List.map_nil, PyData.depthAll]⟩
  | l :: ls, h => by
    obtain ⟨h1, h2⟩ := Td_lay ls fun x m => h x (List.mem_cons_of_mem _ m)
    have hl := h l (List.mem_cons_self ..)
    have e : Td (l :: ls) = .str (WW.S l) :: Td ls := rfl
    rw [e, PyData.canLayAll0, PyData.canLay0, PyData.depthAll, PyData.depth, h1, h2]
    refine ⟨?_, rfl⟩
    rw [Bool.and_true]
    show (WW.S l).cps.all (· < 0x110000) = true
    have : ∀ c ∈ l, c < 0x110000 := fun c m => by have := hl c m; unfold WW.Lt at this; omega
    simpa [WW.S] using this
theorem Td_shaped (ls : List WW.Wd) (h : ∀ l ∈ ls, WW.Lw l) : SeqAt.shaped (.list (Td ls)) = true ∧ SeqAt.shaped (.tuple (Td ls)) = true := by
  obtain ⟨h1, h2⟩ := Td_lay ls h
  constructor <;> (unfold SeqAt.shaped; rw [PyData.canLay0, PyData.depth, h1, h2]; rfl)
theorem Td_eqv : ∀ ls ms : List WW.Wd, PyData.eqvAll (Td ls) (Td ms) = decide (ls = ms)
  | [], [] => by rw [Td, List.map_nil, PyData.eqvAll]; rfl
  | [], m :: ms => by rw [Td, Td, List.map_nil, List.map_cons, PyData.eqvAll]; rfl
  | l :: ls, [] => by rw [Td, Td, List.map_nil, List.map_cons, PyData.eqvAll]; rfl
  | l :: ls, m :: ms => by
    have e1 : Td (l :: ls) = .str (WW.S l) :: Td ls := rfl
    have e2 : Td (m :: ms) = .str (WW.S m) :: Td ms := rfl
    rw [e1, e2, PyData.eqvAll, PyData.eqv, Td_eqv ls ms, Bool.eq_iff_iff]
    simp only [Bool.and_eq_true, beq_iff_eq, decide_eq_true_eq, List.cons.injEq, WW.S_inj]
theorem d_neSs {K : PySem.W.Frag} {H : Hp} {Q : VK} {a b : Addr} {ls ms : List WW.Wd} (ha : SqL K H a (WW.Ss ls)) (hb : SqL K H b (WW.Ss ms)) (la : ∀ l ∈ ls, WW.Lw l) (lb : ∀ l ∈ ms, WW.Lw l) (k : Q (.bl (!decide (ls = ms))) H) : rNeD K (.ref a) (.ref b) H Q :=
  ⟨_, _, .lst ha (Td_all ls), .lst hb (Td_all ms), (Td_shaped ls la).1, (Td_shaped ms lb).1, by rw [PyData.eqv, Td_eqv]; exact k⟩
theorem d_eqSs {K : PySem.W.Frag} {H : Hp} {Q : VK} {a b : Addr} {ls ms : List WW.Wd} (ha : SqL K H a (WW.Ss ls)) (hb : SqL K H b (WW.Ss ms)) (la : ∀ l ∈ ls, WW.Lw l) (lb : ∀ l ∈ ms, WW.Lw l) (k : Q (.bl (decide (ls = ms))) H) : rEqD K (.ref a) (.ref b) H Q :=
  ⟨_, _, .lst ha (Td_all ls), .lst hb (Td_all ms), (Td_shaped ls la).1, (Td_shaped ms lb).1, by rw [PyData.eqv, Td_eqv]; exact k⟩
theorem d_eqSsT {K : PySem.W.Frag} {H : Hp} {Q : VK} {a b : Addr} {ls ms : List WW.Wd} (ha : SqT K H a (WW.Ss ls)) (hb : SqT K H b (WW.Ss ms)) (la : ∀ l ∈ ls, WW.Lw l) (lb : ∀ l ∈ ms, WW.Lw l) (k : Q (.bl (decide (ls = ms))) H) : rEqD K (.ref a) (.ref b) H Q :=
  ⟨_, _, .tup ha (Td_all ls), .tup hb (Td_all ms), (Td_shaped ls la).2, (Td_shaped ms lb).2, by rw [PyData.eqv, Td_eqv]; exact k⟩
theorem d_neSsT {K : PySem.W.Frag} {H : Hp} {Q : VK} {a b : Addr} {ls ms : List WW.Wd} (ha : SqT K H a (WW.Ss ls)) (hb : SqT K H b (WW.Ss ms)) (la : ∀ l ∈ ls, WW.Lw l) (lb : ∀ l ∈ ms, WW.Lw l) (k : Q (.bl (!decide (ls = ms))) H) : rNeD K (.ref a) (.ref b) H Q :=
  ⟨_, _, .tup ha (Td_all ls), .tup hb (Td_all ms), (Td_shaped ls la).2, (Td_shaped ms lb).2, by rw [PyData.eqv, Td_eqv]; exact k⟩
end OQ

/-! ### a piece found in a word -/
namespace WW
open PySem L2
theorem Hit.of_sub {W w : Wd} {i : Nat} : Builtin.Str.subAt (S W) (S w) i = true ↔ Hit W i w := by
  rw [StrLaws.subAt_eq, beq_iff_eq, S_cps, S_cps, S_len]
  unfold Hit piece
  rw [Nat.add_sub_cancel_left]
theorem occ_full (s sub : Str) (hi : Nat) : ∀ (l : List Nat) (a f : Nat), (forIn l (#[a], f) (StrLaws.occBody s sub hi 1)).run.fst = #[a]
  | [], a, f => rfl
  | x :: l, a, f => by
    rw [List.forIn_cons]
    unfold StrLaws.occBody
    rw [if_neg (by intro h; have := h.1.1.1; simp at this)]
    exact occ_full s sub hi l a f
theorem occ_first (s sub : Str) (hi : Nat) : ∀ (n lo free : Nat), free ≤ lo →
    (∃ i, lo ≤ i ∧ i < lo + n ∧ i + sub.length ≤ hi ∧ Builtin.Str.subAt s sub i = true ∧ (∀ j, lo ≤ j → j < i → ¬ (j + sub.length ≤ hi ∧ Builtin.Str.subAt s sub j = true)) ∧ (forIn (List.range' lo n) ((#[] : Array Nat), free) (StrLaws.occBody s sub hi 1)).run.fst = #[i]) ∨
    ((∀ j, lo ≤ j → j < lo + n → ¬ (j + sub.length ≤ hi ∧ Builtin.Str.subAt s sub j = true)) ∧ (forIn (List.range' lo n) ((#[] : Array Nat), free) (StrLaws.occBody s sub hi 1)).run.fst = #[])
  | 0, lo, free, _ => .inr ⟨fun j h1 h2 => by omega, rfl⟩
  | n + 1, lo, free, hf => by
    rw [List.range'_succ, List.forIn_cons]
    by_cases hc : lo + sub.length ≤ hi ∧ Builtin.Str.subAt s sub lo = true
    · refine .inl ⟨lo, Nat.le_refl _, by omega, hc.1, hc.2, fun j h1 h2 => by omega, ?_⟩
      have c1 : (((#[] : Array Nat), free).fst.size < 1 ∧ ((#[] : Array Nat), free).snd ≤ lo) ∧ lo + sub.length ≤ hi := ⟨⟨by simp, hf⟩, hc.1⟩
      have e : StrLaws.occBody s sub hi 1 lo ((#[] : Array Nat), free) = pure (ForInStep.yield (#[lo], lo + sub.length)) := by
        unfold StrLaws.occBody
        rw [if_pos ⟨c1, hc.2⟩]
        rfl
      rw [e]
      exact occ_full s sub hi _ lo _
    · have e : StrLaws.occBody s sub hi 1 lo ((#[] : Array Nat), free) = pure (ForInStep.yield ((#[] : Array Nat), free)) := by
        unfold StrLaws.occBody
        rw [if_neg (fun h => hc ⟨h.1.2, h.2⟩)]
      rw [e]
      rcases occ_first s sub hi n (lo + 1) free (by omega) with ⟨i, h1, h2, h3, h4, h5, h6⟩ | ⟨h1, h2⟩
      · refine .inl ⟨i, by omega, by omega, h3, h4, fun j j1 j2 => ?_, h6⟩
        by_cases c : j = lo
        · subst c; exact hc
        · exact h5 j (by omega) j2
      · refine .inr ⟨fun j j1 j2 => ?_, h2⟩
        by_cases c : j = lo
        · subst c; exact hc
        · exact h1 j (by omega) (by omega)
/-- what a search for w from spot lo on tells: the next spot where it stands, or -1 -/
def Nx (W w : Wd) (lo : Nat) (v : Int) : Prop := (∃ i : Nat, v = i ∧ lo ≤ i ∧ Hit W i w ∧ ∀ j, lo ≤ j → j < i → ¬ Hit W j w) ∨ (v = -1 ∧ ∀ j, lo ≤ j → ¬ Hit W j w)
theorem occ_nx {W w : Wd} {lo : Nat} (n : w ≠ []) : Nx W w lo (match Builtin.Str.occurrences (S W) (S w) lo (S W).length 1 with | i :: _ => (i : Int) | [] => -1) := by
  rw [StrLaws.occ_eq]
  rcases occ_first (S W) (S w) (S W).length ((S W).length + 1 - lo) lo lo (Nat.le_refl _) with ⟨i, h1, h2, h3, h4, h5, h6⟩ | ⟨h1, h2⟩
  · rw [h6]
    refine .inl ⟨i, rfl, h1, Hit.of_sub.mp h4, fun j j1 j2 z => h5 j j1 j2 ⟨?_, Hit.of_sub.mpr z⟩⟩
    rw [S_len, S_len]; exact z.bound n
  · rw [h2]
    refine .inr ⟨rfl, fun j j1 z => ?_⟩
    have b := z.bound n
    have l0 : 0 < w.length := List.length_pos_iff.mpr n
    refine h1 j j1 ?_ ⟨by rw [S_len, S_len]; exact b, Hit.of_sub.mpr z⟩
    rw [S_len]; omega
theorem find_nx {W w : Wd} (n : w ≠ []) : Nx W w 0 (Txt.find (S W) (S w)) := occ_nx n
theorem find3_nx {W w : Wd} {lo : Nat} {i : Int} (n : w ≠ []) (e : i = lo) : Nx W w lo (Txt.find3 (S W) (S w) i) := by
  subst e
  have e : PySem.fromIndex (S W).length (lo : Int) = lo := by
    unfold PySem.fromIndex
    split <;> omega
  have h := occ_nx (W := W) (w := w) (lo := lo) n
  unfold Txt.find3
  rw [e]
  exact h
/-! the links, as they are found piece by piece -/
/-- those found ahead of spot low with the piece kk -/
def LkG (ws : List Wd) (W : Wd) (kk low : Nat) (i j : Nat) : Prop := ∃ l k w, ws[k]? = some w ∧ Hit W l w ∧ (k < kk ∨ (k = kk ∧ l < low)) ∧ ((i = l ∧ j = l + w.length) ∨ (j = l ∧ i = l + w.length))
theorem LkG.zero {ws : List Wd} {W : Wd} {i j : Nat} : ¬ LkG ws W 0 0 i j := by
  rintro ⟨l, k, w, _, _, c, _⟩
  omega
theorem LkG.skip {ws : List Wd} {W w : Wd} {kk lo hi : Nat} (hk : ws[kk]? = some w) (le : lo ≤ hi) (n : ∀ j, lo ≤ j → j < hi → ¬ Hit W j w) (i j : Nat) : LkG ws W kk hi i j ↔ LkG ws W kk lo i j := by
  refine ⟨fun ⟨l, k, v, h1, h2, c, h3⟩ => ⟨l, k, v, h1, h2, ?_, h3⟩, fun ⟨l, k, v, h1, h2, c, h3⟩ => ⟨l, k, v, h1, h2, by omega, h3⟩⟩
  rcases c with c | ⟨rfl, c⟩
  · exact .inl c
  · rw [hk] at h1
    cases h1
    refine .inr ⟨rfl, ?_⟩
    apply Nat.lt_of_not_le
    intro z
    exact n l z c h2
theorem LkG.next {ws : List Wd} {W w : Wd} {kk lo i j : Nat} (hk : ws[kk]? = some w) (n : ∀ j, lo ≤ j → ¬ Hit W j w) : LkG ws W (kk + 1) 0 i j ↔ LkG ws W kk lo i j := by
  refine ⟨fun ⟨l, k, v, h1, h2, c, h3⟩ => ⟨l, k, v, h1, h2, ?_, h3⟩, fun ⟨l, k, v, h1, h2, c, h3⟩ => ⟨l, k, v, h1, h2, by omega, h3⟩⟩
  by_cases e : k = kk
  · subst e
    rw [hk] at h1
    cases h1
    refine .inr ⟨rfl, ?_⟩
    apply Nat.lt_of_not_le
    intro z
    exact n l z h2
  · omega
theorem LkG.all {ws : List Wd} {W : Wd} {i j : Nat} : LkG ws W ws.length 0 i j ↔ Link ws W i j := by
  constructor
  · rintro ⟨l, k, w, h1, h2, c, h3⟩
    refine ⟨w, List.mem_of_getElem? h1, ?_⟩
    rcases h3 with ⟨rfl, e⟩ | ⟨rfl, e⟩
    · exact .inl ⟨h2, e⟩
    · exact .inr ⟨h2, e⟩
  · rintro ⟨w, m, h⟩
    obtain ⟨k, hk⟩ := List.getElem?_of_mem m
    have kl := (List.getElem?_eq_some_iff.mp hk).1
    rcases h with ⟨h, e⟩ | ⟨h, e⟩
    · exact ⟨i, k, w, hk, h, .inl kl, .inl ⟨rfl, e⟩⟩
    · exact ⟨j, k, w, hk, h, .inl kl, .inr ⟨rfl, e⟩⟩
theorem LkG.hit {ws : List Wd} {W : Wd} {low kk : Nat} {w : Wd} (hk : ws[kk]? = some w) (h : Hit W low w) (i j : Nat) : LkG ws W kk (low + 1) i j ↔ addE (LkG ws W kk low) low (low + w.length) i j := by
  constructor
  · rintro ⟨l, k, v, h1, h2, c, h3⟩
    by_cases e : l = low ∧ k = kk
    · obtain ⟨rfl, rfl⟩ := e
      rw [hk] at h1
      cases h1
      rcases h3 with ⟨rfl, rfl⟩ | ⟨rfl, rfl⟩
      · exact .inr (.inl ⟨rfl, rfl⟩)
      · exact .inr (.inr ⟨rfl, rfl⟩)
    · exact .inl ⟨l, k, v, h1, h2, by omega, h3⟩
  · rintro (⟨l, k, v, h1, h2, c, h3⟩ | h3)
    · exact ⟨l, k, v, h1, h2, by omega, h3⟩
    · refine ⟨low, kk, w, hk, h, by omega, ?_⟩
      rcases h3 with ⟨rfl, rfl⟩ | ⟨rfl, rfl⟩
      · exact .inl ⟨rfl, rfl⟩
      · exact .inr ⟨rfl, rfl⟩
theorem LkG.new {ws : List Wd} {W : Wd} {low kk : Nat} {w : Wd} (nd : ws.Nodup) (n : ∀ w ∈ ws, w ≠ []) (hk : ws[kk]? = some w) (h : Hit W low w) : ¬ LkG ws W kk low low (low + w.length) ∧ ¬ LkG ws W kk low (low + w.length) low := by
  have l0 : 0 < w.length := List.length_pos_iff.mpr (n w (List.mem_of_getElem? hk))
  have key : ∀ l k v, ws[k]? = some v → Hit W l v → (k < kk ∨ (k = kk ∧ l < low)) → l = low → v.length = w.length → False := by
    rintro l k v h1 h2 c rfl e
    have e2 : v = w := by
      unfold Hit at h2 h
      rw [← h2, ← h, e]
    subst e2
    have := (List.getElem?_inj (List.getElem?_eq_some_iff.mp h1).1 nd).mp (h1.trans hk.symm)
    omega
  refine ⟨fun ⟨l, k, v, h1, h2, c, h3⟩ => ?_, fun ⟨l, k, v, h1, h2, c, h3⟩ => ?_⟩ <;>
  · have l1 : 0 < v.length := List.length_pos_iff.mpr (n v (List.mem_of_getElem? h1))
    exact key l k v h1 h2 c (by omega) (by omega)
theorem LkG.le {ws : List Wd} {W : Wd} {low kk i j : Nat} (n : ∀ w ∈ ws, w ≠ []) (h : LkG ws W low kk i j) : i ≤ W.length ∧ j ≤ W.length := by
  obtain ⟨l, k, w, h1, h2, c, h3⟩ := h
  have := h2.bound (n w (List.mem_of_getElem? h1))
  omega
/-- rows of links, of pieces that may be alike -/
structure LkJ (rows : Nat → List Nat) (F : Nat → Nat → Prop) (u : Prop) (m : Nat) : Prop where
  mem : ∀ i j, j ∈ rows i ↔ F i j
  nd : u → ∀ i, (rows i).Nodup
  len : ∀ i, (rows i).length ≤ m
theorem push2 (rows : Nat → List Nat) {a b : Nat} (ne : a ≠ b) (i : Nat) : push (push rows a b) b a i = if i = a then rows i ++ [b] else if i = b then rows i ++ [a] else rows i := by
  unfold push
  by_cases c : i = a
  · subst c; rw [if_neg ne, if_pos rfl, if_pos rfl]
  · simp only [if_neg c]
theorem LkJ.add {rows : Nat → List Nat} {F : Nat → Nat → Prop} {u : Prop} {m a b : Nat} (h : LkJ rows F u m) (ne : a ≠ b) (n1 : u → ¬ F a b) (n2 : u → ¬ F b a) : LkJ (push (push rows a b) b a) (addE F a b) u (m + 1) := by
  refine ⟨fun i j => ?_, fun hu => ?_, fun i => ?_⟩
  · rw [push2 rows ne]
    split
    · rename_i c
      subst c
      rw [List.mem_append, h.mem, List.mem_singleton]
      unfold addE
      constructor
      · rintro (z | z)
        · exact .inl z
        · exact .inr (.inl ⟨rfl, z⟩)
      · rintro (z | ⟨_, z⟩ | ⟨_, z⟩)
        · exact .inl z
        · exact .inr z
        · exact (ne z).elim
    · rename_i c
      split
      · rename_i d
        subst d
        rw [List.mem_append, h.mem, List.mem_singleton]
        unfold addE
        constructor
        · rintro (z | z)
          · exact .inl z
          · exact .inr (.inr ⟨z, rfl⟩)
        · rintro (z | ⟨z, _⟩ | ⟨z, _⟩)
          · exact .inl z
          · exact (c z).elim
          · exact .inr z
      · rename_i d
        rw [h.mem]
        unfold addE
        constructor
        · exact .inl
        · rintro (z | ⟨z, _⟩ | ⟨_, z⟩)
          · exact z
          · exact (c z).elim
          · exact (d z).elim
  · exact (LkI.add ⟨h.mem, h.nd hu⟩ ne (n1 hu) (n2 hu)).nd
  · rw [push2 rows ne]
    have := h.len i
    split
    · rw [List.length_append, List.length_singleton]; omega
    · split
      · rw [List.length_append, List.length_singleton]; omega
      · omega
theorem LkJ.iff {rows : Nat → List Nat} {F G : Nat → Nat → Prop} {u : Prop} {m n : Nat} (h : LkJ rows F u m) (e : ∀ i j, G i j ↔ F i j) (le : m ≤ n) : LkJ rows G u n := ⟨fun i j => (h.mem i j).trans (e i j).symm, h.nd, fun i => Nat.le_trans (h.len i) le⟩
theorem LkJ.zero {ws : List Wd} {W : Wd} {u : Prop} : LkJ (fun _ => []) (LkG ws W 0 0) u 0 := ⟨fun i j => ⟨fun z => (nomatch z), fun z => (LkG.zero z).elim⟩, fun _ _ => List.nodup_nil, fun _ => Nat.le_refl _⟩
/-- ints sorted, as numbers, some alike -/
theorem sorted_natsG {r : List Nat} {ns : List Int} (p : ns.Perm (r.map fun (j : Nat) => (j : Int))) (s : ns.Pairwise (· ≤ ·)) : ∃ q : List Nat, ns = q.map (fun (j : Nat) => (j : Int)) ∧ q.Perm r ∧ q.Pairwise (· ≤ ·) := by
  refine ⟨ns.map Int.toNat, ?_, ?_, ?_⟩
  · rw [List.map_map]
    have : ∀ z ∈ ns, ((fun (j : Nat) => (j : Int)) ∘ Int.toNat) z = z := fun z m => by
      obtain ⟨j, _, rfl⟩ := List.mem_map.mp (p.mem_iff.mp m)
      simp
    rw [List.map_congr_left this, List.map_id']
  · have := p.map Int.toNat
    rw [List.map_map] at this
    have e : (Int.toNat ∘ fun (j : Nat) => (j : Int)) = id := by funext x; simp
    rw [e, List.map_id] at this
    exact this
  · rw [List.pairwise_map]
    exact s.imp fun h => by omega
theorem strict_of {q : List Nat} (s : q.Pairwise (· ≤ ·)) (nd : q.Nodup) : q.Pairwise (· < ·) := by
  have := s.and nd
  exact this.imp fun ⟨h1, h2⟩ => by omega
end WW
namespace RD
open PySem L2
theorem tyS {K : PySem.W.Frag} {H : Hp} {z : Str} : tyV K "str" (.str z) H := rfl
def rFind1 : V → List V → Hp → VK → Prop := fun x xs H Q => ∃ a b, x = .str a ∧ xs = [.str b] ∧ Q (.int (Txt.find a b)) H
def rFind2 : V → List V → Hp → VK → Prop := fun x xs H Q => ∃ (a b : Str) (i : Int), x = .str a ∧ xs = [.str b, .int i] ∧ Q (.int (Txt.find3 a b i)) H
theorem m_find1 {X : Cx} : MtR X "str.find" rFind1 := mt_find
theorem m_find2 {X : Cx} : MtR X "str.find" rFind2 := mt_find3
theorem d_find1 {W w : WW.Wd} {H : Hp} {Q : VK} (n : w ≠ []) (h : ∀ v, WW.Nx W w 0 v → Q (.int v) H) : rFind1 (.str (WW.S W)) [.str (WW.S w)] H Q := ⟨_, _, rfl, rfl, h _ (WW.find_nx n)⟩
theorem d_find2 {W w : WW.Wd} {lo : Nat} {i : Int} {H : Hp} {Q : VK} (n : w ≠ []) (e : i = lo) (h : ∀ v, WW.Nx W w lo v → Q (.int v) H) : rFind2 (.str (WW.S W)) [.str (WW.S w), .int i] H Q := ⟨_, _, _, rfl, rfl, h _ (WW.find3_nx n e)⟩
end RD
namespace OQ
open PySem L2
theorem d_seqVar2 {K : PySem.W.Frag} {σ : L2.St} {H0 H : Hp} {R : It → Hp → Prop} {n : Nat} {a : Addr} {xs : List V} (e : σ[n]? = some (some (.ref a))) (h : SeqAt K H0 a xs) (s : Same H0 H)
    (k : ∀ J G, Walk J xs.length G (YAt xs) → (∀ H', Same H0 H' → G H') → R J H) : iOr (iList K (tVar n)) (iTup K (tVar n)) σ H R := by
  rcases h with h | h
  · exact .inl ⟨_, e, a, rfl, ⟨xs, s.seq h⟩, k _ _ walk_list fun H' s => s.seq h⟩
  · exact .inr ⟨_, e, a, rfl, ⟨xs, sqT_same h s⟩, k _ _ walk_tup fun H' s => sqT_same h s⟩
end OQ

local macro_rules | `(tactic| walk_at "txN") => `(tactic| first | assumption | omega | (simp only [List.length_append, List.length_cons, List.length_nil, List.length_drop, List.length_take] at *; omega))
local macro_rules | `(tactic| walk_at "tx1") => `(tactic| first
  | (with_reducible refine RD.d_break ?_)
  | (with_reducible refine RD.d_eqW ?_)
  | (with_reducible refine RD.d_neW ?_)
  | ((with_reducible (refine' RD.d_lenW ?n ?k)); (case n => walk_at "txN"))
  | ((with_reducible (refine' RD.d_addS ?n ?k)); (case n => walk_at "txN")))
local macro_rules | `(tactic| walk_at "tx") => `(tactic| repeat (first | walk_at "tx1" | walk_at "rd1" | walk_at "rd2"))

namespace Toy
open PySem L2
def top (i : Nat) : Stmt := PySem.Challenge.pw_watchedways_k69_needless_watches.main.body.getD i (.Pass ⟨0, 0, 0, 0⟩)
abbrev s_is_row : Stmt := top 9
theorem sc_is_row : FnScope ["thing"] ["thing"] (defScope s_is_row) := ⟨rfl, rfl, rfl, by decide +kernel, rfl, by decide +kernel, by decide +kernel⟩
abbrev s_is_word : Stmt := top 13
theorem sc_is_word : FnScope ["thing"] ["thing"] (defScope s_is_word) := ⟨rfl, rfl, rfl, by decide +kernel, rfl, by decide +kernel, by decide +kernel⟩
abbrev s_is_watch : Stmt := top 14
theorem sc_is_watch : FnScope ["thing"] ["thing"] (defScope s_is_watch) := ⟨rfl, rfl, rfl, by decide +kernel, rfl, by decide +kernel, by decide +kernel⟩
abbrev s_has_letters : Stmt := top 15
theorem sc_has_letters : FnScope ["thing", "most", "letter"] ["thing", "most"] (defScope s_has_letters) := ⟨rfl, rfl, rfl, by decide +kernel, rfl, by decide +kernel, by decide +kernel⟩
abbrev s_check_word : Stmt := top 16
theorem sc_check_word : FnScope ["word"] ["word"] (defScope s_check_word) := ⟨rfl, rfl, rfl, by decide +kernel, rfl, by decide +kernel, by decide +kernel⟩
abbrev s_wrong_watch : Stmt := top 20
theorem sc_wrong_watch : FnScope ["watches", "at", "watch"] ["watches"] (defScope s_wrong_watch) := ⟨rfl, rfl, rfl, by decide +kernel, rfl, by decide +kernel, by decide +kernel⟩
abbrev s_Book__init : Stmt := inClass (top 19) 0
theorem sc_Book__init : FnScope ["self", "watches", "wrong"] ["self", "watches"] (defScope s_Book__init) := ⟨rfl, rfl, rfl, by decide +kernel, rfl, by decide +kernel, by decide +kernel⟩
abbrev s_Book_has : Stmt := inClass (top 19) 2
theorem sc_Book_has : FnScope ["self", "thing"] ["self", "thing"] (defScope s_Book_has) := ⟨rfl, rfl, rfl, by decide +kernel, rfl, by decide +kernel, by decide +kernel⟩
abbrev s_Book_without_watch : Stmt := inClass (top 19) 4
theorem sc_Book_without_watch : FnScope ["self", "watch", "kept"] ["self", "watch"] (defScope s_Book_without_watch) := ⟨rfl, rfl, rfl, by decide +kernel, rfl, by decide +kernel, by decide +kernel⟩
abbrev s_check_book : Stmt := top 21
theorem sc_check_book : FnScope ["book"] ["book"] (defScope s_check_book) := ⟨rfl, rfl, rfl, by decide +kernel, rfl, by decide +kernel, by decide +kernel⟩
abbrev s_check_asked : Stmt := top 22
theorem sc_check_asked : FnScope ["book", "word"] ["book", "word"] (defScope s_check_asked) := ⟨rfl, rfl, rfl, by decide +kernel, rfl, by decide +kernel, by decide +kernel⟩
abbrev s_links_through : Stmt := top 24
theorem sc_links_through : FnScope ["pieces", "word", "links", "_", "piece", "low", "high", "spots"] ["pieces", "word"] (defScope s_links_through) := ⟨rfl, rfl, rfl, by decide +kernel, rfl, by decide +kernel, by decide +kernel⟩
abbrev s_steps_to : Stmt := top 26
theorem sc_steps_to : FnScope ["links", "goal", "steps", "ring", "farther", "spot", "mate"] ["links", "goal"] (defScope s_steps_to) := ⟨rfl, rfl, rfl, by decide +kernel, rfl, by decide +kernel, by decide +kernel⟩
abbrev s_leads_through : Stmt := top 25
theorem sc_leads_through : FnScope ["pieces", "word"] ["pieces", "word"] (defScope s_leads_through) := ⟨rfl, rfl, rfl, by decide +kernel, rfl, by decide +kernel, by decide +kernel⟩
abbrev s_is_told : Stmt := top 28
theorem sc_is_told : FnScope ["book", "word"] ["book", "word"] (defScope s_is_told) := ⟨rfl, rfl, rfl, by decide +kernel, rfl, by decide +kernel, by decide +kernel⟩
abbrev s_tells : Stmt := top 31
theorem sc_tells : FnScope ["book", "words", "word"] ["book", "words"] (defScope s_tells) := ⟨rfl, rfl, rfl, by decide +kernel, rfl, by decide +kernel, by decide +kernel⟩
abbrev s_check_words : Stmt := top 32
theorem sc_check_words : FnScope ["words", "at", "word"] ["words"] (defScope s_check_words) := ⟨rfl, rfl, rfl, by decide +kernel, rfl, by decide +kernel, by decide +kernel⟩
abbrev s_tells_book : Stmt := top 33
theorem sc_tells_book : FnScope ["one", "other", "watch"] ["one", "other"] (defScope s_tells_book) := ⟨rfl, rfl, rfl, by decide +kernel, rfl, by decide +kernel, by decide +kernel⟩
abbrev s_needless : Stmt := top 34
theorem sc_needless : FnScope ["book", "watch"] ["book"] (defScope s_needless) := ⟨rfl, rfl, rfl, by decide +kernel, rfl, by decide +kernel, by decide +kernel⟩
abbrev s_law_flag : Stmt := top 36
theorem sc_law_flag : FnScope ["told", "due"] ["told", "due"] (defScope s_law_flag) := ⟨rfl, rfl, rfl, by decide +kernel, rfl, by decide +kernel, by decide +kernel⟩
abbrev s_law_tape : Stmt := top 37
theorem sc_law_tape : FnScope ["script"] ["script"] (defScope s_law_tape) := ⟨rfl, rfl, rfl, by decide +kernel, rfl, by decide +kernel, by decide +kernel⟩
abbrev s_law_pick : Stmt := top 38
theorem sc_law_pick : FnScope ["tape", "size", "digit", "cell", "mixed"] ["tape", "size"] (defScope s_law_pick) := ⟨rfl, rfl, rfl, by decide +kernel, rfl, by decide +kernel, by decide +kernel⟩
abbrev s_law_letters : Stmt := top 39
theorem sc_law_letters : FnScope ["tape", "letters", "start", "step", "found", "k"] ["tape"] (defScope s_law_letters) := ⟨rfl, rfl, rfl, by decide +kernel, rfl, by decide +kernel, by decide +kernel⟩
abbrev s_law_word : Stmt := top 40
theorem sc_law_word : FnScope ["tape", "letters", "least", "most", "word", "k"] ["tape", "letters", "least", "most"] (defScope s_law_word) := ⟨rfl, rfl, rfl, by decide +kernel, rfl, by decide +kernel, by decide +kernel⟩
abbrev s_law_piece : Stmt := top 41
theorem sc_law_piece : FnScope ["tape", "word", "start", "size"] ["tape", "word"] (defScope s_law_piece) := ⟨rfl, rfl, rfl, by decide +kernel, rfl, by decide +kernel, by decide +kernel⟩
abbrev s_law_pathed : Stmt := top 42
theorem sc_law_pathed : FnScope ["tape", "word", "watches", "spot", "k", "other", "watch"] ["tape", "word"] (defScope s_law_pathed) := ⟨rfl, rfl, rfl, by decide +kernel, rfl, by decide +kernel, by decide +kernel⟩
abbrev s_law_watches : Stmt := top 43
theorem sc_law_watches : FnScope ["tape", "word", "letters", "most", "kind", "watches", "k", "watch"] ["tape", "word", "letters", "most"] (defScope s_law_watches) := ⟨rfl, rfl, rfl, by decide +kernel, rfl, by decide +kernel, by decide +kernel⟩
abbrev s_law_marks : Stmt := top 44
theorem sc_law_marks : FnScope ["watches", "word", "marks", "watch", "spot", "old", "at"] ["watches", "word"] (defScope s_law_marks) := ⟨rfl, rfl, rfl, by decide +kernel, rfl, by decide +kernel, by decide +kernel⟩
abbrev s_law_told : Stmt := top 45
theorem sc_law_told : FnScope ["watches", "word", "marks"] ["watches", "word"] (defScope s_law_told) := ⟨rfl, rfl, rfl, by decide +kernel, rfl, by decide +kernel, by decide +kernel⟩
abbrev s_law_told_all : Stmt := top 46
theorem sc_law_told_all : FnScope ["watches", "words", "word"] ["watches", "words"] (defScope s_law_told_all) := ⟨rfl, rfl, rfl, by decide +kernel, rfl, by decide +kernel, by decide +kernel⟩
abbrev s_law : Stmt := top 47
theorem sc_law : FnScope ["script", "tape", "letters", "word", "watches", "k", "one", "other", "made", "more", "due", "watch", "book", "told", "less"] ["script"] (defScope s_law) := ⟨rfl, rfl, rfl, by decide +kernel, rfl, by decide +kernel, by decide +kernel⟩
structure Top (K : PySem.W.Frag) (mg : Str → Option Value) where
  C_Book : Addr
  cl_Book : Cls K C_Book
  g_Book : mg "Book" = some (.ref C_Book)
  na_Book_watches : NoAttr K C_Book "watches"
  f_is_row : Addr
  fd_is_row : FuncData
  F_is_row : Fun K "is_row" "is_row" s_is_row f_is_row fd_is_row
  b_is_row : Binds K fd_is_row ["thing"] []
  g_is_row : mg "is_row" = some (.ref f_is_row)
  f_is_word : Addr
  fd_is_word : FuncData
  F_is_word : Fun K "is_word" "is_word" s_is_word f_is_word fd_is_word
  b_is_word : Binds K fd_is_word ["thing"] []
  g_is_word : mg "is_word" = some (.ref f_is_word)
  f_is_watch : Addr
  fd_is_watch : FuncData
  F_is_watch : Fun K "is_watch" "is_watch" s_is_watch f_is_watch fd_is_watch
  b_is_watch : Binds K fd_is_watch ["thing"] []
  g_is_watch : mg "is_watch" = some (.ref f_is_watch)
  f_has_letters : Addr
  fd_has_letters : FuncData
  F_has_letters : Fun K "has_letters" "has_letters" s_has_letters f_has_letters fd_has_letters
  b_has_letters : Binds K fd_has_letters ["thing", "most"] []
  g_has_letters : mg "has_letters" = some (.ref f_has_letters)
  f_check_word : Addr
  fd_check_word : FuncData
  F_check_word : Fun K "check_word" "check_word" s_check_word f_check_word fd_check_word
  b_check_word : Binds K fd_check_word ["word"] []
  g_check_word : mg "check_word" = some (.ref f_check_word)
  f_wrong_watch : Addr
  fd_wrong_watch : FuncData
  F_wrong_watch : Fun K "wrong_watch" "wrong_watch" s_wrong_watch f_wrong_watch fd_wrong_watch
  b_wrong_watch : Binds K fd_wrong_watch ["watches"] []
  g_wrong_watch : mg "wrong_watch" = some (.ref f_wrong_watch)
  f_Book__init : Addr
  fd_Book__init : FuncData
  F_Book__init : Fun K "__init__" "Book.__init__" s_Book__init f_Book__init fd_Book__init
  b_Book__init : Binds K fd_Book__init ["self", "watches"] []
  M_Book : Mk K C_Book f_Book__init
  f_Book_has : Addr
  fd_Book_has : FuncData
  F_Book_has : Fun K "has" "Book.has" s_Book_has f_Book_has fd_Book_has
  b_Book_has : Binds K fd_Book_has ["self", "thing"] []
  m_Book_has : Meth K C_Book "has" f_Book_has
  f_Book_without_watch : Addr
  fd_Book_without_watch : FuncData
  F_Book_without_watch : Fun K "without_watch" "Book.without_watch" s_Book_without_watch f_Book_without_watch fd_Book_without_watch
  b_Book_without_watch : Binds K fd_Book_without_watch ["self", "watch"] []
  m_Book_without_watch : Meth K C_Book "without_watch" f_Book_without_watch
  f_check_book : Addr
  fd_check_book : FuncData
  F_check_book : Fun K "check_book" "check_book" s_check_book f_check_book fd_check_book
  b_check_book : Binds K fd_check_book ["book"] []
  g_check_book : mg "check_book" = some (.ref f_check_book)
  f_check_asked : Addr
  fd_check_asked : FuncData
  F_check_asked : Fun K "check_asked" "check_asked" s_check_asked f_check_asked fd_check_asked
  b_check_asked : Binds K fd_check_asked ["book", "word"] []
  g_check_asked : mg "check_asked" = some (.ref f_check_asked)
  f_links_through : Addr
  fd_links_through : FuncData
  F_links_through : Fun K "links_through" "links_through" s_links_through f_links_through fd_links_through
  b_links_through : Binds K fd_links_through ["pieces", "word"] []
  g_links_through : mg "links_through" = some (.ref f_links_through)
  f_steps_to : Addr
  fd_steps_to : FuncData
  F_steps_to : Fun K "steps_to" "steps_to" s_steps_to f_steps_to fd_steps_to
  b_steps_to : Binds K fd_steps_to ["links", "goal"] []
  g_steps_to : mg "steps_to" = some (.ref f_steps_to)
  f_leads_through : Addr
  fd_leads_through : FuncData
  F_leads_through : Fun K "leads_through" "leads_through" s_leads_through f_leads_through fd_leads_through
  b_leads_through : Binds K fd_leads_through ["pieces", "word"] []
  g_leads_through : mg "leads_through" = some (.ref f_leads_through)
  f_is_told : Addr
  fd_is_told : FuncData
  F_is_told : Fun K "is_told" "is_told" s_is_told f_is_told fd_is_told
  b_is_told : Binds K fd_is_told ["book", "word"] []
  g_is_told : mg "is_told" = some (.ref f_is_told)
  f_tells : Addr
  fd_tells : FuncData
  F_tells : Fun K "tells" "tells" s_tells f_tells fd_tells
  b_tells : Binds K fd_tells ["book", "words"] []
  g_tells : mg "tells" = some (.ref f_tells)
  f_check_words : Addr
  fd_check_words : FuncData
  F_check_words : Fun K "check_words" "check_words" s_check_words f_check_words fd_check_words
  b_check_words : Binds K fd_check_words ["words"] []
  g_check_words : mg "check_words" = some (.ref f_check_words)
  f_tells_book : Addr
  fd_tells_book : FuncData
  F_tells_book : Fun K "tells_book" "tells_book" s_tells_book f_tells_book fd_tells_book
  b_tells_book : Binds K fd_tells_book ["one", "other"] []
  g_tells_book : mg "tells_book" = some (.ref f_tells_book)
  f_needless : Addr
  fd_needless : FuncData
  F_needless : Fun K "needless" "needless" s_needless f_needless fd_needless
  b_needless : Binds K fd_needless ["book"] []
  g_needless : mg "needless" = some (.ref f_needless)
  f_law_flag : Addr
  fd_law_flag : FuncData
  F_law_flag : Fun K "_law_flag" "_law_flag" s_law_flag f_law_flag fd_law_flag
  b_law_flag : Binds K fd_law_flag ["told", "due"] []
  g_law_flag : mg "_law_flag" = some (.ref f_law_flag)
  f_law_tape : Addr
  fd_law_tape : FuncData
  F_law_tape : Fun K "_law_tape" "_law_tape" s_law_tape f_law_tape fd_law_tape
  b_law_tape : Binds K fd_law_tape ["script"] []
  g_law_tape : mg "_law_tape" = some (.ref f_law_tape)
  f_law_pick : Addr
  fd_law_pick : FuncData
  F_law_pick : Fun K "_law_pick" "_law_pick" s_law_pick f_law_pick fd_law_pick
  b_law_pick : Binds K fd_law_pick ["tape", "size"] []
  g_law_pick : mg "_law_pick" = some (.ref f_law_pick)
  f_law_letters : Addr
  fd_law_letters : FuncData
  F_law_letters : Fun K "_law_letters" "_law_letters" s_law_letters f_law_letters fd_law_letters
  b_law_letters : Binds K fd_law_letters ["tape"] []
  g_law_letters : mg "_law_letters" = some (.ref f_law_letters)
  f_law_word : Addr
  fd_law_word : FuncData
  F_law_word : Fun K "_law_word" "_law_word" s_law_word f_law_word fd_law_word
  b_law_word : Binds K fd_law_word ["tape", "letters", "least", "most"] []
  g_law_word : mg "_law_word" = some (.ref f_law_word)
  f_law_piece : Addr
  fd_law_piece : FuncData
  F_law_piece : Fun K "_law_piece" "_law_piece" s_law_piece f_law_piece fd_law_piece
  b_law_piece : Binds K fd_law_piece ["tape", "word"] []
  g_law_piece : mg "_law_piece" = some (.ref f_law_piece)
  f_law_pathed : Addr
  fd_law_pathed : FuncData
  F_law_pathed : Fun K "_law_pathed" "_law_pathed" s_law_pathed f_law_pathed fd_law_pathed
  b_law_pathed : Binds K fd_law_pathed ["tape", "word"] []
  g_law_pathed : mg "_law_pathed" = some (.ref f_law_pathed)
  f_law_watches : Addr
  fd_law_watches : FuncData
  F_law_watches : Fun K "_law_watches" "_law_watches" s_law_watches f_law_watches fd_law_watches
  b_law_watches : Binds K fd_law_watches ["tape", "word", "letters", "most"] []
  g_law_watches : mg "_law_watches" = some (.ref f_law_watches)
  f_law_marks : Addr
  fd_law_marks : FuncData
  F_law_marks : Fun K "_law_marks" "_law_marks" s_law_marks f_law_marks fd_law_marks
  b_law_marks : Binds K fd_law_marks ["watches", "word"] []
  g_law_marks : mg "_law_marks" = some (.ref f_law_marks)
  f_law_told : Addr
  fd_law_told : FuncData
  F_law_told : Fun K "_law_told" "_law_told" s_law_told f_law_told fd_law_told
  b_law_told : Binds K fd_law_told ["watches", "word"] []
  g_law_told : mg "_law_told" = some (.ref f_law_told)
  f_law_told_all : Addr
  fd_law_told_all : FuncData
  F_law_told_all : Fun K "_law_told_all" "_law_told_all" s_law_told_all f_law_told_all fd_law_told_all
  b_law_told_all : Binds K fd_law_told_all ["watches", "words"] []
  g_law_told_all : mg "_law_told_all" = some (.ref f_law_told_all)
  f_law : Addr
  fd_law : FuncData
  F_law : Fun K "law" "law" s_law f_law fd_law
  b_law : Binds K fd_law ["script"] []
  g_law : mg "law" = some (.ref f_law)
  n_isinstance : mg "isinstance" = none
  n_list : mg "list" = none
  n_tuple : mg "tuple" = none
  n_str : mg "str" = none
  n_len : mg "len" = none
  n_all : mg "all" = none
  n_enumerate : mg "enumerate" = none
  n_range : mg "range" = none
  n_sorted : mg "sorted" = none
  n_int : mg "int" = none
  n_min : mg "min" = none
  n_max : mg "max" = none
  n_bool : mg "bool" = none
  k_MOST_LETTERS : PySem.Tok
  g_MOST_LETTERS : mg "MOST_LETTERS" = some (.int 40 k_MOST_LETTERS)
  k_MOST_WATCH_LETTERS : PySem.Tok
  g_MOST_WATCH_LETTERS : mg "MOST_WATCH_LETTERS" = some (.int 12 k_MOST_WATCH_LETTERS)
  k_MOST_WATCHES : PySem.Tok
  g_MOST_WATCHES : mg "MOST_WATCHES" = some (.int 12 k_MOST_WATCHES)
  k_MOST_WORDS : PySem.Tok
  g_MOST_WORDS : mg "MOST_WORDS" = some (.int 20 k_MOST_WORDS)
  hnO : PySem.W.specialIn K (.builtin "object.__class__") "__get__" = some (some (.builtin "getset_descriptor.__get__"))
  htO : PySem.W.takesIn K (.builtin "object.__class__") = some true
  ha_Book : PySem.W.findIn K (.ref C_Book) "__class__" = some (some (.builtin "object.__class__"))
  hm_Book : PySem.W.mroIn K C_Book (.type "object") = some true
  kBB : PySem.W.kitOne K (.ref C_Book) (.ref C_Book) = some true
/-! ### the head -/
def faH0 : List He.Fa := [.glo "Book", .glo "is_row", .glo "is_word", .glo "is_watch", .glo "has_letters", .glo "check_word", .glo "wrong_watch", .glo "check_book", .glo "check_asked", .glo "links_through", .glo "steps_to", .glo "leads_through", .glo "is_told", .glo "tells", .glo "check_words", .glo "tells_book", .glo "needless", .glo "_law_flag", .glo "_law_tape", .glo "_law_pick", .glo "_law_letters", .glo "_law_word", .glo "_law_piece", .glo "_law_pathed", .glo "_law_watches", .glo "_law_marks", .glo "_law_told", .glo "_law_told_all", .glo "law", .free "isinstance"]
def faH1 : List He.Fa := [.free "list", .free "tuple", .free "str", .free "len", .free "all", .free "enumerate", .free "range", .free "sorted", .free "int", .free "min", .free "max", .free "bool", .int "MOST_LETTERS" 40, .int "MOST_WATCH_LETTERS" 12, .int "MOST_WATCHES" 12, .int "MOST_WORDS" 20, .cls "Book", .noat "Book" "watches", .meth "Book" "has", .meth "Book" "without_watch", .mkr "Book"]
def faH : List He.Fa := faH0 ++ faH1
def dH_is_row : He.DefD := ⟨("is_row", none), "is_row", "is_row", defArgs s_is_row, defBody s_is_row, defScope s_is_row, [], []⟩
def dH_is_word : He.DefD := ⟨("is_word", none), "is_word", "is_word", defArgs s_is_word, defBody s_is_word, defScope s_is_word, [], []⟩
def dH_is_watch : He.DefD := ⟨("is_watch", none), "is_watch", "is_watch", defArgs s_is_watch, defBody s_is_watch, defScope s_is_watch, [], []⟩
def dH_has_letters : He.DefD := ⟨("has_letters", none), "has_letters", "has_letters", defArgs s_has_letters, defBody s_has_letters, defScope s_has_letters, [], []⟩
def dH_check_word : He.DefD := ⟨("check_word", none), "check_word", "check_word", defArgs s_check_word, defBody s_check_word, defScope s_check_word, [], []⟩
def dH_wrong_watch : He.DefD := ⟨("wrong_watch", none), "wrong_watch", "wrong_watch", defArgs s_wrong_watch, defBody s_wrong_watch, defScope s_wrong_watch, [], []⟩
def dH_Book__init : He.DefD := ⟨("Book", some "__init__"), "__init__", "Book.__init__", defArgs s_Book__init, defBody s_Book__init, defScope s_Book__init, [], []⟩
def dH_Book_has : He.DefD := ⟨("Book", some "has"), "has", "Book.has", defArgs s_Book_has, defBody s_Book_has, defScope s_Book_has, [], []⟩
def dH_Book_without_watch : He.DefD := ⟨("Book", some "without_watch"), "without_watch", "Book.without_watch", defArgs s_Book_without_watch, defBody s_Book_without_watch, defScope s_Book_without_watch, [], []⟩
def dH_check_book : He.DefD := ⟨("check_book", none), "check_book", "check_book", defArgs s_check_book, defBody s_check_book, defScope s_check_book, [], []⟩
def dH_check_asked : He.DefD := ⟨("check_asked", none), "check_asked", "check_asked", defArgs s_check_asked, defBody s_check_asked, defScope s_check_asked, [], []⟩
def dH_links_through : He.DefD := ⟨("links_through", none), "links_through", "links_through", defArgs s_links_through, defBody s_links_through, defScope s_links_through, [], []⟩
def dH_steps_to : He.DefD := ⟨("steps_to", none), "steps_to", "steps_to", defArgs s_steps_to, defBody s_steps_to, defScope s_steps_to, [], []⟩
def dH_leads_through : He.DefD := ⟨("leads_through", none), "leads_through", "leads_through", defArgs s_leads_through, defBody s_leads_through, defScope s_leads_through, [], []⟩
def dH_is_told : He.DefD := ⟨("is_told", none), "is_told", "is_told", defArgs s_is_told, defBody s_is_told, defScope s_is_told, [], []⟩
def dH_tells : He.DefD := ⟨("tells", none), "tells", "tells", defArgs s_tells, defBody s_tells, defScope s_tells, [], []⟩
def dH_check_words : He.DefD := ⟨("check_words", none), "check_words", "check_words", defArgs s_check_words, defBody s_check_words, defScope s_check_words, [], []⟩
def dH_tells_book : He.DefD := ⟨("tells_book", none), "tells_book", "tells_book", defArgs s_tells_book, defBody s_tells_book, defScope s_tells_book, [], []⟩
def dH_needless : He.DefD := ⟨("needless", none), "needless", "needless", defArgs s_needless, defBody s_needless, defScope s_needless, [], []⟩
def dH_law_flag : He.DefD := ⟨("_law_flag", none), "_law_flag", "_law_flag", defArgs s_law_flag, defBody s_law_flag, defScope s_law_flag, [], []⟩
def dH_law_tape : He.DefD := ⟨("_law_tape", none), "_law_tape", "_law_tape", defArgs s_law_tape, defBody s_law_tape, defScope s_law_tape, [], []⟩
def dH_law_pick : He.DefD := ⟨("_law_pick", none), "_law_pick", "_law_pick", defArgs s_law_pick, defBody s_law_pick, defScope s_law_pick, [], []⟩
def dH_law_letters : He.DefD := ⟨("_law_letters", none), "_law_letters", "_law_letters", defArgs s_law_letters, defBody s_law_letters, defScope s_law_letters, [], []⟩
def dH_law_word : He.DefD := ⟨("_law_word", none), "_law_word", "_law_word", defArgs s_law_word, defBody s_law_word, defScope s_law_word, [], []⟩
def dH_law_piece : He.DefD := ⟨("_law_piece", none), "_law_piece", "_law_piece", defArgs s_law_piece, defBody s_law_piece, defScope s_law_piece, [], []⟩
def dH_law_pathed : He.DefD := ⟨("_law_pathed", none), "_law_pathed", "_law_pathed", defArgs s_law_pathed, defBody s_law_pathed, defScope s_law_pathed, [], []⟩
def dH_law_watches : He.DefD := ⟨("_law_watches", none), "_law_watches", "_law_watches", defArgs s_law_watches, defBody s_law_watches, defScope s_law_watches, [], []⟩
def dH_law_marks : He.DefD := ⟨("_law_marks", none), "_law_marks", "_law_marks", defArgs s_law_marks, defBody s_law_marks, defScope s_law_marks, [], []⟩
def dH_law_told : He.DefD := ⟨("_law_told", none), "_law_told", "_law_told", defArgs s_law_told, defBody s_law_told, defScope s_law_told, [], []⟩
def dH_law_told_all : He.DefD := ⟨("_law_told_all", none), "_law_told_all", "_law_told_all", defArgs s_law_told_all, defBody s_law_told_all, defScope s_law_told_all, [], []⟩
def dH_law : He.DefD := ⟨("law", none), "law", "law", defArgs s_law, defBody s_law, defScope s_law, [], []⟩
def fnH0 : List He.DefD := [dH_is_row, dH_is_word, dH_is_watch, dH_has_letters, dH_check_word, dH_wrong_watch, dH_Book__init, dH_Book_has, dH_Book_without_watch, dH_check_book, dH_check_asked, dH_links_through, dH_steps_to, dH_leads_through, dH_is_told, dH_tells, dH_check_words, dH_tells_book, dH_needless, dH_law_flag, dH_law_tape, dH_law_pick, dH_law_letters, dH_law_word, dH_law_piece]
def fnH1 : List He.DefD := [dH_law_pathed, dH_law_watches, dH_law_marks, dH_law_told, dH_law_told_all, dH_law]
def fnH : List He.DefD := fnH0 ++ fnH1
def x_hnO (K : PySem.W.Frag) : Bool := OQ.isB (PySem.W.specialIn K (.builtin "object.__class__") "__get__") (some (.builtin "getset_descriptor.__get__"))
def x_htO (K : PySem.W.Frag) : Bool := decide (PySem.W.takesIn K (.builtin "object.__class__") = some true)
def x_haBook (K : PySem.W.Frag) : Bool := OQ.isB (PySem.W.findIn K (.ref (He.ga K "Book")) "__class__") (some (.builtin "object.__class__"))
def x_hmBook (K : PySem.W.Frag) : Bool := decide (PySem.W.mroIn K (He.ga K "Book") (.type "object") = some true)
def exH (K : PySem.W.Frag) : Bool := x_hnO K && (x_htO K && (x_haBook K && (x_hmBook K)))
abbrev hk : PySem.W.Hook := OQ.hookB 5 faH fnH exH
def ob : PySem.W.SharedT → He.AlD × Bool := OQ.obB 5 faH fnH exH

/-! ### the run -/
def looseH0 : List Str := ["_wall", "WayError", "BadWord", "BadWatch", "BadWatches", "BadBook", "BadWords", "is_row", "MOST_LETTERS", "MOST_WATCH_LETTERS", "is_word", "is_watch", "has_letters", "check_word", "MOST_WATCHES", "Book", "wrong_watch", "check_book", "check_asked", "links_through", "leads_through", "steps_to", "is_told", "MOST_WORDS", "tells", "check_words", "tells_book", "needless", "_law_flag", "_law_tape"]
def looseH1 : List Str := ["_law_pick", "_law_letters", "_law_word", "_law_piece", "_law_pathed", "_law_watches", "_law_marks", "_law_told", "_law_told_all"]
def looseH : List Str := looseH0 ++ looseH1
abbrev Rw : PySem.W.OpenRow := PySem.W.OpenLaw.row PySem.Challenge.rw_watchedways_k69_needless_watches
set_option maxHeartbeats 0 in
theorem run (w : World) : HandSHeadRun.RunEq Rw (PySem.W.view Rw.prog [47]) hk ob 30000 looseH w := by
  intro os
  kernel_rfl

/-! ### kinds stay -/
theorem tyX_same {K : PySem.W.Frag} {H H' : Hp} {x : V} {t : Value} (h : TyX K H x t) (s : Same H H') : TyX K H' x t := by
  cases h with
  | base b =>
    refine .base ?_
    cases b with
    | non => exact .non
    | bl x => exact .bl x
    | int i => exact .int i
    | str x => exact .str x
    | flt x => exact .flt x
    | lst e => exact .lst (s _ _ e)
    | frz e => exact .frz (s _ _ e)
    | tup e => exact .tup (s _ _ e)
    | dK e => exact .dK (s _ _ e)
    | dT e => exact .dT (s _ _ e)
    | ins e cl a n k m => exact .ins (s _ _ e) cl a n k m
  | byt b => exact .byt b
  | set e => exact .set (s _ _ e)
  | kList e c => exact .kList e c
  | kTuple e c => exact .kTuple e c
  | kDict e c => exact .kDict e c
  | fTuple e => exact .fTuple (s _ _ e)
  | fDict e => exact .fDict (s _ _ e)

/-! ### the tape of a script (55 laws) -/
def TapeAt (H : Hp) (h c : Addr) : Prop := ∃ (cs : List Int) (p q m n : Int), H h = some (.lst [.ref c, .int p, .int q, .int m, .int n]) ∧ H c = some (.lst (cs.map V.int)) ∧ c ≠ h ∧ 0 ≤ p
/-- all but what stands at h is as it was -/
def But (h : Addr) (H H' : Hp) : Prop := ∀ b, b ≠ h → H' b = H b
def spPick : Sp := fun vs H Q _ => ∃ (h c : Addr) (size : Int), vs = [.ref h, .int size] ∧ TapeAt H h c ∧ 0 < size ∧ size.natAbs.log2 < 9000 ∧
  ∀ (r : Int) (H' : Hp), 0 ≤ r → r < size → TapeAt H' h c → But h H H' → Q (.int r) H'
def spTape (K : PySem.W.Frag) : Sp := fun vs H Q _ => ∃ (a : Addr) (ns : List Int), vs = [.ref a] ∧ SqL K H a (ns.map V.int) ∧
  ∀ (h c : Addr) (H' : Hp), TapeAt H' h c → Same H H' → H h = none → H c = none → Q (.ref h) H'
theorem upd_upd {H : Hp} {p : Addr} {o u : HO} : upd (upd H p o) p u = upd H p u := by
  funext b
  by_cases e : b = p
  · subst e; rw [upd_same, upd_same]
  · rw [upd_ne e, upd_ne e, upd_ne e]
theorem upd_id {H : Hp} {p : Addr} {o : HO} (e : H p = some o) : upd H p o = H := by
  funext b
  by_cases h : b = p
  · subst h; rw [upd_same, e]
  · rw [upd_ne h]
theorem same_upd {H : Hp} {p : Addr} {o : HO} (h : H p = none) : Same H (upd H p o) := fun b u e => by
  rw [upd_ne (ne_of_none e h)]; exact e
section
variable {P : Program} {w : World} {K : PySem.W.Frag} {mg : Str → Option Value} {base : Heap}
theorem ok_law_tape (T : Top K mg) : FnOk P w K mg base CX0 1 T.f_law_tape T.fd_law_tape ["script"] (spTape K) := by
  refine T.F_law_tape.ok sc_law_tape (fun vs H Q E h => ?_) (fun cdv A outer s H vs Q E hr h => ?_)
  · obtain ⟨a, ns, rfl, _⟩ := h; rfl
  · obtain ⟨a, ns, rfl, hS, k⟩ := h
    refine ⟨_, (pss_one (ps_ret (pe_lst (pa_cons (pe_callTy call_list_of (by rfl) T.n_list (by decide +kernel) (pa_cons (pv 0) pa_nil)) (pa_cons pe_int (pa_cons pe_int (pa_cons pe_int (pa_cons pe_int pa_nil)))))))), ?_⟩
    walk_at "rd"
    refine ⟨a, ns.map V.int, rfl, .inl hS, fun c hc => ?_⟩
    walk_at "rd"
    refine ⟨by show 5 ≤ sizeLine; decide, fun h hh => ?_⟩
    have nh : h ≠ c := fun z => by rw [z, upd_same] at hh; cases hh
    have hh' : H h = none := by rw [upd_ne nh] at hh; exact hh
    exact k h c _ ⟨ns, 0, 0, 1, 0, upd_same, by rw [upd_ne (Ne.symm nh)]; exact upd_same, Ne.symm nh, Int.le_refl _⟩ (fun b u e => same_upd hh _ _ (same_upd hc _ _ e)) hh' hc
theorem ok_law_pick (T : Top K mg) : FnOk P w K mg base CX0 1 T.f_law_pick T.fd_law_pick ["tape", "size"] spPick := by
  refine T.F_law_pick.ok sc_law_pick (fun vs H Q E h => ?_) (fun cdv A outer s H vs Q E hr h => ?_)
  · obtain ⟨h, c, size, rfl, _⟩ := h; rfl
  · obtain ⟨h, c, size, rfl, ⟨cs, p, q, m, n, e1, e2, ne, hp⟩, m0, ml, k⟩ := h
    refine ⟨_, (pss_cons (ps_if (pt_cmpR op_gt (pe_ix ix_list (pv 0) pe_int (fun _ _ => rfl)) pe_int (nomark _))
 (pss_cons (ps_set (i := 2) sc_law_pick.nd rfl (Or.inl rfl) (pe_op op_mod (pe_callTy RD.c_int (by rfl) T.n_int (by decide +kernel) (pa_cons (pe_ix ix_list (pv 0) pe_int (fun _ _ => rfl)) pa_nil)) (pv 1)))
 (pss_cons (ps_asg (pe_op op_fdivW (pe_ix ix_list (pv 0) pe_int (fun _ _ => rfl)) (pv 1)) (pg_sub (pv 0) pe_int set_list))
 (pss_one (ps_ret (pv 2)))))
 pss_nil)
 (pss_cons (ps_asg (pe_op op_add (pe_ix ix_list (pv 0) pe_int (fun _ _ => rfl)) pe_int) (pg_sub (pv 0) pe_int set_list))
 (pss_cons (ps_set (i := 3) sc_law_pick.nd rfl (Or.inl rfl) pe_int)
 (C8.pss_cut (ps_if (pt_cmpR op_lt (pe_ix ix_list (pv 0) pe_int (fun _ _ => rfl)) (pe_callB RD.c_len (by rfl) T.n_len (by decide +kernel) (pa_cons (pe_ix ix_list (pv 0) pe_int (fun _ _ => rfl)) pa_nil)) (nomark _))
 (pss_cons (ps_set (i := 3) sc_law_pick.nd rfl (Or.inl rfl) (pe_ix ix_list (pe_ix ix_list (pv 0) pe_int (fun _ _ => rfl)) (pe_ix ix_list (pv 0) pe_int (fun _ _ => rfl)) (fun _ _ => rfl)))
 (pss_one (ps_asg (pe_op op_add (pe_ix ix_list (pv 0) pe_int (fun _ _ => rfl)) pe_int) (pg_sub (pv 0) pe_int set_list))))
 pss_nil)
 (pss_cons (ps_if (pt_cmpR op_ge (pv 3) (pe_op op_pow pe_int pe_int) (nomark _))
 (pss_cons (ps_asg (pe_op op_fdivW (pv 3) (pv 1)) (pg_sub (pv 0) pe_int set_list))
 (pss_one (ps_ret (pe_op op_mod (pe_callTy RD.c_int (by rfl) T.n_int (by decide +kernel) (pa_cons (pv 3) pa_nil)) (pv 1)))))
 pss_nil)
 (pss_cons (ps_set (i := 4) sc_law_pick.nd rfl (Or.inl rfl) (pe_op op_mod (pe_callTy RD.c_int (by rfl) T.n_int (by decide +kernel) (pa_cons (pe_op op_add (pe_op op_add (pe_op op_mul (pe_ix ix_list (pv 0) pe_int (fun _ _ => rfl)) pe_int) (pe_op op_mod (pe_callTy RD.c_int (by rfl) T.n_int (by decide +kernel) (pa_cons (pv 3) pa_nil)) pe_int)) (pe_op op_mul (pe_ix ix_list (pv 0) pe_int (fun _ _ => rfl)) pe_int)) pa_nil)) pe_int))
 (pss_cons (ps_set (i := 4) sc_law_pick.nd rfl (Or.inl rfl) (pe_op op_mod (pe_callTy RD.c_int (by rfl) T.n_int (by decide +kernel) (pa_cons (pe_op op_mul (pv 4) (pe_op op_add (pe_op op_fdivW (pv 4) pe_int) pe_int)) pa_nil)) pe_int))
 (pss_cons (ps_asg (pv 4) (pg_sub (pv 0) pe_int set_list))
 (pss_one (ps_ret (pe_op op_mod (pe_callTy RD.c_int (by rfl) T.n_int (by decide +kernel) (pa_cons (pe_op op_fdivW (pv 4) pe_int) pa_nil)) (pv 1)))))))))))), ?_⟩
    have fin : ∀ p2 q2 m2 n2 : Int, 0 ≤ p2 → TapeAt (upd H h (.lst [.ref c, .int p2, .int q2, .int m2, .int n2])) h c ∧ But h H (upd H h (.lst [.ref c, .int p2, .int q2, .int m2, .int n2])) := fun p2 q2 m2 n2 h0 =>
      ⟨⟨cs, p2, q2, m2, n2, upd_same, (by rw [upd_ne ne]; exact e2), ne, h0⟩, fun b hb => upd_ne hb⟩
    walk_at "rd"
    refine RD.iteD (fun c1 => ?_) (fun c1 => ?_)
    · walk_at "rd"
      exact k _ _ (Int.emod_nonneg _ (by omega)) (Int.emod_lt_of_pos _ m0) (fin _ _ _ _ hp).1 (fin _ _ _ _ hp).2
    · walk_at "rd"
      refine RD.d_cut (fun σ' H' => ∃ (x y : Option V) (p' cell : Int), σ' = [some (.ref h), some (.int size), x, some (.int cell), y] ∧ H' = upd H h (.lst [.ref c, .int p', .int q, .int m, .int (n + 1)]) ∧ 0 ≤ p') ?_ ?_
      · walk_at "rd"
        refine RD.d_lenL (SqL.of (by rw [upd_ne ne]; exact e2)) ?_
        walk_at "rd"
        refine RD.iteD (fun c2 => ?_) (fun c2 => ?_)
        · have hl : p.toNat < cs.length := by rw [List.length_map] at c2; omega
          have hg : (cs.map V.int)[p.toNat]? = some (V.int cs[p.toNat]) := by simp [hl]
          have ha : atI (cs.map V.int) p = some (V.int cs[p.toNat]) := by
            have z := atI_nat hg
            rwa [Int.toNat_of_nonneg hp] at z
          walk_at "rd"
          refine RD.d_ixL (SqL.of (by rw [upd_ne ne]; exact e2)) ha ?_
          walk_at "rd"
          exact ⟨_, _, p + 1, cs[p.toNat], rfl, (by rw [upd_upd]; rfl), by omega⟩
        · walk_at "rd"
          exact ⟨_, _, p, 0, rfl, rfl, hp⟩
      · rintro σ' H' ⟨x, y, p', cell, rfl, rfl, hp'⟩
        walk_at "rd"
        refine RD.iteD (fun c2 => ?_) (fun c2 => ?_)
        · walk_at "rd"
          rw [upd_upd]
          exact k _ _ (Int.emod_nonneg _ (by omega)) (Int.emod_lt_of_pos _ m0) (fin _ _ _ _ hp').1 (fin _ _ _ _ hp').2
        · walk_at "rd"
          rw [upd_upd]
          exact k _ _ (Int.emod_nonneg _ (by omega)) (Int.emod_lt_of_pos _ m0) (fin _ _ _ _ hp').1 (fin _ _ _ _ hp').2
end

/-! ### all but one object stays -/
def Kx (x : Addr) (H H' : Hp) : Prop := ∀ b o, b ≠ x → H b = some o → H' b = some o
theorem Kx.trans {x : Addr} {H H1 H2 : Hp} (a : Kx x H H1) (b : Kx x H1 H2) : Kx x H H2 := fun c o n e => b c o n (a c o n e)
theorem Same.kx {x : Addr} {H H' : Hp} (s : Same H H') : Kx x H H' := fun b o _ e => s b o e
theorem kx_upd {x : Addr} {H : Hp} {o : HO} : Kx x H (upd H x o) := fun b u n e => by rw [upd_ne n]; exact e
theorem putF_none {f : Str} {v : V} : putF f v [] = [(f, v)] := rfl
theorem putF_ne {f g : Str} {u v : V} {r : List (Str × V)} (n : g ≠ f) : putF f v ((g, u) :: r) = (g, u) :: putF f v r := if_neg n
theorem lk_ne {f g : Str} {v : V} {r : List (Str × V)} (h : (f == g) = false) : List.lookup f ((g, v) :: r) = List.lookup f r := by simp [List.lookup, h]
theorem lk_eq {f : Str} {v : V} {r : List (Str × V)} : List.lookup f ((f, v) :: r) = some v := by simp [List.lookup]
theorem d_iTup {K : PySem.W.Frag} {tl : TE} {R : It → Hp → Prop} {σ : L2.St} {H : Hp} (h : tl σ H fun x H1 => ∃ a, x = .ref a ∧ (∃ xs, SqT K H1 a xs) ∧ R (Itt K a) H1) : iTup K tl σ H R := h
theorem kit_selfR {K : PySem.W.Frag} {t : Value} : PySem.W.kitOne K t t = some true := by
  unfold PySem.W.kitOne
  rw [if_pos (by simp)]

/-! ### rows -/
theorem kitA_list {K : PySem.W.Frag} : PySem.W.kitAny K (.type "list") [.type "list", .type "tuple"] = some true := by
  unfold PySem.W.kitAny
  rw [kit_ty (r := true) (by decide +kernel)]
theorem kitA_tuple {K : PySem.W.Frag} : PySem.W.kitAny K (.type "tuple") [.type "list", .type "tuple"] = some true := by
  unfold PySem.W.kitAny
  rw [kit_ty (r := false) (by decide +kernel)]
  unfold PySem.W.kitAny
  rw [kit_ty (r := true) (by decide +kernel)]
def spIsRow (K : PySem.W.Frag) : Sp := fun vs H Q _ => ∃ (x : V) (t : Value) (b : Bool), vs = [x] ∧ TyX K H x t ∧ PySem.W.kitAny K t [.type "list", .type "tuple"] = some b ∧ ∀ H', Same H H' → Q (.bl b) H'
section
variable {P : Program} {w : World} {K : PySem.W.Frag} {mg : Str → Option Value} {base : Heap}
theorem ok_is_row (T : Top K mg) : FnOk P w K mg base CX0 1 T.f_is_row T.fd_is_row ["thing"] (spIsRow K) := by
  refine T.F_is_row.ok sc_is_row (fun vs H Q E h => ?_) (fun cdv A outer s H vs Q E hr h => ?_)
  · obtain ⟨x, t, b, rfl, _⟩ := h; rfl
  · obtain ⟨x, t, b, rfl, ty, e, k⟩ := h
    refine ⟨_, (pss_one (ps_ret (pe_callB call_isiT (by rfl) T.n_isinstance (by decide +kernel) (pa_cons (pv 0) (pa_cons (pe_tup (pa_cons (pe_bltn (v := V.ty "list") (by rfl) T.n_list (by decide +kernel) rfl) (pa_cons (pe_bltn (v := V.ty "tuple") (by rfl) T.n_tuple (by decide +kernel) rfl) pa_nil))) pa_nil))))), ?_⟩
    walk_at "rd"
    refine ⟨by show 2 ≤ sizeLine; decide, fun tp htp => ?_⟩
    walk_at "rd"
    exact ⟨x, tp, _, t, _, b, rfl, upd_same, .cons (.ty _) (.cons (.ty _) .nil), tyX_same ty (same_upd htp), e, k _ (same_upd htp)⟩
end

/-! ### words and watches -/
/-- a word of at most m letters -/
structure IsW (m : Nat) (l : WW.Wd) : Prop where
  lo : 1 ≤ l.length
  hi : l.length ≤ m
  lw : WW.Lw l
theorem IsW.mono {m n : Nat} {l : WW.Wd} (h : IsW m l) (k : m ≤ n) : IsW n l := ⟨h.lo, Nat.le_trans h.hi k, h.lw⟩
def spHas : Sp := fun vs H Q _ => ∃ (l : WW.Wd) (m : Nat), vs = [.str (WW.S l), .int m] ∧ IsW m l ∧ m ≤ 1000 ∧ ∀ H', Same H H' → Q (.bl true) H'
def spIsW (m : Nat) : Sp := fun vs H Q _ => ∃ l : WW.Wd, vs = [.str (WW.S l)] ∧ IsW m l ∧ ∀ H', Same H H' → Q (.bl true) H'
def spChkW : Sp := fun vs H Q _ => ∃ l : WW.Wd, vs = [.str (WW.S l)] ∧ IsW 40 l ∧ ∀ H', Same H H' → Q .non H'
section
variable {P : Program} {w : World} {K : PySem.W.Frag} {mg : Str → Option Value} {base : Heap}
theorem ok_has_letters (T : Top K mg) : FnOk P w K mg base CX0 1 T.f_has_letters T.fd_has_letters ["thing", "most"] spHas := by
  refine T.F_has_letters.ok sc_has_letters (fun vs H Q E h => ?_) (fun cdv A outer s H vs Q E hr h => ?_)
  · obtain ⟨l, m, rfl, _⟩ := h; rfl
  · obtain ⟨l, m, rfl, ⟨lo, hi, lw⟩, hm, k⟩ := h
    have hz : l.length ≤ sizeLine := Nat.le_trans (Nat.le_trans hi hm) (by decide)
    refine ⟨_, (pss_cons (ps_if (PW.pt (pw_or (pt_not (pt_val (pe_callB call_isi (by rfl) T.n_isinstance (by decide +kernel) (pa_cons (pv 0) (pa_cons (pe_bltn (v := V.ty "str") (by rfl) T.n_str (by decide +kernel) rfl) pa_nil))))) (pw_or1 (pt_not (pt_chain op_le op_le pe_int (pe_callB RD.c_len (by rfl) T.n_len (by decide +kernel) (pa_cons (pv 0) pa_nil)) (pv 1))))))
 (pss_one (ps_ret pe_bl))
 pss_nil)
 (pss_one (ps_ret (pe_callB (cr_all rfl) (by rfl) T.n_all (by decide +kernel) (pa_cons (pe_lc (own := [("letter", 2)]) (g := (gName 2)) (tt := tYes) rfl sc_has_letters.nd (pi_str (pv 0)) (blkOk_by (own := [("letter", 2)]) (N := ["thing", "most", "letter"]) (sc := defScope s_has_letters) (by decide +kernel)) (fun _ _ _ _ _ => (pg_name (i := 2) sc_has_letters.nd rfl (Or.inl rfl))) (fun _ _ _ _ _ => pts_nil) (fun _ _ _ _ _ => (pe_cmpR RD.o_sign (pv 2) pe_str rfl))) pa_nil))))), ?_⟩
    walk_at "rd"
    refine RD.d_isi (.ty _) (.base (.str _)) (kit_ty (r := true) (by decide +kernel)) ?_
    walk_at "tx"
    rw [decide_eq_true (by omega : (1 : Int) ≤ l.length)]
    walk_at "tx"
    rw [decide_eq_true (by omega : (l.length : Int) ≤ m)]
    walk_at "tx"
    refine ⟨_, rfl, fun D hD => ?_⟩
    have sD := same_upd (o := HO.lst []) hD
    refine lc_it (walk_str (z := WW.S l)) (fun i H' => Same H H' ∧ H' D = some (.lst ((List.replicate i true).map V.bl))) ⟨sD, upd_same⟩ (fun _ _ _ _ => trivial) ?_ ?_
    · rintro i x H' H'' il ⟨s2, eD⟩ ⟨rfl, c, hc, rfl⟩
      have il' : i < l.length := by simpa [WW.S] using il
      have lc : WW.Lt c := by
        refine lw c ?_
        have : l[i]? = some c := by simpa [WW.S] using hc
        exact List.mem_of_getElem? this
      walk_at "tx"
      refine RD.d_alpha ?_
      rw [decide_eq_true lc]
      refine ⟨_, eD, by rw [List.length_map, List.length_replicate]; omega, fun b u e => ?_, ?_⟩
      · rw [upd_ne (ne_of_none e hD)]; exact s2 _ _ e
      · rw [upd_same, List.replicate_succ', List.map_append]; rfl
    · rintro H' ⟨s2, eD⟩
      walk_at "tx"
      refine ⟨D, _, rfl, SqL.of eD, ?_⟩
      rw [List.all_eq_true.mpr fun x hx => by rw [(List.mem_replicate.mp hx).2]; rfl]
      exact k _ s2
theorem ok_is_word (T : Top K mg) : FnOk P w K mg base CX0 2 T.f_is_word T.fd_is_word ["thing"] (spIsW 40) := by
  refine T.F_is_word.ok sc_is_word (fun vs H Q E h => ?_) (fun cdv A outer s H vs Q E hr h => ?_)
  · obtain ⟨l, rfl, _⟩ := h; rfl
  · obtain ⟨l, rfl, h, k⟩ := h
    refine ⟨_, (pss_one (ps_ret (pe_call (ok_has_letters T) (hr.mono (by decide)) (by rfl) T.g_has_letters T.F_has_letters.kp T.b_has_letters .nil pass0 (pa_cons (pv 0) (pa_cons (pe_glob (v := V.int 40) (by rfl) T.g_MOST_LETTERS ⟨_, rfl⟩) pa_nil))))), ?_⟩
    walk_at "tx"
    exact ⟨l, 40, rfl, h, by decide, k⟩
theorem ok_is_watch (T : Top K mg) : FnOk P w K mg base CX0 2 T.f_is_watch T.fd_is_watch ["thing"] (spIsW 12) := by
  refine T.F_is_watch.ok sc_is_watch (fun vs H Q E h => ?_) (fun cdv A outer s H vs Q E hr h => ?_)
  · obtain ⟨l, rfl, _⟩ := h; rfl
  · obtain ⟨l, rfl, h, k⟩ := h
    refine ⟨_, (pss_one (ps_ret (pe_call (ok_has_letters T) (hr.mono (by decide)) (by rfl) T.g_has_letters T.F_has_letters.kp T.b_has_letters .nil pass0 (pa_cons (pv 0) (pa_cons (pe_glob (v := V.int 12) (by rfl) T.g_MOST_WATCH_LETTERS ⟨_, rfl⟩) pa_nil))))), ?_⟩
    walk_at "tx"
    exact ⟨l, 12, rfl, h, by decide, k⟩
theorem ok_check_word (T : Top K mg) : FnOk P w K mg base CX0 4 T.f_check_word T.fd_check_word ["word"] spChkW := by
  refine T.F_check_word.ok sc_check_word (fun vs H Q E h => ?_) (fun cdv A outer s H vs Q E hr h => ?_)
  · obtain ⟨l, rfl, _⟩ := h; rfl
  · obtain ⟨l, rfl, h, k⟩ := h
    refine ⟨_, (pss_one (ps_if (pt_not (pt_val (pe_call (ok_is_word T) (hr.mono (by decide)) (by rfl) T.g_is_word T.F_is_word.kp T.b_is_word .nil pass0 (pa_cons (pv 0) pa_nil))))
 (pss_one ps_never)
 pss_nil)), ?_⟩
    walk_at "tx"
    refine ⟨l, rfl, h, fun H1 s1 => ?_⟩
    walk_at "tx"
    exact k _ s1
end

/-! ### books -/
/-- watches of a book -/
structure Okw (ws : List WW.Wd) : Prop where
  len : ws.length ≤ 12
  ok : ∀ w ∈ ws, IsW 12 w
  nd : ws.Nodup
theorem Okw.ne {ws : List WW.Wd} (h : Okw ws) : ∀ w ∈ ws, w ≠ [] := fun w m e => by have := (h.ok w m).lo; rw [e] at this; simp at this
def BookAt (K : PySem.W.Frag) (C : Addr) (H : Hp) (x : Addr) (ws : List WW.Wd) : Prop := ∃ dx t, H x = some (.ins C dx [("watches", .ref t)]) ∧ SqT K H t (WW.Ss ws)
theorem BookAt.same {K : PySem.W.Frag} {C : Addr} {H H' : Hp} {x : Addr} {ws : List WW.Wd} (h : BookAt K C H x ws) (s : Same H H') : BookAt K C H' x ws := by
  obtain ⟨dx, t, e, q⟩ := h
  exact ⟨dx, t, s _ _ e, OQ.sqT_same q s⟩
theorem OQ.SeqAt.row {K : PySem.W.Frag} {H : Hp} {a : Addr} {xs : List V} (h : OQ.SeqAt K H a xs) : ∃ t, TyX K H (.ref a) t ∧ PySem.W.kitAny K t [.type "list", .type "tuple"] = some true := by
  rcases h with ((h | ⟨o, h⟩) | ⟨o, _, _, h, c, _⟩) | ((h | ⟨o, h⟩) | ⟨o, _, _, h, c, _⟩)
  · exact ⟨_, .base (.lst h), kitA_list⟩
  · exact ⟨_, .base (.frz h), kitA_list⟩
  · exact ⟨_, .kList h c, kitA_list⟩
  · exact ⟨_, .base (.tup h), kitA_tuple⟩
  · exact ⟨_, .fTuple h, kitA_tuple⟩
  · exact ⟨_, .kTuple h c, kitA_tuple⟩
def spBookI (K : PySem.W.Frag) (C : Addr) : Sp := fun vs H Q _ => ∃ (x dx a : Addr) (ws : List WW.Wd), vs = [.ref x, .ref a] ∧ H x = some (.ins C dx []) ∧ OQ.SeqAt K H a (WW.Ss ws) ∧ Okw ws ∧ ∀ H', Kx x H H' → BookAt K C H' x ws → Q .non H'
def spWrong (K : PySem.W.Frag) : Sp := fun vs H Q _ => ∃ (a : Addr) (ws : List WW.Wd), vs = [.ref a] ∧ OQ.SeqAt K H a (WW.Ss ws) ∧ Okw ws ∧ ∀ H', Same H H' → Q .non H'
section
variable {P : Program} {w : World} {K : PySem.W.Frag} {mg : Str → Option Value} {base : Heap}
theorem ok_wrong_watch (T : Top K mg) : FnOk P w K mg base CX0 3 T.f_wrong_watch T.fd_wrong_watch ["watches"] (spWrong K) := by
  refine T.F_wrong_watch.ok sc_wrong_watch (fun vs H Q E h => ?_) (fun cdv A outer s H vs Q E hr h => ?_)
  · obtain ⟨a, ws, rfl, _⟩ := h; rfl
  · obtain ⟨a, ws, rfl, sa, ok, k⟩ := h
    have l12 := ok.len
    refine ⟨_, (pss_cons (ps_for PassesOwn.never rfl (OQ.pi_or (pi_enum (by rfl) T.n_enumerate (pa_cons (pv 0) pa_nil)) (OQ.pi_enumT (by rfl) T.n_enumerate (pa_cons (pv 0) pa_nil))) (pg_tup (by rfl) (pgs_cons (pg_name (i := 1) sc_wrong_watch.nd rfl (Or.inl rfl)) (pgs_cons (pg_name (i := 2) sc_wrong_watch.nd rfl (Or.inl rfl)) pgs_nil)))
 (pss_one (ps_if (PW.pt (pw_or (pt_not (pt_val (pe_call (ok_is_watch T) (hr.mono (by decide)) (by rfl) T.g_is_watch T.F_is_watch.kp T.b_is_watch .nil pass0 (pa_cons (pv 2) pa_nil)))) (pw_or1 (pt_cmpR op_in_seq (pv 2) (pe_slice (SlR.or sl_list sl_tup) (pv 0) po_none (po_some (pv 1))) rfl))))
 (pss_one (ps_ret (pv 1)))
 pss_nil)))
 (pss_one (ps_ret pe_non))), ?_⟩
    walk_at "tx"
    refine OQ.d_enumVar rfl sa (fun J G hw hG => ?_)
    refine RD.f_it hw (fun i σ' H' => Same H H' ∧ ∃ v1 v2 : Option V, σ' = [some (.ref a), v1, v2]) ⟨Same.refl _, none, none, rfl⟩ (fun i σ' H' _ q => hG _ q.1) ?_ ?_
    · rintro i y σ' H' H'' il ⟨s3, v1, v2, rfl⟩ ⟨p, u, v, rfl, hp, rfl, e1, e2⟩
      cases e1
      obtain ⟨wd, ew, rfl⟩ := WW.Ss_get e2
      have s4 := s3.trans (same_upd (o := HO.tup [V.int (i : Nat), V.str (WW.S wd)]) hp)
      have ep : upd H' p (.tup [V.int (i : Nat), V.str (WW.S wd)]) p = some (.tup [V.int (i : Nat), V.str (WW.S wd)]) := upd_same
      generalize upd H' p (.tup [V.int (i : Nat), V.str (WW.S wd)]) = H4 at *
      refine RD.d_two rfl (SqT.of ep) ?_
      have hw := ok.ok wd (List.mem_of_getElem? ew)
      have il' : i < ws.length := by rw [WW.Ss_len] at il; exact il
      walk_at "tx"
      refine ⟨wd, rfl, hw, fun H5 s5 => ?_⟩
      have s6 := s4.trans s5
      walk_at "tx"
      have eq : cutV (WW.Ss ws) none (some ((i : Nat) : Int)) = WW.Ss (ws.take i) := by
        unfold cutV
        rw [HT.sIx_nat, HT.sIx_none, WW.Ss_len, Nat.min_eq_left (Nat.le_of_lt il')]
        unfold WW.Ss
        rw [List.map_take]
        rfl
      have nin : decide (wd ∈ ws.take i) = false := decide_eq_false (by
        intro m
        obtain ⟨j, hj⟩ := List.getElem?_of_mem m
        have jl : j < i := by
          have := (List.getElem?_eq_some_iff.mp hj).1
          rw [List.length_take] at this; omega
        rw [List.getElem?_take_of_lt jl] at hj
        have := (List.getElem?_inj (by omega) ok.nd).mp (hj.trans ew.symm)
        omega)
      rcases sa.same s6 with sL | sT
      · refine .inl ⟨a, _, rfl, sL, fun q hq => ?_⟩
        have s7 := s6.trans (same_upd (o := HO.lst (cutV (WW.Ss ws) none (some ((i : Nat) : Int)))) hq)
        refine OQ.d_inSs (ws := ws.take i) (.inl (SqL.of (by rw [upd_same, eq]))) ?_
        rw [nin]
        walk_at "tx"
        exact ⟨s7, _, _, rfl⟩
      · refine .inr ⟨a, _, rfl, sT, ?_, fun q hq => ?_⟩
        · rintro ⟨_, z⟩
          rw [HT.sIx_nat, WW.Ss_len] at z
          omega
        have s7 := s6.trans (same_upd (o := HO.tup (cutV (WW.Ss ws) none (some ((i : Nat) : Int)))) hq)
        refine OQ.d_inSs (ws := ws.take i) (.inr (SqT.of (by rw [upd_same, eq]))) ?_
        rw [nin]
        walk_at "tx"
        exact ⟨s7, _, _, rfl⟩
    · rintro σ' H' ⟨s3, v1, v2, rfl⟩
      walk_at "tx"
      exact k _ s3
theorem ok_Book__init (T : Top K mg) : FnOk P w K mg base CX0 4 T.f_Book__init T.fd_Book__init ["self", "watches"] (spBookI K T.C_Book) := by
  refine T.F_Book__init.ok sc_Book__init (fun vs H Q E h => ?_) (fun cdv A outer s H vs Q E hr h => ?_)
  · obtain ⟨x, dx, a, ws, rfl, _⟩ := h; rfl
  · obtain ⟨x, dx, a, ws, rfl, ex, sa, ok, k⟩ := h
    obtain ⟨t, ty, kt⟩ := OQ.SeqAt.row sa
    refine ⟨_, (pss_cons (ps_if (PW.pt (pw_or (pt_not (pt_val (pe_call (ok_is_row T) (hr.mono (by decide)) (by rfl) T.g_is_row T.F_is_row.kp T.b_is_row .nil pass0 (pa_cons (pv 1) pa_nil)))) (pw_or1 (pt_cmpR op_gt (pe_callB RD.c_len (by rfl) T.n_len (by decide +kernel) (pa_cons (pv 1) pa_nil)) (pe_glob (v := V.int 12) (by rfl) T.g_MOST_WATCHES ⟨_, rfl⟩) (nomark _)))))
 (pss_one ps_never)
 pss_nil)
 (pss_cons (ps_set (i := 2) sc_Book__init.nd rfl (Or.inl rfl) (pe_call (ok_wrong_watch T) (hr.mono (by decide)) (by rfl) T.g_wrong_watch T.F_wrong_watch.kp T.b_wrong_watch .nil pass0 (pa_cons (pv 1) pa_nil)))
 (pss_cons (ps_if (pt_cmpR RD.o_notN (pv 2) pe_non (nomark _))
 (pss_one ps_never)
 pss_nil)
 (pss_one (ps_fld (pv 0) (pe_callTy (OQ.tupK K) (by rfl) T.n_tuple (by decide +kernel) (pa_cons (pv 1) pa_nil)) rfl))))), ?_⟩
    walk_at "tx"
    refine ⟨.ref a, t, true, rfl, ty, kt, fun H1 s1 => ?_⟩
    replace sa := sa.same s1
    walk_at "tx"
    refine sa.len ?_
    walk_at "tx"
    have l12 := ok.len
    rw [WW.Ss_len, decide_eq_false (by omega : ¬ (ws.length : Int) > 12)]
    walk_at "tx"
    refine ⟨a, ws, rfl, sa, ok, fun H2 s2 => ?_⟩
    replace sa := sa.same s2
    walk_at "tx"
    refine OQ.d_tupSeq sa (fun H3 t2 s3 sq => ?_)
    have ex2 := s3 _ _ (s2 _ _ (s1 _ _ ex))
    have s13 := (s1.trans s2).trans s3
    clear sa ty kt
    walk_at "tx"
    refine ⟨x, T.C_Book, dx, _, rfl, ex2, T.cl_Book, T.na_Book_watches, by show 0 < 1000; decide, ?_⟩
    refine k _ (Kx.trans (Same.kx s13) kx_upd) ⟨dx, t2, by rw [upd_same, putF_none], ?_⟩
    rcases sq with (h | ⟨o, h⟩) | h
    · exact .inl (.inl (by rw [upd_ne (fun z => by subst z; rw [ex2] at h; cases h)]; exact h))
    · exact .inl (.inr ⟨o, by rw [upd_ne (fun z => by subst z; rw [ex2] at h; cases h)]; exact h⟩)
    · exact .inr h
end

def spChkB (K : PySem.W.Frag) (C : Addr) : Sp := fun vs H Q _ => ∃ (x : Addr) (ws : List WW.Wd), vs = [.ref x] ∧ BookAt K C H x ws ∧ Q .non H
def spAsked (K : PySem.W.Frag) (C : Addr) : Sp := fun vs H Q _ => ∃ (x : Addr) (ws : List WW.Wd) (l : WW.Wd), vs = [.ref x, .str (WW.S l)] ∧ BookAt K C H x ws ∧ IsW 40 l ∧ ∀ H', Same H H' → Q .non H'
section
variable {P : Program} {w : World} {K : PySem.W.Frag} {mg : Str → Option Value} {base : Heap}
theorem ok_check_book (T : Top K mg) : FnOk P w K mg base CX0 1 T.f_check_book T.fd_check_book ["book"] (spChkB K T.C_Book) := by
  refine T.F_check_book.ok sc_check_book (fun vs H Q E h => ?_) (fun cdv A outer s H vs Q E hr h => ?_)
  · obtain ⟨x, ws, rfl, _⟩ := h; rfl
  · obtain ⟨x, ws, rfl, ⟨dx, t, ex, sq⟩, k⟩ := h
    refine ⟨_, (pss_one (ps_if (pt_not (pt_val (pe_callB call_isi (by rfl) T.n_isinstance (by decide +kernel) (pa_cons (pv 0) (pa_cons (pe_glob (v := V.ref T.C_Book) (by rfl) T.g_Book rfl) pa_nil)))))
 (pss_one ps_never)
 pss_nil)), ?_⟩
    walk_at "tx"
    refine RD.d_isi (.own _) (.base (.ins ex T.cl_Book T.ha_Book T.hnO T.htO T.hm_Book)) T.kBB ?_
    walk_at "tx"
    exact k
theorem ok_check_asked (T : Top K mg) : FnOk P w K mg base CX0 6 T.f_check_asked T.fd_check_asked ["book", "word"] (spAsked K T.C_Book) := by
  refine T.F_check_asked.ok sc_check_asked (fun vs H Q E h => ?_) (fun cdv A outer s H vs Q E hr h => ?_)
  · obtain ⟨x, ws, l, rfl, _⟩ := h; rfl
  · obtain ⟨x, ws, l, rfl, b, hl, k⟩ := h
    refine ⟨_, (pss_cons (ps_expr (pe_call (ok_check_book T) (hr.mono (by decide)) (by rfl) T.g_check_book T.F_check_book.kp T.b_check_book .nil pass0 (pa_cons (pv 0) pa_nil)))
 (pss_one (ps_expr (pe_call (ok_check_word T) (hr.mono (by decide)) (by rfl) T.g_check_word T.F_check_word.kp T.b_check_word .nil pass0 (pa_cons (pv 1) pa_nil))))), ?_⟩
    walk_at "tx"
    refine ⟨x, ws, rfl, b, ?_⟩
    walk_at "tx"
    refine ⟨l, rfl, hl, fun H1 s1 => ?_⟩
    exact k _ s1
end

/-! ### the links of a word's spots -/
open WW (Ns)
/-- the rows at L, n of them; all of them made behind H0 -/
def RowsX (H0 H : Hp) (L : Addr) (n : Nat) (rows : Nat → List Nat) : Prop := ∃ rs : List Addr, rs.length = n ∧ rs.Nodup ∧ L ∉ rs ∧ (∀ a ∈ rs, H0 a = none) ∧ H L = some (.lst (rs.map V.ref)) ∧ ∀ (i : Nat) (a : Addr), rs[i]? = some a → H a = some (.lst (Ns (rows i)))
def RowsAt (H : Hp) (L : Addr) (n : Nat) (rows : Nat → List Nat) : Prop := ∃ rs : List Addr, rs.length = n ∧ H L = some (.lst (rs.map V.ref)) ∧ ∀ (i : Nat) (a : Addr), rs[i]? = some a → H a = some (.lst (Ns (rows i)))
theorem RowsAt.same {H H' : Hp} {L : Addr} {n : Nat} {rows : Nat → List Nat} (h : RowsAt H L n rows) (s : Same H H') : RowsAt H' L n rows := by
  obtain ⟨rs, h1, h2, h3⟩ := h
  exact ⟨rs, h1, s _ _ h2, fun i a e => s _ _ (h3 i a e)⟩
theorem RowsX.row {K : PySem.W.Frag} {H0 H : Hp} {L : Addr} {n i : Nat} {rows : Nat → List Nat} {iv : Int} {Q : VK} (h : RowsX H0 H L n rows) (hi : i < n) (e : iv = i)
    (k : ∀ a, H a = some (.lst (Ns (rows i))) → (∀ y, RowsX H0 (upd H a (.lst (Ns (rows i ++ [y])))) L n (WW.push rows i y)) → (∀ o, Same H0 H → Same H0 (upd H a o)) → Q (.ref a) H) : rIxL K (.ref L) (.int iv) H Q := by
  subst e
  obtain ⟨rs, h1, h2, h3, h4, h5, h6⟩ := h
  have il : i < rs.length := by rw [h1]; exact hi
  have ea : rs[i]? = some rs[i] := List.getElem?_eq_getElem il
  have nL : L ≠ rs[i] := fun z => h3 (z ▸ List.getElem_mem il)
  refine RD.d_ixL (SqL.of h5) (atI_nat (by rw [List.getElem?_map, ea]; rfl)) (k _ (h6 i _ ea) (fun y => ?_) (fun o s b u eb => ?_))
  · refine ⟨rs, h1, h2, h3, h4, by rw [upd_ne nL]; exact h5, fun j a ej => ?_⟩
    unfold WW.push
    by_cases c : j = i
    · subst c
      rw [ea] at ej
      cases ej
      rw [upd_same, if_pos rfl]
    · have na : a ≠ rs[i] := fun z => by
        subst z
        exact c ((List.getElem?_inj (List.getElem?_eq_some_iff.mp ej).1 h2).mp (ej.trans ea.symm))
      rw [upd_ne na, if_neg c]
      exact h6 j a ej
  · have nb : b ≠ rs[i] := ne_of_none eb (h4 _ (List.getElem_mem il))
    rw [upd_ne nb]
    exact s _ _ eb
theorem RowsX.zero {H0 H : Hp} {L p : Addr} {i : Nat} {rs : List Addr} (l : rs.length = i) (nd : rs.Nodup) (nL : L ∉ rs) (f : ∀ a ∈ rs, H0 a = none) (e : H L = some (.lst (rs.map V.ref))) (z : ∀ a ∈ rs, H a = some (.lst [])) (hp : H p = none) (hp0 : H0 p = none) (np : p ≠ L) :
    (rs ++ [p]).length = i + 1 ∧ (rs ++ [p]).Nodup ∧ L ∉ rs ++ [p] ∧ (∀ a ∈ rs ++ [p], H0 a = none) ∧ (upd (upd H p (.lst [])) L (.lst (rs.map V.ref ++ [.ref p]))) L = some (.lst ((rs ++ [p]).map V.ref)) ∧ ∀ a ∈ rs ++ [p], (upd (upd H p (.lst [])) L (.lst (rs.map V.ref ++ [.ref p]))) a = some (.lst []) := by
  have pn : p ∉ rs := fun m => by rw [z p m] at hp; cases hp
  refine ⟨by rw [List.length_append, l]; rfl, ?_, ?_, ?_, ?_, ?_⟩
  · rw [List.nodup_append]
    refine ⟨nd, by simp, fun a ha b hb q => ?_⟩
    rw [List.mem_singleton] at hb
    subst hb; subst q
    exact pn ha
  · intro m
    rcases List.mem_append.mp m with m | m
    · exact nL m
    · exact np (List.mem_singleton.mp m).symm
  · intro a m
    rcases List.mem_append.mp m with m | m
    · exact f a m
    · rw [List.mem_singleton.mp m]; exact hp0
  · rw [upd_same, List.map_append]; rfl
  · intro a m
    rcases List.mem_append.mp m with m | m
    · have na : a ≠ L := fun q => nL (q ▸ m)
      have np' : a ≠ p := fun q => pn (q ▸ m)
      rw [upd_ne na, upd_ne np']; exact z a m
    · rw [List.mem_singleton.mp m, upd_ne np, upd_same]
/-- the links of W by the pieces ws, which may be alike -/
structure LksG (ws : List WW.Wd) (W : WW.Wd) (rows : Nat → List Nat) : Prop where
  mem : ∀ i j, j ∈ rows i ↔ WW.Link ws W i j
  up : ∀ i, (rows i).Pairwise (· ≤ ·)
  nd : ws.Nodup → ∀ i, (rows i).Nodup
/-- the links of W by the book of ws -/
structure Lks (ws : List WW.Wd) (W : WW.Wd) (rows : Nat → List Nat) : Prop where
  mem : ∀ i j, j ∈ rows i ↔ WW.Link ws W i j
  up : ∀ i, (rows i).Pairwise (· < ·)
theorem LksG.strict {ws : List WW.Wd} {W : WW.Wd} {rows : Nat → List Nat} (h : LksG ws W rows) (nd : ws.Nodup) : Lks ws W rows := ⟨h.mem, fun i => WW.strict_of (h.up i) (h.nd nd i)⟩
/-- pieces that may be looked for in W -/
structure Okp (ws : List WW.Wd) (W : WW.Wd) : Prop where
  ne : ∀ w ∈ ws, w ≠ []
  sz : ∀ w ∈ ws, w.length ≤ sizeLine
  many : ws.length ≤ 1000
  len : W.length ≤ 1000
theorem Okw.pieces {ws : List WW.Wd} {W : WW.Wd} (h : Okw ws) (k : IsW 40 W) : Okp ws W :=
  ⟨h.ne, fun w m => Nat.le_trans (h.ok w m).hi (by decide), Nat.le_trans h.len (by decide), Nat.le_trans k.hi (by decide)⟩
def spThrough (K : PySem.W.Frag) : Sp := fun vs H Q _ => ∃ (a : Addr) (ws : List WW.Wd) (l : WW.Wd), vs = [.ref a, .str (WW.S l)] ∧ OQ.SeqAt K H a (WW.Ss ws) ∧ Okp ws l ∧
  ∀ H' L rows, Same H H' → (H L = none ∧ ∀ rs : List Addr, H' L = some (.lst (rs.map V.ref)) → ∀ a ∈ rs, H a = none) → RowsAt H' L (l.length + 1) rows → LksG ws l rows → Q (.ref L) H'
section
variable {P : Program} {w : World} {K : PySem.W.Frag} {mg : Str → Option Value} {base : Heap}
theorem ok_links_through (T : Top K mg) : FnOk P w K mg base CX0 1 T.f_links_through T.fd_links_through ["pieces", "word"] (spThrough K) := by
  refine T.F_links_through.ok sc_links_through (fun vs H Q E h => ?_) (fun cdv A outer s H vs Q E hr h => ?_)
  · obtain ⟨a, ws, l, rfl, _⟩ := h; rfl
  · obtain ⟨a, ws, l, rfl, sa, ok, k⟩ := h
    have l40 := ok.len
    have hz : l.length ≤ sizeLine := Nat.le_trans l40 (by decide)
    refine ⟨_, (pss_cons (ps_setLc (i := 2) (own := [("_", 3)]) (g := (gName 3)) (tt := tYes) rfl sc_links_through.nd rfl rfl (sw_true rfl rfl rfl (by decide +kernel)) (pi_range1 (by rfl) T.n_range (pa_cons (pe_op op_add (pe_callB RD.c_len (by rfl) T.n_len (by decide +kernel) (pa_cons (pv 1) pa_nil)) pe_int) pa_nil)) (blkOk_by (own := [("_", 3)]) (N := ["pieces", "word", "links", "_", "piece", "low", "high", "spots"]) (sc := defScope s_links_through) (by decide +kernel)) (fun _ _ _ _ _ => (pg_name (i := 3) sc_links_through.nd rfl (Or.inl rfl))) (fun _ _ _ _ _ => pts_nil) (fun _ _ _ _ _ => (pe_lst pa_nil)))
 (pss_cons (ps_for PassesOwn.never rfl (OQ.pi_seq (pv 0)) (pg_name (i := 4) sc_links_through.nd rfl (Or.inl rfl))
 (pss_cons (ps_set (i := 5) sc_links_through.nd rfl (Or.inl rfl) (pe_bm PySem.F.plainAttrs_str PySem.F.slot_str_find PySem.F.type_str_find RD.m_find1 (pv 1) (pa_cons (pv 4) pa_nil)))
 (pss_one (ps_while PassesOwn.never (pt_cmpR op_ge (pv 5) pe_int (nomark _))
 (pss_cons (ps_set (i := 6) sc_links_through.nd rfl (Or.inl rfl) (pe_op op_add (pv 5) (pe_callB RD.c_len (by rfl) T.n_len (by decide +kernel) (pa_cons (pv 4) pa_nil))))
 (pss_cons (ps_expr (pe_bm PySem.F.plainAttrs_list PySem.F.slot_list_append PySem.F.type_list_append mt_append (pe_ix ix_list (pv 2) (pv 5) (fun _ _ => rfl)) (pa_cons (pv 6) pa_nil)))
 (pss_cons (ps_expr (pe_bm PySem.F.plainAttrs_list PySem.F.slot_list_append PySem.F.type_list_append mt_append (pe_ix ix_list (pv 2) (pv 6) (fun _ _ => rfl)) (pa_cons (pv 5) pa_nil)))
 (pss_one (ps_set (i := 5) sc_links_through.nd rfl (Or.inl rfl) (pe_bm PySem.F.plainAttrs_str PySem.F.slot_str_find PySem.F.type_str_find RD.m_find2 (pv 1) (pa_cons (pv 4) (pa_cons (pe_op op_add (pv 5) pe_int) pa_nil))))))))))))
 (pss_one (ps_ret (pe_lc (own := [("spots", 7)]) (g := (gName 7)) (tt := tYes) rfl sc_links_through.nd (pi_list (pv 2)) (blkOk_by (own := [("spots", 7)]) (N := ["pieces", "word", "links", "_", "piece", "low", "high", "spots"]) (sc := defScope s_links_through) (by decide +kernel)) (fun _ _ _ _ _ => (pg_name (i := 7) sc_links_through.nd rfl (Or.inl rfl))) (fun _ _ _ _ _ => pts_nil) (fun _ _ _ _ _ => (pe_callB (OQ.sortK K) (by rfl) T.n_sorted (by decide +kernel) (pa_cons (pv 7) pa_nil)))))))), ?_⟩
    walk_at "tx"
    refine ⟨_, rfl, by omega, by omega, fun D hD => ?_⟩
    rw [show ((l.length : Int) + 1).toNat = l.length + 1 from by omega]
    refine lc_range (lo := 0) (n := l.length + 1) (fun i H' => Same H H' ∧ ∃ rs : List Addr, rs.length = i ∧ rs.Nodup ∧ D ∉ rs ∧ (∀ a ∈ rs, H a = none) ∧ H' D = some (.lst (rs.map V.ref)) ∧ ∀ a ∈ rs, H' a = some (.lst []))
      ⟨same_upd hD, [], rfl, List.nodup_nil, (fun z => nomatch z), (fun _ z => nomatch z), upd_same, fun _ z => nomatch z⟩ ?_ ?_
    · rintro i H' il ⟨s1, rs, h1, h2, h3, h4, h5, h6⟩
      walk_at "tx"
      refine ⟨by show 0 ≤ sizeLine; decide, fun p hp => ?_⟩
      have np : p ≠ D := (ne_of_none h5 hp).symm
      refine ⟨rs.map V.ref, by rw [upd_ne np.symm]; exact h5, by rw [List.length_map, h1]; exact Nat.lt_of_lt_of_le il (Nat.le_trans (by omega : l.length + 1 ≤ 1001) (by decide)), ?_⟩
      have hp0 := s1.free hp
      exact ⟨fun b u e => by rw [upd_ne (ne_of_none e hD), upd_ne (ne_of_none e hp0)]; exact s1 _ _ e, rs ++ [p], RowsX.zero h1 h2 h3 h4 h5 h6 hp hp0 np⟩
    · rintro H1 ⟨s1, rs, h1, h2, h3, h4, h5, h6⟩
      have R0 : RowsX H H1 D (l.length + 1) (fun _ => []) := ⟨rs, h1, h2, h3, h4, h5, fun i a e => h6 a (List.mem_of_getElem? e)⟩
      clear h1 h2 h3 h4 h5 h6
      walk_at "tx"
      refine OQ.d_seqVar2 rfl sa s1 (fun J G hw hG => ?_)
      refine RD.f_it hw (fun kk σ' H' => Same H H' ∧ (∃ rows, RowsX H H' D (l.length + 1) rows ∧ WW.LkJ rows (WW.LkG ws l kk 0) ws.Nodup (kk * (l.length + 1))) ∧ ∃ v3 v4 v5 v6 v7 : Option V, σ' = [some (.ref a), some (.str (WW.S l)), some (.ref D), v3, v4, v5, v6, v7])
        ⟨s1, ⟨_, R0, WW.LkJ.zero.iff (fun _ _ => Iff.rfl) (Nat.zero_le _)⟩, none, none, none, none, none, rfl⟩ (fun kk σ' H' _ q => hG _ q.1) ?_ ?_
      · rintro kk y σ' H2' H2 hkk ⟨s2, ⟨rows, R, I⟩, v3, v4, v5, v6, v7, rfl⟩ ⟨rfl, hy⟩
        obtain ⟨wd, ew, rfl⟩ := WW.Ss_get hy
        have mw := List.mem_of_getElem? ew
        have wne := ok.ne wd mw
        have wz := ok.sz wd mw
        have w1 : 0 < wd.length := List.length_pos_iff.mpr wne
        have kl : kk < ws.length := (List.getElem?_eq_some_iff.mp ew).1
        have bnd : ∀ j, WW.Hit l j wd → j + wd.length ≤ l.length := fun j h => h.bound wne
        have K1 : (kk + 1) * (l.length + 1) = kk * (l.length + 1) + (l.length + 1) := Nat.succ_mul _ _
        have Kb : (kk + 1) * (l.length + 1) ≤ 1000 * 1001 := Nat.mul_le_mul (Nat.le_trans kl ok.many) (by omega)
        generalize hM : kk * (l.length + 1) = M at *
        walk_at "tx"
        refine ⟨RD.tyS, ?_⟩
        walk_at "tx"
        refine RD.d_find1 wne (fun v nx => ?_)
        walk_at "tx"
        have start : ∀ (lo : Nat) (rows : Nat → List Nat) (v : Int), WW.Nx l wd lo v → lo ≤ l.length + 1 → WW.LkJ rows (WW.LkG ws l kk lo) ws.Nodup (M + lo) →
            ∃ lo', lo ≤ lo' ∧ WW.LkJ rows (WW.LkG ws l kk lo') ws.Nodup (M + lo') ∧ ((v = lo' ∧ WW.Hit l lo' wd ∧ lo' ≤ l.length) ∨ (v = -1 ∧ lo' = l.length + 1)) := by
          rintro lo rows v (⟨i, rfl, h1, h2, h3⟩ | ⟨rfl, h1⟩) hlo I
          · exact ⟨i, h1, I.iff (fun a b => WW.LkG.skip ew h1 h3 a b) (by omega), .inl ⟨rfl, h2, by have := bnd i h2; omega⟩⟩
          · exact ⟨l.length + 1, hlo, I.iff (fun a b => WW.LkG.skip ew hlo (fun j j1 _ => h1 j j1) a b) (by omega), .inr ⟨rfl, rfl⟩⟩
        obtain ⟨lo, h0lo, I, hv⟩ := start 0 rows v nx (Nat.zero_le _) (I.iff (fun _ _ => Iff.rfl) (Nat.le_refl _))
        refine ⟨fun m σ' H' => ∃ (lo : Nat) (rows : Nat → List Nat) (v : Int), m = l.length + 1 - lo ∧ Same H H' ∧ RowsX H H' D (l.length + 1) rows ∧ WW.LkJ rows (WW.LkG ws l kk lo) ws.Nodup (M + lo) ∧ ((v = lo ∧ WW.Hit l lo wd ∧ lo ≤ l.length) ∨ (v = -1 ∧ lo = l.length + 1)) ∧
          ∃ v6 v7 : Option V, σ' = [some (.ref a), some (.str (WW.S l)), some (.ref D), v3, some (.str (WW.S wd)), some (.int v), v6, v7], ⟨_, lo, rows, v, rfl, s2, R, I, hv, v6, v7, rfl⟩, ?_⟩
        rintro m σ' H3 ⟨lo, rows, v, rfl, s3, R, I, hv, v6, v7, rfl⟩
        walk_at "tx"
        rcases hv with ⟨rfl, hit, hlo⟩ | ⟨rfl, rfl⟩
        · rw [decide_eq_true (by omega : (lo : Int) ≥ 0)]
          refine RD.d_iteT ?_
          have hb := bnd lo hit
          have n1 : ws.Nodup → ¬ WW.LkG ws l kk lo lo (lo + wd.length) := fun nd => (WW.LkG.new nd ok.ne ew hit).1
          have n2 : ws.Nodup → ¬ WW.LkG ws l kk lo (lo + wd.length) lo := fun nd => (WW.LkG.new nd ok.ne ew hit).2
          have I' := I.add (a := lo) (b := lo + wd.length) (by omega) n1 n2
          have len41 := I.len
          refine ⟨fun σ' H' => ∃ (lo' : Nat) (rows : Nat → List Nat) (v : Int), lo < lo' ∧ Same H H' ∧ RowsX H H' D (l.length + 1) rows ∧ WW.LkJ rows (WW.LkG ws l kk lo') ws.Nodup (M + lo') ∧ ((v = lo' ∧ WW.Hit l lo' wd ∧ lo' ≤ l.length) ∨ (v = -1 ∧ lo' = l.length + 1)) ∧
            ∃ v6 v7 : Option V, σ' = [some (.ref a), some (.str (WW.S l)), some (.ref D), v3, some (.str (WW.S wd)), some (.int v), v6, v7], ?_, ?_⟩
          · rintro σ' H' ⟨lo', rows, v, lt, rest⟩
            exact ⟨_, (by omega : l.length + 1 - lo' < l.length + 1 - lo), lo', rows, v, rfl, rest⟩
          · walk_at "tx"
            refine RD.d_bm ?_
            walk_at "tx"
            refine RowsX.row R (i := lo) (by omega) (by omega) (fun a1 ea Ra sa1 => ?_)
            refine ⟨RD.tyL ea, ?_⟩
            walk_at "tx"
            rw [show ((lo : Int) + wd.length) = ((lo + wd.length : Nat) : Int) from by omega]
            have s24 : 1001 * 1000 + 1001 < sizeLine := by decide
            refine RD.d_app ea (by rw [WW.Ns_len]; have := len41 lo; omega) ?_
            rw [WW.Ns_app]
            replace Ra := Ra (lo + wd.length)
            have ga := sa1 (.lst (Ns (rows lo ++ [lo + wd.length]))) s3
            generalize upd H3 a1 (.lst (Ns (rows lo ++ [lo + wd.length]))) = H4 at *
            walk_at "tx"
            refine RD.d_bm ?_
            walk_at "tx"
            refine RowsX.row Ra (i := lo + wd.length) (by omega) (by omega) (fun a2 ea2 Ra2 sa2 => ?_)
            refine ⟨RD.tyL ea2, ?_⟩
            walk_at "tx"
            have e2 : WW.push rows lo (lo + wd.length) (lo + wd.length) = rows (lo + wd.length) := if_neg (by omega)
            refine RD.d_app ea2 (by rw [WW.Ns_len, e2]; have := len41 (lo + wd.length); omega) ?_
            rw [WW.Ns_app]
            have ga2 := sa2 (.lst (Ns (WW.push rows lo (lo + wd.length) (lo + wd.length) ++ [lo]))) ga
            replace Ra2 := Ra2 lo
            generalize upd H4 a2 (.lst (Ns (WW.push rows lo (lo + wd.length) (lo + wd.length) ++ [lo]))) = H5 at *
            walk_at "tx"
            refine ⟨RD.tyS, ?_⟩
            walk_at "tx"
            refine RD.d_find2 wne (show ((lo : Int) + 1) = ((lo + 1 : Nat) : Int) from by omega) (fun v nx => ?_)
            obtain ⟨lo', h1, I2, hv⟩ := start (lo + 1) _ v nx (by omega) (I'.iff (fun i j => WW.LkG.hit ew hit i j) (Nat.le_refl _))
            walk_at "tx"
            exact ⟨lo', _, v, h1, ga2, Ra2, I2, hv, _, _, rfl⟩
        · refine RD.iteD (fun c => absurd c (by omega)) (fun _ => ?_)
          rw [K1]
          refine ⟨s3, ⟨rows, R, I.iff (fun i j => WW.LkG.next ew (fun j j1 z => by have := bnd j z; omega)) (Nat.le_refl _)⟩, _, _, _, _, _, rfl⟩
      · rintro σ' H2 ⟨s2, ⟨rows, R, I⟩, v3, v4, v5, v6, v7, rfl⟩
        rw [WW.Ss_len] at I
        walk_at "tx"
        replace I := I.iff (fun i j => (WW.LkG.all (i := i) (j := j)).symm) (Nat.le_refl _)
        obtain ⟨rs, h1, h2, h3, h4, h5, h6⟩ := R
        refine ⟨D, rfl, ⟨_, SqL.of h5⟩, fun D2 hD2 => ?_⟩
        have hD2' := s2.free hD2
        refine lc_list (K := K) (a := D) (xs := rs.map V.ref) (fun i H' => Same H2 H' ∧ ∃ (qs : List Addr) (out : Nat → List Nat), qs.length = i ∧ H' D2 = some (.lst (qs.map V.ref)) ∧ (D2 ∉ qs ∧ ∀ q ∈ qs, H2 q = none) ∧
            (∀ (j : Nat) (a : Addr), qs[j]? = some a → H' a = some (.lst (Ns (out j)))) ∧ ∀ j, j < i → (out j).Perm (rows j) ∧ (out j).Pairwise (· ≤ ·))
          ⟨same_upd hD2, [], fun _ => [], rfl, upd_same, ⟨(fun z => nomatch z), (fun _ z => nomatch z)⟩, (fun _ _ z => nomatch z), fun _ z => nomatch z⟩ ?_ ?_ ?_
        · rintro i H' _ ⟨s3, _⟩
          exact SqL.of (s3 _ _ h5)
        · rintro i y H' hi ⟨s3, qs, out, g1, g2, g3, g4, g5⟩
          rw [List.getElem?_map] at hi
          cases ea : rs[i]? with
          | none => rw [ea] at hi; cases hi
          | some a =>
            rw [ea] at hi
            cases hi
            have il : i < l.length + 1 := by have := (List.getElem?_eq_some_iff.mp ea).1; omega
            have ra := s3 _ _ (h6 i a ea)
            walk_at "tx"
            refine ⟨a, (rows i).map fun (j : Nat) => (j : Int), rfl, SqL.of (by rw [ra]; unfold Ns; rw [List.map_map]; rfl), fun ns p pm so hp => ?_⟩
            obtain ⟨q, rfl, mq, uq⟩ := WW.sorted_natsG pm so
            have np : p ≠ D2 := (ne_of_none g2 hp).symm
            refine ⟨qs.map V.ref, by rw [upd_ne np.symm]; exact g2, by rw [List.length_map, g1]; exact Nat.lt_of_lt_of_le il (Nat.le_trans (by omega : l.length + 1 ≤ 1001) (by decide)), fun b u e => ?_, qs ++ [p], (fun j => if j = i then q else out j), by rw [List.length_append, g1]; rfl, ?_, ?_, ?_, ?_⟩
            · have := s3 _ _ e
              rw [upd_ne (ne_of_none e hD2), upd_ne (ne_of_none this hp)]; exact this
            · rw [upd_same, List.map_append]; rfl
            · refine ⟨fun m => ?_, fun b m => ?_⟩
              · rcases List.mem_append.mp m with m | m
                · exact g3.1 m
                · exact np (List.mem_singleton.mp m).symm
              · rcases List.mem_append.mp m with m | m
                · exact g3.2 b m
                · rw [List.mem_singleton.mp m]; exact s3.free hp
            · intro j b e
              by_cases c : j = i
              · subst c
                rw [List.getElem?_append_right (by omega), g1, Nat.sub_self] at e
                cases e
                rw [upd_ne np, upd_same]
                simp only [if_pos]
                unfold Ns
                rw [List.map_map]; rfl
              · have jl : j < qs.length := by
                  have := (List.getElem?_eq_some_iff.mp e).1
                  rw [List.length_append, List.length_singleton] at this; omega
                rw [List.getElem?_append_left jl] at e
                have nb : b ≠ D2 := fun z => g3.1 (z ▸ List.mem_of_getElem? e)
                rw [upd_ne nb, upd_ne (ne_of_none (g4 j b e) hp)]
                simp only [if_neg c]
                exact g4 j b e
            · intro j jl
              by_cases c : j = i
              · subst c
                simp only [if_pos]
                exact ⟨mq, uq⟩
              · simp only [if_neg c]
                exact g5 j (by omega)
        · rintro H' ⟨s3, qs, out, g1, g2, g3, g4, g5⟩
          rw [List.length_map, h1] at g1 g5
          refine k H' D2 (fun j => if j < l.length + 1 then out j else []) (s2.trans s3) ⟨hD2', fun rs' e a m => ?_⟩ ⟨qs, g1, g2, fun i a e => ?_⟩ ⟨fun i j => ?_, fun i => ?_, fun nd i => ?_⟩
          · rw [g2] at e
            have e' : qs.map V.ref = rs'.map V.ref := (HO.lst.inj (Option.some.inj e))
            have m' : V.ref a ∈ rs'.map V.ref := List.mem_map.mpr ⟨a, m, rfl⟩
            rw [← e'] at m'
            obtain ⟨q, mq, eq⟩ := List.mem_map.mp m'
            cases eq
            exact s2.free (g3.2 _ mq)
          · have c : i < l.length + 1 := by have := (List.getElem?_eq_some_iff.mp e).1; omega
            simp only [if_pos c]
            exact g4 i a e
          · by_cases c : i < l.length + 1
            · simp only [if_pos c]
              rw [(g5 i c).1.mem_iff, I.mem]
            · simp only [if_neg c]
              exact ⟨fun z => (nomatch z), fun z => by have := (WW.Link.le ok.ne z).1; omega⟩
          · by_cases c : i < l.length + 1
            · simp only [if_pos c]; exact (g5 i c).2
            · simp only [if_neg c]; exact .nil
          · by_cases c : i < l.length + 1
            · simp only [if_pos c]; exact (g5 i c).1.nodup_iff.mpr (I.nd nd i)
            · simp only [if_neg c]; exact .nil
end

/-! ### the steps to a spot -/
open WW (Ns)
theorem d_disp {trs : List (TE × TE)} {σ : L2.St} {H : Hp} {Q : VK} (h : ∀ p, H p = none → tPairs trs σ (upd H p (.dK [])) fun ps H2 => H2 p = some (.dK []) ∧ ∃ kvs : List (Key × V), ps = kvs.map (fun kv => (kV kv.1, kv.2)) ∧ kvs.length ≤ 15 ∧ Q (.ref p) (upd H2 p (.dK (mergeK [] kvs)))) : tDisp trs σ H Q := h
def spSteps (K : PySem.W.Frag) : Sp := fun vs H Q _ => ∃ (L : Addr) (n g : Nat) (rows : Nat → List Nat), vs = [.ref L, .int g] ∧ RowsAt H L n rows ∧ (∀ i j, j ∈ rows i → j < n) ∧ g < n ∧ n ≤ 41 ∧
  ∀ H' d ps, Same H H' → H d = none → H' d = some (.dK (WW.Dk ps)) → (∀ v r, WW.look ps v = some r ↔ WW.Ds (fun i j => j ∈ rows i) g r v) → (ps.map (·.1)).Nodup → Q (.ref d) H'
theorem RowsAt.ix {K : PySem.W.Frag} {H0 H : Hp} {L : Addr} {n i : Nat} {rows : Nat → List Nat} {iv : Int} {Q : VK} (h : RowsAt H0 L n rows) (s : Same H0 H) (hi : i < n) (e : iv = i) (k : ∀ a, H0 a = some (.lst (Ns (rows i))) → Q (.ref a) H) : rIxL K (.ref L) (.int iv) H Q := by
  subst e
  obtain ⟨rs, h1, h2, h3⟩ := h
  have il : i < rs.length := by rw [h1]; exact hi
  have ea : rs[i]? = some rs[i] := List.getElem?_eq_getElem il
  exact RD.d_ixL (SqL.of (s _ _ h2)) (atI_nat (by rw [List.getElem?_map, ea]; rfl)) (k _ (h3 i _ ea))
section
variable {P : Program} {w : World} {K : PySem.W.Frag} {mg : Str → Option Value} {base : Heap}
theorem ok_steps_to (T : Top K mg) : FnOk P w K mg base CX0 1 T.f_steps_to T.fd_steps_to ["links", "goal"] (spSteps K) := by
  refine T.F_steps_to.ok sc_steps_to (fun vs H Q E h => ?_) (fun cdv A outer s H vs Q E hr h => ?_)
  · obtain ⟨L, n, g, rows, rfl, _⟩ := h; rfl
  · obtain ⟨L, n, g, rows, rfl, R, lt, hg, n41, k⟩ := h
    refine ⟨_, (pss_cons (ps_set (i := 2) sc_steps_to.nd rfl (Or.inl rfl) (pe_disp (pps_cons (pv 1) pe_int pps_nil) (by rfl) (by rfl) (by simp) (by decide)))
 (pss_cons (ps_set (i := 3) sc_steps_to.nd rfl (Or.inl rfl) (pe_lst (pa_cons (pv 1) pa_nil)))
 (pss_cons (ps_while PassesOwn.never (pt_truth (pv 3) (fun _ => rfl))
 (pss_cons (ps_set (i := 4) sc_steps_to.nd rfl (Or.inl rfl) (pe_lst pa_nil))
 (pss_cons (ps_for PassesOwn.never rfl (pi_list (pv 3)) (pg_name (i := 5) sc_steps_to.nd rfl (Or.inl rfl))
 (pss_one (ps_for PassesOwn.never rfl (pi_list (pe_ix ix_list (pv 0) (pv 5) (fun _ _ => rfl))) (pg_name (i := 6) sc_steps_to.nd rfl (Or.inl rfl))
 (pss_one (ps_if (pt_cmp (pc_dnotin (hu_of hr) (pv 6) (pv 2)))
 (pss_cons (ps_dput (hu_of hr) (pv 2) (pv 6) (pe_op op_add (pe_dget (hu_of hr) (pv 2) (pv 5) (fun _ _ => rfl)) pe_int) rfl)
 (pss_one (ps_expr (pe_bm PySem.F.plainAttrs_list PySem.F.slot_list_append PySem.F.type_list_append mt_append (pv 4) (pa_cons (pv 6) pa_nil)))))
 pss_nil)))))
 (pss_one (ps_set (i := 3) sc_steps_to.nd rfl (Or.inl rfl) (pv 4))))))
 (pss_one (ps_ret (pv 2)))))), ?_⟩
    walk_at "tx"
    refine d_disp (fun d hd => ?_)
    refine ⟨_, rfl, upd_same, [(Sum.inl (g : Int), .int 0)], rfl, (by show 1 ≤ 15; decide), ?_⟩
    rw [upd_upd, show mergeK [] [(Sum.inl (g : Int), V.int 0)] = WW.Dk [(g, 0)] from rfl]
    have s1 := same_upd (o := HO.dK (WW.Dk [(g, 0)])) hd
    have e1 : upd H d (.dK (WW.Dk [(g, 0)])) d = some (.dK (WW.Dk [(g, 0)])) := upd_same
    generalize upd H d (.dK (WW.Dk [(g, 0)])) = H1 at *
    walk_at "tx"
    refine ⟨by show 1 ≤ sizeLine; decide, fun fa hfa => ?_⟩
    have s2 := s1.trans (same_upd (o := HO.lst [V.int (g : Nat)]) hfa)
    have e2 : upd H1 fa (.lst [V.int (g : Nat)]) d = some (.dK (WW.Dk [(g, 0)])) := by rw [upd_ne (ne_of_none e1 hfa)]; exact e1
    have e3 : upd H1 fa (.lst [V.int (g : Nat)]) fa = some (.lst (Ns [g])) := upd_same
    generalize upd H1 fa (.lst [V.int (g : Nat)]) = H2 at *
    walk_at "tx"
    let E : Nat → Nat → Prop := fun i j => j ∈ rows i
    refine ⟨fun m σ' H' => ∃ r ps ring fa, m = (n - ps.length) + (if ring = [] then 0 else 1) ∧ Same H H' ∧ H' d = some (.dK (WW.Dk ps)) ∧ H' fa = some (.lst (Ns ring)) ∧ WW.Bo E g n r ps ring ∧ ∃ v4 v5 v6 : Option V, σ' = [some (.ref L), some (.int g), some (.ref d), some (.ref fa), v4, v5, v6],
      ⟨_, 0, [(g, 0)], [g], fa, rfl, s2, e2, e3, WW.Bo.zero hg, none, none, none, rfl⟩, ?_⟩
    clear e3 e2 s2 hfa e1 s1 H2 H1 fa
    rintro m σ' H' ⟨r, ps, ring, fa, rfl, s1, e1, e2, B, v4, v5, v6, rfl⟩
    walk_at "tx"
    refine ⟨_, .inl ⟨_, SqL.of e2, rfl⟩, ?_⟩
    have er : (Ns ring).isEmpty = ring.isEmpty := by cases ring <;> rfl
    rw [er]
    cases ring with
    | nil =>
      refine RD.d_iteF ?_
      walk_at "tx"
      exact k H' d ps s1 hd e1 B.end_ B.nd
    | cons r0 rr =>
      refine RD.d_iteT ?_
      have rne : ¬ (r0 :: rr = []) := by simp
      generalize hring : r0 :: rr = ring at *
      clear hring er
      refine ⟨fun σ' H' => ∃ ps' far fb, (n - ps'.length) + (if far = [] then 0 else 1) < (n - ps.length) + (if ring = [] then 0 else 1) ∧ Same H H' ∧ H' d = some (.dK (WW.Dk ps')) ∧ H' fb = some (.lst (Ns far)) ∧ WW.Bo E g n (r + 1) ps' far ∧ ∃ v4 v5 v6 : Option V, σ' = [some (.ref L), some (.int g), some (.ref d), some (.ref fb), v4, v5, v6], ?_, ?_⟩
      · rintro σ' H' ⟨ps', far, fb, lt', h1, h2, h3, h4, v4, v5, v6, rfl⟩
        exact ⟨_, lt', r + 1, ps', far, fb, rfl, h1, h2, h3, h4, v4, v5, v6, rfl⟩
      · walk_at "tx"
        refine ⟨by show 0 ≤ sizeLine; decide, fun fb hfb => ?_⟩
        have hfb0 := s1.free hfb
        have nbd : d ≠ fb := ne_of_none e1 hfb
        have nba : fa ≠ fb := ne_of_none e2 hfb
        have nad : fa ≠ d := fun z => by subst z; rw [e1] at e2; cases e2
        have s2 : Same H (upd H' fb (.lst [])) := s1.trans (same_upd hfb)
        have f1 : upd H' fb (.lst []) d = some (.dK (WW.Dk ps)) := by rw [upd_ne nbd]; exact e1
        have f2 : upd H' fb (.lst []) fa = some (.lst (Ns ring)) := by rw [upd_ne nba]; exact e2
        have f3 : upd H' fb (.lst []) fb = some (.lst (Ns [])) := upd_same
        generalize upd H' fb (.lst []) = H2 at *
        walk_at "tx"
        refine RD.f_list (K := K) (a := fa) (xs := Ns ring) (fun a σ' H' => Same H H' ∧ H' fa = some (.lst (Ns ring)) ∧ (∃ ps' far, H' d = some (.dK (WW.Dk ps')) ∧ H' fb = some (.lst (Ns far)) ∧ ps'.length = ps.length + far.length ∧ WW.Bf E g n r ps' far (fun v => ∃ i, i < a ∧ ∃ u, ring[i]? = some u ∧ E u v)) ∧
            ∃ v5 v6 : Option V, σ' = [some (.ref L), some (.int g), some (.ref d), some (.ref fa), some (.ref fb), v5, v6])
          ⟨s2, f2, ⟨ps, [], f1, f3, rfl, B.begin.iff fun v => by simp⟩, v5, v6, rfl⟩ ?_ ?_ ?_
        · rintro a σ' H' _ ⟨_, q, _⟩
          exact SqL.of q
        · rintro a y σ' H3 hy ⟨s3, g2, ⟨ps', far, g1, g3, gl, C⟩, v5, v6, rfl⟩
          obtain ⟨u, hu, rfl⟩ := WW.Ns_get hy
          have du : WW.Ds E g r u := (B.ring u).mp (List.mem_of_getElem? hu)
          have un : u < n := by
            have := C.here du
            obtain ⟨p, mp, rfl⟩ : ∃ p ∈ ps', p.1 = u := by
              have : ¬ u ∉ ps'.map (·.1) := fun z => by rw [WW.look_none.mpr z] at this; cases this
              obtain ⟨p, mp, e⟩ := List.mem_map.mp (Classical.not_not.mp this)
              exact ⟨p, mp, e⟩
            exact C.lt p mp
          walk_at "tx"
          refine RowsAt.ix R s3 un rfl (fun ra hra0 => ?_)
          have hra := s3 _ _ hra0
          refine ⟨ra, rfl, ⟨_, SqL.of hra⟩, ?_⟩
          have nrd : ra ≠ d := ne_of_none hra0 hd
          have nrb : ra ≠ fb := ne_of_none hra0 hfb0
          refine RD.f_list (K := K) (a := ra) (xs := Ns (rows u)) (fun b σ' H' => Same H H' ∧ H' fa = some (.lst (Ns ring)) ∧ H' ra = some (.lst (Ns (rows u))) ∧ (∃ ps' far, H' d = some (.dK (WW.Dk ps')) ∧ H' fb = some (.lst (Ns far)) ∧ ps'.length = ps.length + far.length ∧
                WW.Bf E g n r ps' far (fun v => (∃ i, i < a ∧ ∃ u, ring[i]? = some u ∧ E u v) ∨ ∃ j, j < b ∧ (rows u)[j]? = some v)) ∧
              ∃ v6 : Option V, σ' = [some (.ref L), some (.int g), some (.ref d), some (.ref fa), some (.ref fb), some (.int u), v6])
            ⟨s3, g2, hra, ⟨ps', far, g1, g3, gl, C.iff fun v => by simp⟩, v6, rfl⟩ ?_ ?_ ?_
          · rintro b σ' H' _ ⟨_, _, q, _⟩
            exact SqL.of q
          · rintro b y σ' H4 hy ⟨s4, i2, ira, ⟨ps2, far2, i1, i3, il, D⟩, v6, rfl⟩
            obtain ⟨v, hv, rfl⟩ := WW.Ns_get hy
            have ev : E u v := List.mem_of_getElem? hv
            have seen : ∀ w, ((∃ i, i < a ∧ ∃ u, ring[i]? = some u ∧ E u w) ∨ ∃ j, j < b + 1 ∧ (rows u)[j]? = some w) ↔ ((∃ i, i < a ∧ ∃ u, ring[i]? = some u ∧ E u w) ∨ ∃ j, j < b ∧ (rows u)[j]? = some w) ∨ w = v := fun w => by
              constructor
              · rintro (z | ⟨j, jl, ej⟩)
                · exact .inl (.inl z)
                · by_cases c : j = b
                  · subst c; rw [hv] at ej; cases ej; exact .inr rfl
                  · exact .inl (.inr ⟨j, by omega, ej⟩)
              · rintro ((z | ⟨j, jl, ej⟩) | rfl)
                · exact .inl z
                · exact .inr ⟨j, by omega, ej⟩
                · exact .inr ⟨b, by omega, hv⟩
            walk_at "tx"
            refine ⟨d, _, rfl, DGet.k (k := Sum.inl (v : Int)) i1, _, rfl, ?_⟩
            rw [WW.valV_Dk]
            cases ev2 : WW.look ps2 v with
            | some dd =>
              refine RD.d_iteF ?_
              walk_at "tx"
              exact ⟨s4, i2, ira, ⟨ps2, far2, i1, i3, il, (D.old (by rw [ev2]; simp)).iff seen⟩, _, rfl⟩
            | none =>
              refine RD.d_iteT ?_
              have len2 := D.len
              have sz : ps2.length < sizeLine := Nat.lt_of_le_of_lt (Nat.le_trans len2 n41) (by decide)
              have nbd' : fb ≠ d := nbd.symm
              walk_at "tx"
              refine RD.d_dput ?_
              walk_at "tx"
              refine ⟨d, _, rfl, .inl ⟨WW.Dk ps2, Sum.inl (u : Int), .inl i1, rfl, by rw [WW.valV_Dk, D.here du]; rfl⟩, ?_⟩
              walk_at "tx"
              refine ⟨d, _, rfl, DPut.k (k := Sum.inl (v : Int)) i1 (by unfold WW.Dk; rw [List.length_map]; exact sz), ?_⟩
              rw [show V.int ((r : Int) + 1) = V.int ((r + 1 : Nat) : Int) from rfl, WW.Dk_put ev2]
              have s5 : Same H (upd H4 d (.dK (WW.Dk (ps2 ++ [(v, r + 1)])))) := fun b o e => by rw [upd_ne (ne_of_none e hd)]; exact s4 _ _ e
              have j1 : upd H4 d (.dK (WW.Dk (ps2 ++ [(v, r + 1)]))) d = some (.dK (WW.Dk (ps2 ++ [(v, r + 1)]))) := upd_same
              have j2 : upd H4 d (.dK (WW.Dk (ps2 ++ [(v, r + 1)]))) fa = some (.lst (Ns ring)) := by rw [upd_ne nad]; exact i2
              have j3 : upd H4 d (.dK (WW.Dk (ps2 ++ [(v, r + 1)]))) fb = some (.lst (Ns far2)) := by rw [upd_ne nbd']; exact i3
              have j4 : upd H4 d (.dK (WW.Dk (ps2 ++ [(v, r + 1)]))) ra = some (.lst (Ns (rows u))) := by rw [upd_ne nrd]; exact ira
              generalize upd H4 d (.dK (WW.Dk (ps2 ++ [(v, r + 1)]))) = H5 at *
              walk_at "tx"
              refine ⟨RD.tyL j3, ?_⟩
              walk_at "tx"
              refine RD.d_app j3 (by rw [WW.Ns_len]; omega) ?_
              rw [WW.Ns_app]
              refine ⟨fun b o e => by rw [upd_ne (ne_of_none e hfb0)]; exact s5 _ _ e, by rw [upd_ne nba]; exact j2, by rw [upd_ne nrb]; exact j4, ⟨_, _, by rw [upd_ne nbd]; exact j1, upd_same, ?_, (D.new du ev (lt _ _ ev) ev2).iff seen⟩, _, rfl⟩
              rw [List.length_append, List.length_append, il]; simp; omega
          · rintro σ' H4 ⟨s4, i2, ira, ⟨ps2, far2, i1, i3, il, D⟩, v6, rfl⟩
            refine ⟨s4, i2, ⟨ps2, far2, i1, i3, il, D.iff fun w => ?_⟩, _, _, rfl⟩
            rw [WW.Ns_len]
            constructor
            · rintro ⟨i, il', z, ez, q⟩
              by_cases c : i = a
              · subst c
                rw [hu] at ez; cases ez
                obtain ⟨j, hj⟩ := List.getElem?_of_mem q
                exact .inr ⟨j, (List.getElem?_eq_some_iff.mp hj).1, hj⟩
              · exact .inl ⟨i, by omega, z, ez, q⟩
            · rintro (⟨i, il', z, ez, q⟩ | ⟨j, jl, ej⟩)
              · exact ⟨i, by omega, z, ez, q⟩
              · exact ⟨a, by omega, u, hu, List.mem_of_getElem? ej⟩
        · rintro σ' H3 ⟨s3, g2, ⟨ps', far, g1, g3, gl, C⟩, v5, v6, rfl⟩
          rw [WW.Ns_len] at C
          have lenp := C.len
          walk_at "tx"
          refine ⟨ps', far, fb, ?_, s3, g1, g3, C.done B.ring (fun u v mu e => ?_), _, _, _, rfl⟩
          · rw [if_neg rne]
            by_cases c : far = []
            · subst c
              rw [if_pos rfl]
              simp at gl
              omega
            · rw [if_neg c]
              have : 0 < far.length := List.length_pos_iff.mpr c
              omega
          · obtain ⟨i, hi⟩ := List.getElem?_of_mem mu
            exact ⟨i, (List.getElem?_eq_some_iff.mp hi).1, u, hi, e⟩
end

/-! ### told words -/
theorem told_look {ws : List WW.Wd} {l : WW.Wd} {rows : Nat → List Nat} {ps : List (Nat × Nat)} (h : LksG ws l rows) (hp : ∀ v r, WW.look ps v = some r ↔ WW.Ds (fun i j => j ∈ rows i) 0 r v) : (WW.look ps l.length).isSome = true ↔ WW.Told ws l := by
  have eq : ∀ u v, (v ∈ rows u) ↔ WW.Link ws l u v := h.mem
  constructor
  · intro k
    obtain ⟨r, e⟩ := Option.isSome_iff_exists.mp k
    exact WW.Rc.mono (fun u v z => (eq u v).mp z) ⟨r, ((hp _ r).mp e).1⟩
  · intro k
    obtain ⟨r, d⟩ := (WW.Rc.mono (fun u v z => (eq u v).mpr z) k).ds
    rw [(hp _ r).mpr d]; rfl
def spLeads (K : PySem.W.Frag) : Sp := fun vs H Q _ => ∃ (a : Addr) (ws : List WW.Wd) (l : WW.Wd), vs = [.ref a, .str (WW.S l)] ∧ OQ.SeqAt K H a (WW.Ss ws) ∧ Okp ws l ∧ l.length ≤ 40 ∧
  ∀ b H', Same H H' → (b = true ↔ WW.Told ws l) → Q (.bl b) H'
def spTold (K : PySem.W.Frag) (C : Addr) : Sp := fun vs H Q _ => ∃ (x : Addr) (ws : List WW.Wd) (l : WW.Wd), vs = [.ref x, .str (WW.S l)] ∧ BookAt K C H x ws ∧ Okw ws ∧ IsW 40 l ∧
  ∀ b H', Same H H' → (b = true ↔ WW.Told ws l) → Q (.bl b) H'
def spChkWs (K : PySem.W.Frag) : Sp := fun vs H Q _ => ∃ (a : Addr) (ls : List WW.Wd), vs = [.ref a] ∧ OQ.SeqAt K H a (WW.Ss ls) ∧ ls.length ≤ 20 ∧ (∀ l ∈ ls, IsW 40 l) ∧ ∀ H', Same H H' → Q .non H'
def spTells (K : PySem.W.Frag) (C : Addr) : Sp := fun vs H Q _ => ∃ (x a : Addr) (ws ls : List WW.Wd), vs = [.ref x, .ref a] ∧ BookAt K C H x ws ∧ Okw ws ∧ OQ.SeqAt K H a (WW.Ss ls) ∧ ls.length ≤ 20 ∧ (∀ l ∈ ls, IsW 40 l) ∧
  ∀ b H', Same H H' → (b = true ↔ ∀ l ∈ ls, WW.Told ws l) → Q (.bl b) H'
section
variable {P : Program} {w : World} {K : PySem.W.Frag} {mg : Str → Option Value} {base : Heap}
theorem ok_leads_through (T : Top K mg) : FnOk P w K mg base CX0 2 T.f_leads_through T.fd_leads_through ["pieces", "word"] (spLeads K) := by
  refine T.F_leads_through.ok sc_leads_through (fun vs H Q E h => ?_) (fun cdv A outer s H vs Q E hr h => ?_)
  · obtain ⟨a, ws, l, rfl, _⟩ := h; rfl
  · obtain ⟨a, ws, l, rfl, sa, ok, l40, k⟩ := h
    have hz : l.length ≤ sizeLine := Nat.le_trans l40 (by decide)
    refine ⟨_, (pss_one (ps_ret (pe_cmp (pc_din (hu_of hr) (pe_callB RD.c_len (by rfl) T.n_len (by decide +kernel) (pa_cons (pv 1) pa_nil)) (pe_call (ok_steps_to T) (hr.mono (by decide)) (by rfl) T.g_steps_to T.F_steps_to.kp T.b_steps_to .nil pass0 (pa_cons (pe_call (ok_links_through T) (hr.mono (by decide)) (by rfl) T.g_links_through T.F_links_through.kp T.b_links_through .nil pass0 (pa_cons (pv 0) (pa_cons (pv 1) pa_nil))) (pa_cons pe_int pa_nil)))) rfl))), ?_⟩
    walk_at "tx"
    refine ⟨a, ws, l, rfl, sa, ok, fun H2 L rows s2 hL R lk => ?_⟩
    walk_at "tx"
    refine ⟨L, l.length + 1, 0, rows, rfl, R, fun i j m => ?_, by omega, by omega, fun H3 d ps s3 hd ed hp _ => ?_⟩
    · have := (((lk.mem i j).mp m).le ok.ne).2.1
      omega
    · refine ⟨d, _, rfl, DGet.k (k := Sum.inl (l.length : Int)) ed, ?_⟩
      have e : (valV (WW.Dk ps) (Sum.inl (l.length : Int))).isSome = (WW.look ps l.length).isSome := by
        rw [WW.valV_Dk ps l.length, Option.isSome_map]
      rw [e]
      exact k _ _ (s2.trans s3) (told_look lk hp)
theorem ok_is_told (T : Top K mg) : FnOk P w K mg base CX0 8 T.f_is_told T.fd_is_told ["book", "word"] (spTold K T.C_Book) := by
  refine T.F_is_told.ok sc_is_told (fun vs H Q E h => ?_) (fun cdv A outer s H vs Q E hr h => ?_)
  · obtain ⟨x, ws, l, rfl, _⟩ := h; rfl
  · obtain ⟨x, ws, l, rfl, b, ok, hl, k⟩ := h
    refine ⟨_, (pss_cons (ps_expr (pe_call (ok_check_asked T) (hr.mono (by decide)) (by rfl) T.g_check_asked T.F_check_asked.kp T.b_check_asked .nil pass0 (pa_cons (pv 0) (pa_cons (pv 1) pa_nil))))
 (pss_one (ps_ret (pe_call (ok_leads_through T) (hr.mono (by decide)) (by rfl) T.g_leads_through T.F_leads_through.kp T.b_leads_through .nil pass0 (pa_cons (pe_fld (pv 0) (by rfl)) (pa_cons (pv 1) pa_nil)))))), ?_⟩
    walk_at "tx"
    refine ⟨x, ws, l, rfl, b, hl, fun H1 s1 => ?_⟩
    obtain ⟨dx, t, ex, sq⟩ := b.same s1
    walk_at "tx"
    refine ⟨x, T.C_Book, dx, _, _, rfl, ex, T.cl_Book, T.na_Book_watches, lk_eq, ?_⟩
    walk_at "tx"
    exact ⟨t, ws, l, rfl, .inr sq, ok.pieces hl, hl.hi, fun b H2 s2 hb => k _ _ (s1.trans s2) hb⟩
theorem ok_check_words (T : Top K mg) : FnOk P w K mg base CX0 4 T.f_check_words T.fd_check_words ["words"] (spChkWs K) := by
  refine T.F_check_words.ok sc_check_words (fun vs H Q E h => ?_) (fun cdv A outer s H vs Q E hr h => ?_)
  · obtain ⟨a, ls, rfl, _⟩ := h; rfl
  · obtain ⟨a, ls, rfl, sa, l20, ok, k⟩ := h
    obtain ⟨t, ty, kt⟩ := OQ.SeqAt.row sa
    refine ⟨_, (pss_cons (ps_if (PW.pt (pw_or (pt_not (pt_val (pe_call (ok_is_row T) (hr.mono (by decide)) (by rfl) T.g_is_row T.F_is_row.kp T.b_is_row .nil pass0 (pa_cons (pv 0) pa_nil)))) (pw_or1 (pt_cmpR op_gt (pe_callB RD.c_len (by rfl) T.n_len (by decide +kernel) (pa_cons (pv 0) pa_nil)) (pe_glob (v := V.int 20) (by rfl) T.g_MOST_WORDS ⟨_, rfl⟩) (nomark _)))))
 (pss_one ps_never)
 pss_nil)
 (pss_one (ps_for PassesOwn.never rfl (OQ.pi_or (pi_enum (by rfl) T.n_enumerate (pa_cons (pv 0) pa_nil)) (OQ.pi_enumT (by rfl) T.n_enumerate (pa_cons (pv 0) pa_nil))) (pg_tup (by rfl) (pgs_cons (pg_name (i := 1) sc_check_words.nd rfl (Or.inl rfl)) (pgs_cons (pg_name (i := 2) sc_check_words.nd rfl (Or.inl rfl)) pgs_nil)))
 (pss_one (ps_if (pt_not (pt_val (pe_call (ok_is_word T) (hr.mono (by decide)) (by rfl) T.g_is_word T.F_is_word.kp T.b_is_word .nil pass0 (pa_cons (pv 2) pa_nil))))
 (pss_one ps_never)
 pss_nil))))), ?_⟩
    walk_at "tx"
    refine ⟨.ref a, t, true, rfl, ty, kt, fun H1 s1 => ?_⟩
    replace sa := sa.same s1
    walk_at "tx"
    refine sa.len ?_
    walk_at "tx"
    rw [WW.Ss_len, decide_eq_false (by omega : ¬ (ls.length : Int) > 20)]
    walk_at "tx"
    refine OQ.d_enumVar rfl sa (fun J G hw hG => ?_)
    refine RD.f_it hw (fun i σ' H' => Same H1 H' ∧ ∃ v1 v2 : Option V, σ' = [some (.ref a), v1, v2]) ⟨Same.refl _, none, none, rfl⟩ (fun i σ' H' _ q => hG _ q.1) ?_ ?_
    · rintro i y σ' H' H'' il ⟨s3, v1, v2, rfl⟩ ⟨p, u, v, rfl, hp, rfl, e1, e2⟩
      cases e1
      obtain ⟨wd, ew, rfl⟩ := WW.Ss_get e2
      have s4 := s3.trans (same_upd (o := HO.tup [V.int (i : Nat), V.str (WW.S wd)]) hp)
      have ep : upd H' p (.tup [V.int (i : Nat), V.str (WW.S wd)]) p = some (.tup [V.int (i : Nat), V.str (WW.S wd)]) := upd_same
      generalize upd H' p (.tup [V.int (i : Nat), V.str (WW.S wd)]) = H4 at *
      refine RD.d_two rfl (SqT.of ep) ?_
      walk_at "tx"
      refine ⟨wd, rfl, ok wd (List.mem_of_getElem? ew), fun H5 s5 => ?_⟩
      walk_at "tx"
      exact ⟨s4.trans s5, _, _, rfl⟩
    · rintro σ' H' ⟨s3, v1, v2, rfl⟩
      exact k _ (s1.trans s3)
theorem ok_tells (T : Top K mg) : FnOk P w K mg base CX0 10 T.f_tells T.fd_tells ["book", "words"] (spTells K T.C_Book) := by
  refine T.F_tells.ok sc_tells (fun vs H Q E h => ?_) (fun cdv A outer s H vs Q E hr h => ?_)
  · obtain ⟨x, a, ws, ls, rfl, _⟩ := h; rfl
  · obtain ⟨x, a, ws, ls, rfl, b, okw, sa, l20, ok, k⟩ := h
    refine ⟨_, (pss_cons (ps_expr (pe_call (ok_check_book T) (hr.mono (by decide)) (by rfl) T.g_check_book T.F_check_book.kp T.b_check_book .nil pass0 (pa_cons (pv 0) pa_nil)))
 (pss_cons (ps_expr (pe_call (ok_check_words T) (hr.mono (by decide)) (by rfl) T.g_check_words T.F_check_words.kp T.b_check_words .nil pass0 (pa_cons (pv 1) pa_nil)))
 (pss_one (ps_ret (pe_callB (cr_all rfl) (by rfl) T.n_all (by decide +kernel) (pa_cons (pe_lc (own := [("word", 2)]) (g := (gName 2)) (tt := tYes) rfl sc_tells.nd (OQ.pi_seq (pv 1)) (blkOk_by (own := [("word", 2)]) (N := ["book", "words", "word"]) (sc := defScope s_tells) (by decide +kernel)) (fun _ _ _ _ _ => (pg_name (i := 2) sc_tells.nd rfl (Or.inl rfl))) (fun _ _ _ _ _ => pts_nil) (fun _ _ _ _ _ => (pe_call (ok_is_told T) (hr.mono (by decide)) (by rfl) T.g_is_told T.F_is_told.kp T.b_is_told .nil pass0 (pa_cons (pv 0) (pa_cons (pv 2) pa_nil))))) pa_nil)))))), ?_⟩
    walk_at "tx"
    refine ⟨x, ws, rfl, b, ?_⟩
    walk_at "tx"
    refine ⟨a, ls, rfl, sa, l20, ok, fun H1 s1 => ?_⟩
    replace sa := sa.same s1
    replace b := b.same s1
    walk_at "tx"
    refine OQ.d_seqVar rfl sa (fun J G hw hG => fun D hD => ?_)
    have sD := same_upd (o := HO.lst []) hD
    refine lc_it hw (fun i H' => Same H1 H' ∧ ∃ bs : List Bool, bs.length = i ∧ H' D = some (.lst (bs.map V.bl)) ∧ ∀ (j : Nat) (q : Bool) (l : WW.Wd), bs[j]? = some q → ls[j]? = some l → (q = true ↔ WW.Told ws l)) ?_ (fun i H' _ q => hG _ q.1) ?_ ?_
    · exact ⟨sD, [], rfl, upd_same, fun _ _ _ z _ => by simp at z⟩
    · rintro i y H' H'' il ⟨s2, bs, bl, eD, hb⟩ ⟨rfl, e2⟩
      obtain ⟨wd, ew, rfl⟩ := WW.Ss_get e2
      walk_at "tx"
      refine ⟨x, ws, wd, rfl, b.same s2, okw, ok wd (List.mem_of_getElem? ew), fun q H3 s3 hq => ?_⟩
      rw [WW.Ss_len] at il
      refine ⟨_, s3 _ _ eD, by rw [List.length_map, bl]; exact Nat.lt_of_lt_of_le il (Nat.le_trans l20 (by decide)), fun b u e => ?_, bs ++ [q], by rw [List.length_append, bl]; rfl, by rw [upd_same, List.map_append]; rfl, fun j q' l e1 e3 => ?_⟩
      · rw [upd_ne (ne_of_none e hD)]; exact s3 _ _ (s2 _ _ e)
      · by_cases c : j < bs.length
        · rw [List.getElem?_append_left c] at e1
          exact hb j q' l e1 e3
        · have : j = i := by
            have := (List.getElem?_eq_some_iff.mp e1).1
            rw [List.length_append, List.length_singleton] at this; omega
          subst this
          rw [List.getElem?_append_right (by omega), bl, Nat.sub_self] at e1
          cases e1
          rw [ew] at e3; cases e3
          exact hq
    · rintro H' ⟨s2, bs, bl, eD, hb⟩
      rw [WW.Ss_len] at bl
      walk_at "tx"
      refine ⟨D, _, rfl, SqL.of eD, k _ _ (s1.trans s2) ?_⟩
      rw [List.all_eq_true]
      constructor
      · intro h l m
        obtain ⟨j, hj⟩ := List.getElem?_of_mem m
        have jl := (List.getElem?_eq_some_iff.mp hj).1
        have jb : bs[j]? = some (bs[j]'(by omega)) := List.getElem?_eq_getElem (by omega)
        exact (hb j _ l jb hj).mp (h _ (List.mem_of_getElem? jb))
      · intro h q m
        obtain ⟨j, hj⟩ := List.getElem?_of_mem m
        have jl := (List.getElem?_eq_some_iff.mp hj).1
        have lj : ls[j]? = some (ls[j]'(by omega)) := List.getElem?_eq_getElem (by omega)
        exact (hb j q _ hj lj).mpr (h _ (List.mem_of_getElem? lj))
end

/-! ### books with a watch less; needless watches -/
open Classical in
noncomputable def csel (P : WW.Wd → Prop) (ws : List WW.Wd) : List WW.Wd := ws.filter fun w => decide (P w)
theorem csel_snoc {P : WW.Wd → Prop} {ws : List WW.Wd} {w : WW.Wd} : (P w → csel P (ws ++ [w]) = csel P ws ++ [w]) ∧ (¬ P w → csel P (ws ++ [w]) = csel P ws) := by
  unfold csel
  constructor <;> intro h <;> simp [List.filter_append, h]
theorem csel_mem {P : WW.Wd → Prop} {ws : List WW.Wd} {w : WW.Wd} : w ∈ csel P ws ↔ w ∈ ws ∧ P w := by
  unfold csel
  simp [List.mem_filter]
theorem csel_take {P : WW.Wd → Prop} {ws : List WW.Wd} {i : Nat} {w : WW.Wd} (e : ws[i]? = some w) : (P w → csel P (ws.take (i + 1)) = csel P (ws.take i) ++ [w]) ∧ (¬ P w → csel P (ws.take (i + 1)) = csel P (ws.take i)) := by
  rw [List.take_succ, e]
  exact csel_snoc
theorem csel_len (P : WW.Wd → Prop) (ws : List WW.Wd) : (csel P ws).length ≤ ws.length := by
  unfold csel; exact List.length_filter_le ..
/-- without w -/
def less (ws : List WW.Wd) (w : WW.Wd) : List WW.Wd := ws.filter fun v => decide (v ≠ w)
theorem less_mem {ws : List WW.Wd} {v w : WW.Wd} : v ∈ less ws w ↔ v ∈ ws ∧ v ≠ w := by unfold less; simp [List.mem_filter]
theorem Okw.less {ws : List WW.Wd} (h : Okw ws) (w : WW.Wd) : Okw (less ws w) :=
  ⟨Nat.le_trans (List.length_filter_le ..) h.len, fun v m => h.ok v (less_mem.mp m).1, h.nd.sublist List.filter_sublist⟩
theorem less_take {ws : List WW.Wd} {w v : WW.Wd} {i : Nat} (e : ws[i]? = some v) : less (ws.take (i + 1)) w = if v ≠ w then less (ws.take i) w ++ [v] else less (ws.take i) w := by
  unfold less
  rw [List.take_succ, e, List.filter_append]
  by_cases c : v = w
  · rw [if_neg (fun z => z c)]; simp [c]
  · rw [if_pos c]; simp [c]
def spHasW (K : PySem.W.Frag) (C : Addr) : Sp := fun vs H Q _ => ∃ (x : Addr) (ws : List WW.Wd) (w : WW.Wd), vs = [.ref x, .str (WW.S w)] ∧ BookAt K C H x ws ∧ Q (.bl (decide (w ∈ ws))) H
def spLess (K : PySem.W.Frag) (C : Addr) : Sp := fun vs H Q _ => ∃ (x : Addr) (ws : List WW.Wd) (w : WW.Wd), vs = [.ref x, .str (WW.S w)] ∧ BookAt K C H x ws ∧ Okw ws ∧ w ∈ ws ∧ ∀ y H', Same H H' → BookAt K C H' y (less ws w) → Q (.ref y) H'
def spTellsB (K : PySem.W.Frag) (C : Addr) : Sp := fun vs H Q _ => ∃ (x y : Addr) (ws vv : List WW.Wd), vs = [.ref x, .ref y] ∧ BookAt K C H x ws ∧ Okw ws ∧ BookAt K C H y vv ∧ Okw vv ∧
  ∀ b H', Same H H' → (b = true ↔ ∀ l ∈ vv, WW.Told ws l) → Q (.bl b) H'
def Ndl (ws : List WW.Wd) : WW.Wd → Prop := fun w => WW.Told (less ws w) w
def spNeedless (K : PySem.W.Frag) (C : Addr) : Sp := fun vs H Q _ => ∃ (x : Addr) (ws : List WW.Wd), vs = [.ref x] ∧ BookAt K C H x ws ∧ Okw ws ∧
  ∀ p H', Same H H' → H p = none → H' p = some (.lst (WW.Ss (csel (Ndl ws) ws))) → Q (.ref p) H'
section
variable {P : Program} {w : World} {K : PySem.W.Frag} {mg : Str → Option Value} {base : Heap}
theorem ok_Book_has (T : Top K mg) : FnOk P w K mg base CX0 1 T.f_Book_has T.fd_Book_has ["self", "thing"] (spHasW K T.C_Book) := by
  refine T.F_Book_has.ok sc_Book_has (fun vs H Q E h => ?_) (fun cdv A outer s H vs Q E hr h => ?_)
  · obtain ⟨x, ws, l, rfl, _⟩ := h; rfl
  · obtain ⟨x, ws, l, rfl, ⟨dx, t, ex, sq⟩, k⟩ := h
    refine ⟨_, (pss_one (ps_ret (pe_and (pe_callB call_isi (by rfl) T.n_isinstance (by decide +kernel) (pa_cons (pv 1) (pa_cons (pe_bltn (v := V.ty "str") (by rfl) T.n_str (by decide +kernel) rfl) pa_nil))) (pe_one (pe_cmpR op_in_seq (pv 1) (pe_fld (pv 0) (by rfl)) rfl))))), ?_⟩
    walk_at "tx"
    refine RD.d_isi (.ty _) (.base (.str _)) (kit_ty (r := true) (by decide +kernel)) ?_
    walk_at "tx"
    refine ⟨x, T.C_Book, dx, _, _, rfl, ex, T.cl_Book, T.na_Book_watches, lk_eq, ?_⟩
    refine OQ.d_inSs (.inr sq) ?_
    exact k
theorem ok_Book_without_watch (T : Top K mg) : FnOk P w K mg base CX0 6 T.f_Book_without_watch T.fd_Book_without_watch ["self", "watch"] (spLess K T.C_Book) := by
  refine T.F_Book_without_watch.ok sc_Book_without_watch (fun vs H Q E h => ?_) (fun cdv A outer s H vs Q E hr h => ?_)
  · obtain ⟨x, ws, l, rfl, _⟩ := h; rfl
  · obtain ⟨x, ws, l, rfl, ⟨dx, t, ex, sq⟩, ok, lm, k⟩ := h
    refine ⟨_, (pss_cons (ps_if (pt_not (pt_val (pe_meth (pv 0) T.cl_Book T.m_Book_has (ok_Book_has T) (hr.mono (by decide)) T.b_Book_has .nil pass0 (pa_cons (pv 1) pa_nil))))
 (pss_one ps_never)
 pss_nil)
 (pss_one (ps_ret (pe_make T.M_Book (ok_Book__init T) (hr.mono (by decide)) (by rfl) T.g_Book T.b_Book__init .nil pass0 (pa_cons (pe_lc (own := [("kept", 2)]) (g := (gName 2)) (tt := _) rfl sc_Book_without_watch.nd (pi_tup (pe_fld (pv 0) (by rfl))) (blkOk_by (own := [("kept", 2)]) (N := ["self", "watch", "kept"]) (sc := defScope s_Book_without_watch) (by decide +kernel)) (fun _ _ _ _ _ => (pg_name (i := 2) sc_Book_without_watch.nd rfl (Or.inl rfl))) (fun _ _ _ _ _ => (pts_one (pt_cmpR op_ne (pv 2) (pv 1) (nomark _)))) (fun _ _ _ _ _ => (pv 2))) pa_nil))))), ?_⟩
    walk_at "tx"
    refine ⟨x, dx, _, rfl, ex, lk_ne (by decide +kernel), ?_⟩
    walk_at "tx"
    refine ⟨x, ws, l, rfl, ⟨dx, t, ex, sq⟩, ?_⟩
    rw [decide_eq_true lm]
    walk_at "tx"
    refine d_iTup ?_
    walk_at "tx"
    refine ⟨x, T.C_Book, dx, _, _, rfl, ex, T.cl_Book, T.na_Book_watches, lk_eq, ?_⟩
    refine ⟨t, rfl, ⟨_, sq⟩, fun D hD => ?_⟩
    have sD := same_upd (o := HO.lst []) hD
    refine lc_tup (K := K) (a := t) (xs := WW.Ss ws) (fun i H' => Same H H' ∧ H' D = some (.lst (WW.Ss (less (ws.take i) l)))) ⟨sD, upd_same⟩ ?_ ?_ ?_
    · rintro i H' _ ⟨s1, _⟩
      exact OQ.sqT_same sq s1
    · rintro i y H' hy ⟨s1, eD⟩
      obtain ⟨wd, ew, rfl⟩ := WW.Ss_get hy
      have nx := less_take (w := l) ew
      walk_at "tx"
      refine RD.iteN (fun c => ?_) (fun c => ?_)
      · walk_at "tx"
        rw [if_pos c] at nx
        have bd : (less (ws.take i) l).length ≤ 12 := Nat.le_trans (List.length_filter_le ..) (Nat.le_trans (by rw [List.length_take]; omega) ok.len)
        refine ⟨_, eD, by rw [WW.Ss_len]; exact Nat.lt_of_le_of_lt bd (by decide), fun b u e => ?_, ?_⟩
        · rw [upd_ne (ne_of_none e hD)]; exact s1 _ _ e
        · rw [upd_same, WW.Ss_app, nx]
      · rw [if_neg (fun z => z c)] at nx
        exact ⟨s1, by rw [nx]; exact eD⟩
    · rintro H1 ⟨s1, eD⟩
      rw [WW.Ss_len, List.take_length] at eD
      walk_at "tx"
      intro z dz nz ndz nzd
      refine ⟨z, dz, D, less ws l, rfl, upd_same, .inl (SqL.of ?_), ok.less l, fun H2 k2 b2 => ⟨rfl, ?_⟩⟩
      · rw [upd_ne (ne_of_none eD nz), upd_ne (ne_of_none eD ndz)]; exact eD
      · exact k z H2 (s1.trans (Same.made nz ndz (fun b o e n => k2 b o n e))) b2
theorem ok_tells_book (T : Top K mg) : FnOk P w K mg base CX0 10 T.f_tells_book T.fd_tells_book ["one", "other"] (spTellsB K T.C_Book) := by
  refine T.F_tells_book.ok sc_tells_book (fun vs H Q E h => ?_) (fun cdv A outer s H vs Q E hr h => ?_)
  · obtain ⟨x, y, ws, vv, rfl, _⟩ := h; rfl
  · obtain ⟨x, y, ws, vv, rfl, b, ok, b2, ok2, k⟩ := h
    obtain ⟨dy, t, ey, sq⟩ := id b2
    refine ⟨_, (pss_cons (ps_expr (pe_call (ok_check_book T) (hr.mono (by decide)) (by rfl) T.g_check_book T.F_check_book.kp T.b_check_book .nil pass0 (pa_cons (pv 0) pa_nil)))
 (pss_cons (ps_expr (pe_call (ok_check_book T) (hr.mono (by decide)) (by rfl) T.g_check_book T.F_check_book.kp T.b_check_book .nil pass0 (pa_cons (pv 1) pa_nil)))
 (pss_one (ps_ret (pe_callB (cr_all rfl) (by rfl) T.n_all (by decide +kernel) (pa_cons (pe_lc (own := [("watch", 2)]) (g := (gName 2)) (tt := tYes) rfl sc_tells_book.nd (pi_tup (pe_fld (pv 1) (by rfl))) (blkOk_by (own := [("watch", 2)]) (N := ["one", "other", "watch"]) (sc := defScope s_tells_book) (by decide +kernel)) (fun _ _ _ _ _ => (pg_name (i := 2) sc_tells_book.nd rfl (Or.inl rfl))) (fun _ _ _ _ _ => pts_nil) (fun _ _ _ _ _ => (pe_call (ok_is_told T) (hr.mono (by decide)) (by rfl) T.g_is_told T.F_is_told.kp T.b_is_told .nil pass0 (pa_cons (pv 0) (pa_cons (pv 2) pa_nil))))) pa_nil)))))), ?_⟩
    walk_at "tx"
    refine ⟨x, ws, rfl, b, ?_⟩
    walk_at "tx"
    refine ⟨y, vv, rfl, b2, ?_⟩
    walk_at "tx"
    refine d_iTup ?_
    walk_at "tx"
    refine ⟨y, T.C_Book, dy, _, _, rfl, ey, T.cl_Book, T.na_Book_watches, lk_eq, ?_⟩
    refine ⟨t, rfl, ⟨_, sq⟩, fun D hD => ?_⟩
    have sD := same_upd (o := HO.lst []) hD
    refine lc_tup (K := K) (a := t) (xs := WW.Ss vv) (fun i H' => Same H H' ∧ ∃ bs : List Bool, bs.length = i ∧ H' D = some (.lst (bs.map V.bl)) ∧ ∀ (j : Nat) (q : Bool) (l : WW.Wd), bs[j]? = some q → vv[j]? = some l → (q = true ↔ WW.Told ws l)) ?_ ?_ ?_ ?_
    · exact ⟨sD, [], rfl, upd_same, fun _ _ _ z _ => by simp at z⟩
    · rintro i H' _ ⟨s1, _⟩
      exact OQ.sqT_same sq s1
    · rintro i u H' hu ⟨s2, bs, bl, eD, hb⟩
      obtain ⟨wd, ew, rfl⟩ := WW.Ss_get hu
      have il := (List.getElem?_eq_some_iff.mp ew).1
      walk_at "tx"
      refine ⟨x, ws, wd, rfl, b.same s2, ok, (ok2.ok wd (List.mem_of_getElem? ew)).mono (by decide), fun q H3 s3 hq => ?_⟩
      refine ⟨_, s3 _ _ eD, by rw [List.length_map, bl]; exact Nat.lt_of_lt_of_le il (Nat.le_trans ok2.len (by decide)), fun b u e => ?_, bs ++ [q], by rw [List.length_append, bl]; rfl, by rw [upd_same, List.map_append]; rfl, fun j q' l e1 e3 => ?_⟩
      · rw [upd_ne (ne_of_none e hD)]; exact s3 _ _ (s2 _ _ e)
      · by_cases c : j < bs.length
        · rw [List.getElem?_append_left c] at e1
          exact hb j q' l e1 e3
        · have : j = i := by
            have := (List.getElem?_eq_some_iff.mp e1).1
            rw [List.length_append, List.length_singleton] at this; omega
          subst this
          rw [List.getElem?_append_right (by omega), bl, Nat.sub_self] at e1
          cases e1
          rw [ew] at e3; cases e3
          exact hq
    · rintro H' ⟨s2, bs, bl, eD, hb⟩
      rw [WW.Ss_len] at bl
      walk_at "tx"
      refine ⟨D, _, rfl, SqL.of eD, k _ _ s2 ?_⟩
      rw [List.all_eq_true]
      constructor
      · intro h l m
        obtain ⟨j, hj⟩ := List.getElem?_of_mem m
        have jl := (List.getElem?_eq_some_iff.mp hj).1
        have jb : bs[j]? = some (bs[j]'(by omega)) := List.getElem?_eq_getElem (by omega)
        exact (hb j _ l jb hj).mp (h _ (List.mem_of_getElem? jb))
      · intro h q m
        obtain ⟨j, hj⟩ := List.getElem?_of_mem m
        have jl := (List.getElem?_eq_some_iff.mp hj).1
        have lj : vv[j]? = some (vv[j]'(by omega)) := List.getElem?_eq_getElem (by omega)
        exact (hb j q _ hj lj).mpr (h _ (List.mem_of_getElem? lj))
theorem ok_needless (T : Top K mg) : FnOk P w K mg base CX0 10 T.f_needless T.fd_needless ["book"] (spNeedless K T.C_Book) := by
  refine T.F_needless.ok sc_needless (fun vs H Q E h => ?_) (fun cdv A outer s H vs Q E hr h => ?_)
  · obtain ⟨x, ws, rfl, _⟩ := h; rfl
  · obtain ⟨x, ws, rfl, b, ok, k⟩ := h
    obtain ⟨dx, t, ex, sq⟩ := id b
    refine ⟨_, (pss_cons (ps_expr (pe_call (ok_check_book T) (hr.mono (by decide)) (by rfl) T.g_check_book T.F_check_book.kp T.b_check_book .nil pass0 (pa_cons (pv 0) pa_nil)))
 (pss_one (ps_ret (pe_lc (own := [("watch", 1)]) (g := (gName 1)) (tt := _) rfl sc_needless.nd (pi_tup (pe_fld (pv 0) (by rfl))) (blkOk_by (own := [("watch", 1)]) (N := ["book", "watch"]) (sc := defScope s_needless) (by decide +kernel)) (fun _ _ _ _ _ => (pg_name (i := 1) sc_needless.nd rfl (Or.inl rfl))) (fun _ _ _ _ _ => (pts_one (pt_val (pe_call (ok_is_told T) (hr.mono (by decide)) (by rfl) T.g_is_told T.F_is_told.kp T.b_is_told .nil pass0 (pa_cons (pe_meth (pv 0) T.cl_Book T.m_Book_without_watch (ok_Book_without_watch T) (hr.mono (by decide)) T.b_Book_without_watch .nil pass0 (pa_cons (pv 1) pa_nil)) (pa_cons (pv 1) pa_nil)))))) (fun _ _ _ _ _ => (pv 1)))))), ?_⟩
    walk_at "tx"
    refine ⟨x, ws, rfl, b, ?_⟩
    walk_at "tx"
    refine d_iTup ?_
    walk_at "tx"
    refine ⟨x, T.C_Book, dx, _, _, rfl, ex, T.cl_Book, T.na_Book_watches, lk_eq, ?_⟩
    refine ⟨t, rfl, ⟨_, sq⟩, fun D hD => ?_⟩
    have sD := same_upd (o := HO.lst []) hD
    refine lc_tup (K := K) (a := t) (xs := WW.Ss ws) (fun i H' => Same H H' ∧ H' D = some (.lst (WW.Ss (csel (Ndl ws) (ws.take i))))) ⟨sD, by rw [List.take_zero]; exact upd_same⟩ ?_ ?_ ?_
    · rintro i H' _ ⟨s1, _⟩
      exact OQ.sqT_same sq s1
    · rintro i u H' hu ⟨s1, eD⟩
      obtain ⟨wd, ew, rfl⟩ := WW.Ss_get hu
      have hm := List.mem_of_getElem? ew
      walk_at "tx"
      refine ⟨x, dx, _, rfl, s1 _ _ ex, lk_ne (by decide +kernel), ?_⟩
      walk_at "tx"
      refine ⟨x, ws, wd, rfl, b.same s1, ok, hm, fun y H2 s2 by_ => ?_⟩
      walk_at "tx"
      refine ⟨y, less ws wd, wd, rfl, by_, ok.less wd, (ok.ok wd hm).mono (by decide), fun q H3 s3 hq => ?_⟩
      have eD3 := s3 _ _ (s2 _ _ eD)
      have s13 := (s1.trans s2).trans s3
      obtain ⟨c1, c2⟩ := csel_take (P := Ndl ws) ew
      cases q with
      | true =>
        walk_at "tx"
        have bd : (csel (Ndl ws) (ws.take i)).length ≤ 12 := Nat.le_trans (csel_len ..) (Nat.le_trans (by rw [List.length_take]; omega) ok.len)
        refine ⟨_, eD3, by rw [WW.Ss_len]; exact Nat.lt_of_le_of_lt bd (by decide), fun b u e => ?_, ?_⟩
        · rw [upd_ne (ne_of_none e hD)]; exact s13 _ _ e
        · rw [upd_same, WW.Ss_app, c1 (hq.mp rfl)]
      | false =>
        walk_at "tx"
        exact ⟨s13, by rw [c2 (fun z => by have := hq.mpr z; cases this)]; exact eD3⟩
    · rintro H1 ⟨s1, eD⟩
      rw [WW.Ss_len, List.take_length] at eD
      exact k D H1 s1 hD eD
end

/-! ### the law's words -/
theorem alpha_lit : (Str.ofString "abcdefghijklmnopqrstuvwxyz") = WW.S (List.range' 97 26) := WW.alpha_S
theorem nil_lit : (Str.ofString "") = WW.S [] := by decide +kernel
def spLetters : Sp := fun vs H Q _ => ∃ (h c : Addr), vs = [.ref h] ∧ TapeAt H h c ∧ ∀ (l : WW.Wd) (H' : Hp), IsW 3 l → TapeAt H' h c → Kx h H H' → Q (.str (WW.S l)) H'
def spWord : Sp := fun vs H Q _ => ∃ (h c : Addr) (ls : WW.Wd) (lo hi : Nat), vs = [.ref h, .str (WW.S ls), .int lo, .int hi] ∧ TapeAt H h c ∧ IsW 3 ls ∧ lo ≤ hi ∧ hi ≤ 40 ∧
  ∀ (l : WW.Wd) (H' : Hp), WW.Lw l → lo ≤ l.length → l.length ≤ hi → TapeAt H' h c → But h H H' → Q (.str (WW.S l)) H'
def spPiece : Sp := fun vs H Q _ => ∃ (h c : Addr) (l : WW.Wd), vs = [.ref h, .str (WW.S l)] ∧ TapeAt H h c ∧ IsW 40 l ∧ ∀ (q : WW.Wd) (H' : Hp), IsW 12 q → TapeAt H' h c → But h H H' → Q (.str (WW.S q)) H'
theorem But.trans {h : Addr} {H H1 H2 : Hp} (a : But h H H1) (b : But h H1 H2) : But h H H2 := fun c n => (b c n).trans (a c n)
theorem But.rfl' {h : Addr} {H : Hp} : But h H H := fun _ _ => rfl
theorem But.kp {h : Addr} {H H' : Hp} (b : But h H H') : Kx h H H' := fun c o n e => by rw [b c n]; exact e
theorem TapeAt.same {H H' : Hp} {h c : Addr} (x : TapeAt H h c) (s : Same H H') : TapeAt H' h c := by
  obtain ⟨cs, p, q, m, n, e1, e2, ne, hp⟩ := x
  exact ⟨cs, p, q, m, n, s _ _ e1, s _ _ e2, ne, hp⟩
theorem TapeAt.ne {H : Hp} {h c q : Addr} {o : HO} (x : TapeAt H h c) (e : H q = some o) (n : ∀ p q m n : Int, o ≠ .lst [.ref c, .int p, .int q, .int m, .int n]) : q ≠ h := by
  rintro rfl
  obtain ⟨cs, p, q, m, n', e1, e2, ne, hp⟩ := x
  rw [e] at e1
  exact n _ _ _ _ (Option.some.inj e1)
theorem TapeAt.free {H : Hp} {h c p : Addr} (x : TapeAt H h c) (hp : H p = none) : p ≠ h ∧ p ≠ c := by
  obtain ⟨cs, p, q, m, n', e1, e2, ne, hp⟩ := x
  exact ⟨(ne_of_none e1 (by assumption)).symm, (ne_of_none e2 (by assumption)).symm⟩
theorem TapeAt.upd {H : Hp} {h c p : Addr} {o : HO} (x : TapeAt H h c) (n : p ≠ h) (m : p ≠ c) : TapeAt (upd H p o) h c := by
  obtain ⟨cs, p1, q, m1, n', e1, e2, ne, hp⟩ := x
  exact ⟨cs, p1, q, m1, n', by rw [upd_ne n.symm]; exact e1, by rw [upd_ne m.symm]; exact e2, ne, hp⟩
theorem Kx.fresh {h p : Addr} {H H' : Hp} {o : HO} (k : Kx h H H') (hp : H p = none) : Kx h H (upd H' p o) := fun b u n e => by
  rw [upd_ne (ne_of_none e hp)]; exact k b u n e
theorem log2_lt {i : Int} (k : i.natAbs < 1000000) : i.natAbs.log2 < 9000 := by
  by_cases z : i.natAbs = 0
  · rw [z]; decide
  · exact Nat.lt_trans ((Nat.log2_lt z).mpr (Nat.lt_trans k (by decide : 1000000 < 2 ^ 64))) (by decide)
section
variable {P : Program} {w : World} {K : PySem.W.Frag} {mg : Str → Option Value} {base : Heap}
theorem ok_law_letters (T : Top K mg) : FnOk P w K mg base CX0 3 T.f_law_letters T.fd_law_letters ["tape"] spLetters := by
  refine T.F_law_letters.ok sc_law_letters (fun vs H Q E h => ?_) (fun cdv A outer s H vs Q E hr h => ?_)
  · obtain ⟨h, c, rfl, _⟩ := h; rfl
  · obtain ⟨h, c, rfl, hT, k⟩ := h
    refine ⟨_, (pss_cons (ps_set (i := 1) sc_law_letters.nd rfl (Or.inl rfl) pe_str)
 (pss_cons (ps_set (i := 2) sc_law_letters.nd rfl (Or.inl rfl) (pe_call (ok_law_pick T) (hr.mono (by decide)) (by rfl) T.g_law_pick T.F_law_pick.kp T.b_law_pick .nil pass0 (pa_cons (pv 0) (pa_cons pe_int pa_nil))))
 (pss_cons (ps_set (i := 3) sc_law_letters.nd rfl (Or.inl rfl) (pe_ix ix_list (pe_lst (pa_cons pe_int (pa_cons pe_int (pa_cons pe_int (pa_cons pe_int (pa_cons pe_int (pa_cons pe_int (pa_cons pe_int (pa_cons pe_int pa_nil))))))))) (pe_call (ok_law_pick T) (hr.mono (by decide)) (by rfl) T.g_law_pick T.F_law_pick.kp T.b_law_pick .nil pass0 (pa_cons (pv 0) (pa_cons pe_int pa_nil))) (fun _ _ => rfl)))
 (pss_cons (ps_set (i := 4) sc_law_letters.nd rfl (Or.inl rfl) pe_str)
 (pss_cons (ps_for PassesOwn.never rfl (pi_range1 (by rfl) T.n_range (pa_cons (pe_op op_add pe_int (pe_call (ok_law_pick T) (hr.mono (by decide)) (by rfl) T.g_law_pick T.F_law_pick.kp T.b_law_pick .nil pass0 (pa_cons (pv 0) (pa_cons pe_int pa_nil)))) pa_nil)) (pg_name (i := 5) sc_law_letters.nd rfl (Or.inl rfl))
 (pss_one (ps_set (i := 4) sc_law_letters.nd rfl (Or.inl rfl) (pe_op RD.o_addS (pv 4) (pe_ix ix_str (pv 1) (pe_op op_mod (pe_callTy RD.c_int (by rfl) T.n_int (by decide +kernel) (pa_cons (pe_op op_add (pv 2) (pe_op op_mul (pv 3) (pv 5))) pa_nil)) pe_int) (fun _ _ => rfl))))))
 (pss_one (ps_ret (pv 4)))))))), ?_⟩
    rw [alpha_lit, nil_lit]
    walk_at "tx"
    refine ⟨h, c, 26, rfl, hT, by decide, by decide +kernel, fun r0 H1 a0 b0 hT1 k1 => ?_⟩
    walk_at "tx"
    refine ⟨by show 8 ≤ sizeLine; decide, fun q hq => ?_⟩
    have hT2 := hT1.same (same_upd (o := HO.lst [V.int 1, V.int 3, V.int 5, V.int 7, V.int 9, V.int 11, V.int 15, V.int 17]) hq)
    have nq : q ≠ h := hT2.ne upd_same (by intro _ _ _ _ z; cases z)
    have k2 : Kx h H (upd H1 q (.lst [V.int 1, V.int 3, V.int 5, V.int 7, V.int 9, V.int 11, V.int 15, V.int 17])) := k1.kp.trans (Same.kx (same_upd hq))
    have eq : upd H1 q (.lst [V.int 1, V.int 3, V.int 5, V.int 7, V.int 9, V.int 11, V.int 15, V.int 17]) q = some (.lst ([1, 3, 5, 7, 9, 11, 15, 17].map V.int)) := upd_same
    generalize upd H1 q (.lst [V.int 1, V.int 3, V.int 5, V.int 7, V.int 9, V.int 11, V.int 15, V.int 17]) = H2 at *
    walk_at "tx"
    refine ⟨h, c, 8, rfl, hT2, by decide, by decide +kernel, fun r1 H3 a1 b1 hT3 k3 => ?_⟩
    obtain ⟨st, est, s0, s1⟩ : ∃ st : Int, atI (([1, 3, 5, 7, 9, 11, 15, 17] : List Int).map V.int) r1 = some (.int st) ∧ 0 ≤ st ∧ st ≤ 17 := by
      obtain ⟨n, rfl⟩ := Int.eq_ofNat_of_zero_le a1
      have : n < 8 := by omega
      match n, this with
      | 0, _ => exact ⟨1, rfl, by decide, by decide⟩
      | 1, _ => exact ⟨3, rfl, by decide, by decide⟩
      | 2, _ => exact ⟨5, rfl, by decide, by decide⟩
      | 3, _ => exact ⟨7, rfl, by decide, by decide⟩
      | 4, _ => exact ⟨9, rfl, by decide, by decide⟩
      | 5, _ => exact ⟨11, rfl, by decide, by decide⟩
      | 6, _ => exact ⟨15, rfl, by decide, by decide⟩
      | 7, _ => exact ⟨17, rfl, by decide, by decide⟩
    refine RD.d_ixL (SqL.of (by rw [k3 q nq]; exact eq)) est ?_
    walk_at "tx"
    refine ⟨h, c, 3, rfl, hT3, by decide, by decide +kernel, fun r2 H4 a2 b2 hT4 k4 => ?_⟩
    walk_at "tx"
    refine ⟨_, rfl, by omega, by omega, ?_⟩
    refine RD.f_range (lo := 0) (n := (1 + r2).toNat) (fun i σ' H' => H' = H4 ∧ ∃ (l : WW.Wd) (v : Option V), l.length = i ∧ WW.Lw l ∧ σ' = [some (.ref h), some (.str (WW.S (List.range' 97 26))), some (.int r0), some (.int st), some (.str (WW.S l)), v])
      ⟨rfl, [], none, rfl, WW.Lw.nil, rfl⟩ ?_ ?_
    · rintro i σ' H' il ⟨rfl, l, v, ll, lw, rfl⟩
      walk_at "tx"
      have e0 : 0 ≤ (r0 + st * (0 + (i : Int))) % 26 := Int.emod_nonneg _ (by decide)
      have e1 : (r0 + st * (0 + (i : Int))) % 26 < 26 := Int.emod_lt_of_pos _ (by decide)
      generalize (r0 + st * (0 + (i : Int))) % 26 = y at *
      refine RD.d_ixS (a := y.toNat) (by omega) (by rw [List.length_range']; decide) (WW.alpha_at (by omega)) ?_
      have l3 : l.length + 1 ≤ 3 := by omega
      refine RD.d_addS (Nat.le_trans (by rw [List.length_singleton]; exact l3) (by decide)) ?_
      exact ⟨rfl, _, _, by rw [List.length_append, ll]; rfl, lw.app (WW.Lw.one ⟨by omega, by omega⟩), rfl⟩
    · rintro σ' H' ⟨rfl, l, v, ll, lw, rfl⟩
      walk_at "tx"
      exact k l _ ⟨by omega, by omega, lw⟩ hT4 (k2.trans (k3.kp.trans k4.kp))
theorem ok_law_word (T : Top K mg) : FnOk P w K mg base CX0 3 T.f_law_word T.fd_law_word ["tape", "letters", "least", "most"] spWord := by
  refine T.F_law_word.ok sc_law_word (fun vs H Q E h => ?_) (fun cdv A outer s H vs Q E hr h => ?_)
  · obtain ⟨h, c, ls, lo, hi, rfl, _⟩ := h; rfl
  · obtain ⟨h, c, ls, lo, hi, rfl, hT, ⟨l1, l3, lw⟩, lh, h40, k⟩ := h
    have lz : ls.length ≤ sizeLine := Nat.le_trans l3 (by decide)
    refine ⟨_, (pss_cons (ps_set (i := 4) sc_law_word.nd rfl (Or.inl rfl) pe_str)
 (pss_cons (ps_for PassesOwn.never rfl (pi_range1 (by rfl) T.n_range (pa_cons (pe_op op_add (pv 2) (pe_call (ok_law_pick T) (hr.mono (by decide)) (by rfl) T.g_law_pick T.F_law_pick.kp T.b_law_pick .nil pass0 (pa_cons (pv 0) (pa_cons (pe_op op_add (pe_op op_sub (pv 3) (pv 2)) pe_int) pa_nil)))) pa_nil)) (pg_name (i := 5) sc_law_word.nd rfl (Or.inl rfl))
 (pss_one (ps_set (i := 4) sc_law_word.nd rfl (Or.inl rfl) (pe_op RD.o_addS (pv 4) (pe_ix ix_str (pv 1) (pe_call (ok_law_pick T) (hr.mono (by decide)) (by rfl) T.g_law_pick T.F_law_pick.kp T.b_law_pick .nil pass0 (pa_cons (pv 0) (pa_cons (pe_callB RD.c_len (by rfl) T.n_len (by decide +kernel) (pa_cons (pv 1) pa_nil)) pa_nil))) (fun _ _ => rfl))))))
 (pss_one (ps_ret (pv 4))))), ?_⟩
    rw [nil_lit]
    walk_at "tx"
    refine ⟨h, c, (hi : Int) - lo + 1, rfl, hT, by omega, log2_lt (by omega), fun r0 H1 a0 b0 hT1 k1 => ?_⟩
    walk_at "tx"
    refine ⟨_, rfl, by omega, by omega, ?_⟩
    refine RD.f_range (lo := 0) (n := ((lo : Int) + r0).toNat) (fun i σ' H' => TapeAt H' h c ∧ But h H H' ∧ ∃ (l : WW.Wd) (v : Option V), l.length = i ∧ WW.Lw l ∧ σ' = [some (.ref h), some (.str (WW.S ls)), some (.int lo), some (.int hi), some (.str (WW.S l)), v])
      ⟨hT1, k1, [], none, rfl, WW.Lw.nil, rfl⟩ ?_ ?_
    · rintro i σ' H' il ⟨hT2, k2, l, v, ll, lwl, rfl⟩
      walk_at "tx"
      refine ⟨h, c, ls.length, rfl, hT2, by omega, log2_lt (by omega), fun r1 H2 a1 b1 hT3 k3 => ?_⟩
      have r1l : r1.toNat < ls.length := by omega
      refine RD.d_ixS (a := r1.toNat) (c := ls[r1.toNat]) (by omega) lz (List.getElem?_eq_getElem r1l) ?_
      have l41 : l.length + 1 ≤ 41 := by omega
      refine RD.d_addS (Nat.le_trans (by rw [List.length_singleton]; exact l41) (by decide)) ?_
      exact ⟨hT3, k2.trans k3, _, _, by rw [List.length_append, ll]; rfl, lwl.app (WW.Lw.one (lw _ (List.getElem_mem r1l))), rfl⟩
    · rintro σ' H' ⟨hT2, k2, l, v, ll, lwl, rfl⟩
      walk_at "tx"
      exact k l _ lwl (by omega) (by omega) hT2 k2
theorem ok_law_piece (T : Top K mg) : FnOk P w K mg base CX0 3 T.f_law_piece T.fd_law_piece ["tape", "word"] spPiece := by
  refine T.F_law_piece.ok sc_law_piece (fun vs H Q E h => ?_) (fun cdv A outer s H vs Q E hr h => ?_)
  · obtain ⟨h, c, l, rfl, _⟩ := h; rfl
  · obtain ⟨h, c, l, rfl, hT, ⟨l1, l40, lw⟩, k⟩ := h
    have lz : l.length ≤ sizeLine := Nat.le_trans l40 (by decide)
    refine ⟨_, (pss_cons (ps_set (i := 2) sc_law_piece.nd rfl (Or.inl rfl) (pe_call (ok_law_pick T) (hr.mono (by decide)) (by rfl) T.g_law_pick T.F_law_pick.kp T.b_law_pick .nil pass0 (pa_cons (pv 0) (pa_cons (pe_callB RD.c_len (by rfl) T.n_len (by decide +kernel) (pa_cons (pv 1) pa_nil)) pa_nil))))
 (pss_cons (ps_set (i := 3) sc_law_piece.nd rfl (Or.inl rfl) (pe_op op_add pe_int (pe_call (ok_law_pick T) (hr.mono (by decide)) (by rfl) T.g_law_pick T.F_law_pick.kp T.b_law_pick .nil pass0 (pa_cons (pv 0) (pa_cons (pe_callB (call_min2 rfl) (by rfl) T.n_min (by decide +kernel) (pa_cons (pe_op op_sub (pe_callB RD.c_len (by rfl) T.n_len (by decide +kernel) (pa_cons (pv 1) pa_nil)) (pv 2)) (pa_cons pe_int pa_nil))) pa_nil)))))
 (pss_one (ps_ret (pe_slice sl_str (pv 1) (po_some (pv 2)) (po_some (pe_op op_add (pv 2) (pv 3)))))))), ?_⟩
    walk_at "tx"
    refine ⟨h, c, l.length, rfl, hT, by omega, log2_lt (by omega), fun r0 H1 a0 b0 hT1 k1 => ?_⟩
    walk_at "tx"
    refine ⟨_, _, rfl, ?_⟩
    walk_at "tx"
    have e0 : 1 ≤ (if (12 : Int) < (l.length : Int) - r0 then 12 else (l.length : Int) - r0) := by split <;> omega
    have e1 : (if (12 : Int) < (l.length : Int) - r0 then 12 else (l.length : Int) - r0) ≤ 12 := by split <;> omega
    have e2 : (if (12 : Int) < (l.length : Int) - r0 then 12 else (l.length : Int) - r0) ≤ (l.length : Int) - r0 := by split <;> omega
    generalize (if (12 : Int) < (l.length : Int) - r0 then 12 else (l.length : Int) - r0) = m at *
    refine ⟨h, c, m, rfl, hT1, by omega, log2_lt (by omega), fun r1 H2 a1 b1 hT2 k2 => ?_⟩
    walk_at "tx"
    refine RD.d_cutS (a := r0.toNat) (b := (r0 + (1 + r1)).toNat) (by omega) (by omega) lz ?_
    refine k _ _ ⟨?_, ?_, lw.piece _ _⟩ hT2 (k1.trans k2)
    · rw [WW.piece_length]; omega
    · rw [WW.piece_length]; omega
end

/-! ### the law's watches -/
/-- unlike watches, at most n -/
structure OkS (n : Nat) (ws : List WW.Wd) : Prop where
  len : ws.length ≤ n
  ok : ∀ w ∈ ws, IsW 12 w
  nd : ws.Nodup
theorem OkS.nil {n : Nat} : OkS n [] := ⟨Nat.zero_le _, (fun _ z => nomatch z), List.nodup_nil⟩
theorem OkS.mono {m n : Nat} {ws : List WW.Wd} (h : OkS m ws) (k : m ≤ n) : OkS n ws := ⟨Nat.le_trans h.len k, h.ok, h.nd⟩
theorem OkS.snoc {n : Nat} {ws : List WW.Wd} {w : WW.Wd} (h : OkS n ws) (hw : IsW 12 w) (m : w ∉ ws) : OkS (n + 1) (ws ++ [w]) :=
  ⟨by rw [List.length_append]; exact Nat.succ_le_succ h.len, fun v hv => (List.mem_append.mp hv).elim (h.ok v) (fun z => by rw [List.mem_singleton.mp z]; exact hw), WW.nodup_snoc h.nd m⟩
def spPathed : Sp := fun vs H Q _ => ∃ (h c : Addr) (l : WW.Wd), vs = [.ref h, .str (WW.S l)] ∧ TapeAt H h c ∧ IsW 40 l ∧
  ∀ (p : Addr) (ws : List WW.Wd) (H' : Hp), TapeAt H' h c → Kx h H H' → H p = none → p ≠ h → H' p = some (.lst (WW.Ss ws)) → OkS 8 ws → Q (.ref p) H'
section
variable {P : Program} {w : World} {K : PySem.W.Frag} {mg : Str → Option Value} {base : Heap}
theorem ok_law_pathed (T : Top K mg) : FnOk P w K mg base CX0 3 T.f_law_pathed T.fd_law_pathed ["tape", "word"] spPathed := by
  refine T.F_law_pathed.ok sc_law_pathed (fun vs H Q E h => ?_) (fun cdv A outer s H vs Q E hr h => ?_)
  · obtain ⟨h, c, l, rfl, _⟩ := h; rfl
  · obtain ⟨h, c, l, rfl, hT, ⟨l1, l40, lw⟩, k⟩ := h
    have lz : l.length ≤ sizeLine := Nat.le_trans l40 (by decide)
    refine ⟨_, (pss_cons (ps_set (i := 2) sc_law_pathed.nd rfl (Or.inl rfl) (pe_lst pa_nil))
 (pss_cons (ps_set (i := 3) sc_law_pathed.nd rfl (Or.inl rfl) pe_int)
 (pss_cons (ps_for PassesOwn.never rfl (pi_range1 (by rfl) T.n_range (pa_cons pe_int pa_nil)) (pg_name (i := 4) sc_law_pathed.nd rfl (Or.inl rfl))
 (pss_cons (ps_set (i := 5) sc_law_pathed.nd rfl (Or.inl rfl) (pe_call (ok_law_pick T) (hr.mono (by decide)) (by rfl) T.g_law_pick T.F_law_pick.kp T.b_law_pick .nil pass0 (pa_cons (pv 0) (pa_cons (pe_op op_add (pe_callB RD.c_len (by rfl) T.n_len (by decide +kernel) (pa_cons (pv 1) pa_nil)) pe_int) pa_nil))))
 (C8.pss_cut (ps_if (PW.pt (pw_or (pt_cmpR op_eq (pv 4) pe_int (nomark _)) (pw_or1 (pt_cmpR op_eq (pe_call (ok_law_pick T) (hr.mono (by decide)) (by rfl) T.g_law_pick T.F_law_pick.kp T.b_law_pick .nil pass0 (pa_cons (pv 0) (pa_cons pe_int pa_nil))) pe_int (nomark _)))))
 (pss_one (ps_set (i := 5) sc_law_pathed.nd rfl (Or.inl rfl) (pe_callB RD.c_len (by rfl) T.n_len (by decide +kernel) (pa_cons (pv 1) pa_nil))))
 pss_nil)
 (C8.pss_cut (ps_if (pt_cmpR op_gt (pe_op op_sub (pv 5) (pv 3)) pe_int (nomark _))
 (pss_one (ps_set (i := 5) sc_law_pathed.nd rfl (Or.inl rfl) (pe_op op_add (pv 3) pe_int)))
 pss_nil)
 (C8.pss_cut (ps_if (pt_cmpR op_gt (pe_op op_sub (pv 3) (pv 5)) pe_int (nomark _))
 (pss_one (ps_set (i := 5) sc_law_pathed.nd rfl (Or.inl rfl) (pe_op op_sub (pv 3) pe_int)))
 pss_nil)
 (pss_cons (ps_set (i := 6) sc_law_pathed.nd rfl (Or.inl rfl) (pe_slice sl_str (pv 1) (po_some (pe_callB (call_min2 rfl) (by rfl) T.n_min (by decide +kernel) (pa_cons (pv 3) (pa_cons (pv 5) pa_nil)))) (po_some (pe_callB (call_max2 rfl) (by rfl) T.n_max (by decide +kernel) (pa_cons (pv 3) (pa_cons (pv 5) pa_nil))))))
 (C8.pss_cut (ps_if (PW.pt (pw_and (pt_cmpR op_ne (pv 6) pe_str (nomark _)) (pw_and1 (pt_cmpR op_notIn_seq (pv 6) (pv 2) rfl))))
 (pss_one (ps_expr (pe_bm PySem.F.plainAttrs_list PySem.F.slot_list_append PySem.F.type_list_append mt_append (pv 2) (pa_cons (pv 6) pa_nil))))
 pss_nil)
 (pss_cons (ps_set (i := 3) sc_law_pathed.nd rfl (Or.inl rfl) (pv 5))
 (pss_one (ps_if (pt_cmpR op_eq (pv 3) (pe_callB RD.c_len (by rfl) T.n_len (by decide +kernel) (pa_cons (pv 1) pa_nil)) (nomark _))
 (pss_one ps_break)
 pss_nil))))))))))
 (pss_one (ps_ret (pv 2)))))), ?_⟩
    rw [nil_lit]
    walk_at "tx"
    refine ⟨by show 0 ≤ sizeLine; decide, fun p hp => ?_⟩
    have hT1 := hT.same (same_upd (o := HO.lst []) hp)
    have nph : p ≠ h := hT1.ne upd_same (by intro _ _ _ _ z; cases z)
    have npc : p ≠ c := (hT.free hp).2
    have k1 : Kx h H (upd H p (.lst [])) := Same.kx (same_upd hp)
    have ep : upd H p (.lst []) p = some (.lst (WW.Ss [])) := upd_same
    generalize upd H p (.lst []) = H1 at *
    walk_at "tx"
    refine ⟨_, rfl, by omega, by omega, ?_⟩
    refine RD.f_range (lo := 0) (n := (8 : Int).toNat) (fun i σ' H' => TapeAt H' h c ∧ Kx h H H' ∧ (∃ ws, H' p = some (.lst (WW.Ss ws)) ∧ OkS i ws) ∧ ∃ (sp : Nat) (v4 v5 v6 : Option V), sp ≤ l.length ∧ σ' = [some (.ref h), some (.str (WW.S l)), some (.ref p), some (.int sp), v4, v5, v6])
      ⟨hT1, k1, ⟨[], ep, .nil⟩, 0, none, none, none, Nat.zero_le _, rfl⟩ ?_ ?_
    · rintro i σ' H2 il ⟨hT2, k2, ⟨ws, ep2, ok⟩, sp, v4, v5, v6, spl, rfl⟩
      have i8 : i < 8 := il
      walk_at "tx"
      refine ⟨h, c, (l.length : Int) + 1, rfl, hT2, by omega, log2_lt (by omega), fun r0 H3 a0 b0 hT3 k3 => ?_⟩
      walk_at "tx"
      refine RD.d_cut (fun σ' H' => TapeAt H' h c ∧ Kx h H H' ∧ H' p = some (.lst (WW.Ss ws)) ∧ ∃ (ot : Nat) (v6 : Option V), ot ≤ l.length ∧ σ' = [some (.ref h), some (.str (WW.S l)), some (.ref p), some (.int sp), some (.int (0 + i)), some (.int ot), v6]) ?_ ?_
      · have ep3 : H3 p = some (.lst (WW.Ss ws)) := by rw [k3 p nph]; exact ep2
        have k23 : Kx h H H3 := k2.trans k3.kp
        walk_at "tx"
        refine RD.iteD (fun c1 => ?_) (fun c1 => ?_)
        · walk_at "tx"
          exact ⟨hT3, k23, ep3, l.length, _, Nat.le_refl _, rfl⟩
        · walk_at "tx"
          refine ⟨h, c, 4, rfl, hT3, by decide, log2_lt (by decide), fun r1 H4 a1 b1 hT4 k4 => ?_⟩
          have ep4 : H4 p = some (.lst (WW.Ss ws)) := by rw [k4 p nph]; exact ep3
          have k24 : Kx h H H4 := k23.trans k4.kp
          walk_at "tx"
          refine RD.iteD (fun c2 => ?_) (fun c2 => ?_)
          · walk_at "tx"
            exact ⟨hT4, k24, ep4, l.length, _, Nat.le_refl _, rfl⟩
          · walk_at "tx"
            exact ⟨hT4, k24, ep4, r0.toNat, _, by omega, by rw [Int.toNat_of_nonneg a0]; rfl⟩
      · rintro σ' H4 ⟨hT4, k4, ep4, ot, v6, otl, rfl⟩
        refine RD.d_cut (fun σ' H' => H' = H4 ∧ ∃ (ot : Nat) (v6 : Option V), ot ≤ l.length ∧ (ot : Int) - sp ≤ 12 ∧ σ' = [some (.ref h), some (.str (WW.S l)), some (.ref p), some (.int sp), some (.int (0 + i)), some (.int ot), v6]) ?_ ?_
        · walk_at "tx"
          refine RD.iteD (fun c1 => ?_) (fun c1 => ?_)
          · walk_at "tx"
            exact ⟨rfl, sp + 12, _, by omega, by omega, rfl⟩
          · walk_at "tx"
            exact ⟨rfl, ot, _, otl, by omega, rfl⟩
        · rintro σ' H5 ⟨rfl, ot, v6, otl, od, rfl⟩
          refine RD.d_cut (fun σ' H' => H' = H5 ∧ ∃ (ot : Nat) (v6 : Option V), ot ≤ l.length ∧ (ot : Int) - sp ≤ 12 ∧ (sp : Int) - ot ≤ 12 ∧ σ' = [some (.ref h), some (.str (WW.S l)), some (.ref p), some (.int sp), some (.int (0 + i)), some (.int ot), v6]) ?_ ?_
          · walk_at "tx"
            refine RD.iteD (fun c1 => ?_) (fun c1 => ?_)
            · walk_at "tx"
              exact ⟨rfl, sp - 12, _, by omega, by omega, by omega, by rw [show ((sp - 12 : Nat) : Int) = (sp : Int) - 12 from by omega]; rfl⟩
            · walk_at "tx"
              exact ⟨rfl, ot, _, otl, by omega, by omega, rfl⟩
          · rintro σ' H6 ⟨rfl, ot, v6, otl, od, od2, rfl⟩
            walk_at "tx"
            refine ⟨_, _, rfl, ?_⟩
            walk_at "tx"
            refine ⟨_, _, rfl, ?_⟩
            walk_at "tx"
            have emin : (if (ot : Int) < (sp : Int) then (ot : Int) else (sp : Int)) = ((min sp ot : Nat) : Int) := by split <;> omega
            have emax : (if (ot : Int) > (sp : Int) then (ot : Int) else (sp : Int)) = ((max sp ot : Nat) : Int) := by split <;> omega
            refine RD.d_cutS (a := min sp ot) (b := max sp ot) emin emax lz ?_
            have plen : (WW.piece l (min sp ot) (max sp ot)).length = max sp ot - min sp ot := by rw [WW.piece_length]; omega
            have plw := lw.piece (min sp ot) (max sp ot)
            generalize WW.piece l (min sp ot) (max sp ot) = wd at *
            walk_at "tx"
            refine RD.d_cut (fun σ' H' => TapeAt H' h c ∧ Kx h H H' ∧ (∃ ws, H' p = some (.lst (WW.Ss ws)) ∧ OkS (i + 1) ws) ∧ σ' = [some (.ref h), some (.str (WW.S l)), some (.ref p), some (.int sp), some (.int (0 + i)), some (.int ot), some (.str (WW.S wd))]) ?_ ?_
            · walk_at "tx"
              refine RD.iteN (fun c1 => ?_) (fun c1 => ?_)
              · walk_at "tx"
                refine OQ.d_notInSs (.inl (SqL.of ep4)) ?_
                walk_at "tx"
                refine RD.iteN (fun c2 => ?_) (fun c2 => ?_)
                · walk_at "tx"
                  refine ⟨RD.tyL ep4, ?_⟩
                  walk_at "tx"
                  have w1 : 1 ≤ wd.length := List.length_pos_iff.mpr c1
                  refine RD.d_app ep4 (by rw [WW.Ss_len]; exact Nat.lt_of_le_of_lt ok.len (Nat.lt_trans i8 (by decide))) ?_
                  rw [WW.Ss_app]
                  exact ⟨hT4.upd nph npc, k4.fresh hp, ⟨_, upd_same, ok.snoc ⟨w1, by omega, plw⟩ c2⟩, rfl⟩
                · walk_at "tx"
                  exact ⟨hT4, k4, ⟨_, ep4, ok.mono (Nat.le_succ _)⟩, rfl⟩
              · walk_at "tx"
                exact ⟨hT4, k4, ⟨_, ep4, ok.mono (Nat.le_succ _)⟩, rfl⟩
            · rintro σ' H7 ⟨hT7, k7, ⟨ws7, ep7, ok7⟩, rfl⟩
              walk_at "tx"
              refine RD.iteD (fun c1 => ?_) (fun c1 => ?_)
              · walk_at "tx"
                exact k p ws7 H7 hT7 k7 hp nph ep7 (ok7.mono i8)
              · walk_at "tx"
                exact ⟨hT7, k7, ⟨_, ep7, ok7⟩, ot, _, _, _, otl, rfl⟩
    · rintro σ' H2 ⟨hT2, k2, ⟨ws, ep2, ok⟩, sp, v4, v5, v6, spl, rfl⟩
      walk_at "tx"
      exact k p ws H2 hT2 k2 hp nph ep2 (ok.mono (by decide))
end

theorem map_erase {α β : Type} (f : α → β) (l : List α) (k : Nat) : (l.map f).eraseIdx k = (l.eraseIdx k).map f := by
  induction l generalizing k with
  | nil => rfl
  | cons a l ih =>
    cases k with
    | zero => rfl
    | succ k => simp [ih]
theorem OkS.sub {n : Nat} {ws vs : List WW.Wd} (h : OkS n ws) (s : vs.Sublist ws) : OkS n vs := ⟨Nat.le_trans s.length_le h.len, fun w m => h.ok w (s.subset m), h.nd.sublist s⟩
theorem OkS.put {n : Nat} {ws : List WW.Wd} {w : WW.Wd} (h : OkS n ws) (hw : IsW 12 w) (m : w ∉ ws) (i : Nat) : OkS (n + 1) (ws.take i ++ [w] ++ ws.drop i) := by
  have pm : (ws.take i ++ [w] ++ ws.drop i).Perm (ws ++ [w]) := by
    have e : ws ++ [w] = ws.take i ++ ws.drop i ++ [w] := by rw [List.take_append_drop]
    rw [e, List.append_assoc, List.append_assoc]
    exact List.Perm.append_left _ List.perm_append_comm
  have k := h.snoc hw m
  exact ⟨by rw [pm.length_eq]; exact k.len, fun v hv => k.ok v (pm.mem_iff.mp hv), pm.nodup_iff.mpr k.nd⟩
def spWatches : Sp := fun vs H Q _ => ∃ (h c : Addr) (l ls : WW.Wd) (most : Nat), vs = [.ref h, .str (WW.S l), .str (WW.S ls), .int most] ∧ TapeAt H h c ∧ IsW 40 l ∧ IsW 3 ls ∧ most ≤ 12 ∧
  ∀ (p : Addr) (ws : List WW.Wd) (H' : Hp), TapeAt H' h c → Kx h H H' → H p = none → p ≠ h → H' p = some (.lst (WW.Ss ws)) → OkS most ws → Q (.ref p) H'
section
variable {P : Program} {w : World} {K : PySem.W.Frag} {mg : Str → Option Value} {base : Heap}
theorem ok_law_watches (T : Top K mg) : FnOk P w K mg base CX0 5 T.f_law_watches T.fd_law_watches ["tape", "word", "letters", "most"] spWatches := by
  refine T.F_law_watches.ok sc_law_watches (fun vs H Q E h => ?_) (fun cdv A outer s H vs Q E hr h => ?_)
  · obtain ⟨h, c, l, ls, most, rfl, _⟩ := h; rfl
  · obtain ⟨h, c, l, ls, most, rfl, hT, hl, hls, m12, k⟩ := h
    have l1 := hl.lo
    have lz : l.length ≤ sizeLine := Nat.le_trans hl.hi (by decide)
    refine ⟨_, (pss_cons (ps_set (i := 4) sc_law_watches.nd rfl (Or.inl rfl) (pe_call (ok_law_pick T) (hr.mono (by decide)) (by rfl) T.g_law_pick T.F_law_pick.kp T.b_law_pick .nil pass0 (pa_cons (pv 0) (pa_cons pe_int pa_nil))))
 (pss_cons (ps_set (i := 5) sc_law_watches.nd rfl (Or.inl rfl) (pe_lst pa_nil))
 (C8.pss_cut (ps_if (PW.pt (pw_and (pt_cmpR op_gt (pv 4) pe_int (nomark _)) (pw_and1 (pt_cmpR op_gt (pe_callB RD.c_len (by rfl) T.n_len (by decide +kernel) (pa_cons (pv 1) pa_nil)) pe_int (nomark _)))))
 (pss_one (ps_set (i := 5) sc_law_watches.nd rfl (Or.inl rfl) (pe_call (ok_law_pathed T) (hr.mono (by decide)) (by rfl) T.g_law_pathed T.F_law_pathed.kp T.b_law_pathed .nil pass0 (pa_cons (pv 0) (pa_cons (pv 1) pa_nil)))))
 pss_nil)
 (C8.pss_cut (ps_if (PW.pt (pw_and (pt_cmpR op_eq (pv 4) pe_int (nomark _)) (pw_and1 (pt_cmpR op_gt (pe_callB RD.c_len (by rfl) T.n_len (by decide +kernel) (pa_cons (pv 5) pa_nil)) pe_int (nomark _)))))
 (pss_one (ps_expr (pe_bm PySem.F.plainAttrs_list PySem.F.slot_list_pop PySem.F.type_list_pop mt_popAt (pv 5) (pa_cons (pe_call (ok_law_pick T) (hr.mono (by decide)) (by rfl) T.g_law_pick T.F_law_pick.kp T.b_law_pick .nil pass0 (pa_cons (pv 0) (pa_cons (pe_callB RD.c_len (by rfl) T.n_len (by decide +kernel) (pa_cons (pv 5) pa_nil)) pa_nil))) pa_nil))))
 pss_nil)
 (pss_cons (ps_for PassesOwn.never rfl (pi_range1 (by rfl) T.n_range (pa_cons (pe_call (ok_law_pick T) (hr.mono (by decide)) (by rfl) T.g_law_pick T.F_law_pick.kp T.b_law_pick .nil pass0 (pa_cons (pv 0) (pa_cons pe_int pa_nil))) pa_nil)) (pg_name (i := 6) sc_law_watches.nd rfl (Or.inl rfl))
 (pss_cons (ps_set (i := 7) sc_law_watches.nd rfl (Or.inl rfl) (pe_call (ok_law_piece T) (hr.mono (by decide)) (by rfl) T.g_law_piece T.F_law_piece.kp T.b_law_piece .nil pass0 (pa_cons (pv 0) (pa_cons (pv 1) pa_nil))))
 (C8.pss_cut (ps_if (pt_cmpR op_eq (pe_call (ok_law_pick T) (hr.mono (by decide)) (by rfl) T.g_law_pick T.F_law_pick.kp T.b_law_pick .nil pass0 (pa_cons (pv 0) (pa_cons pe_int pa_nil))) pe_int (nomark _))
 (pss_one (ps_set (i := 7) sc_law_watches.nd rfl (Or.inl rfl) (pe_call (ok_law_word T) (hr.mono (by decide)) (by rfl) T.g_law_word T.F_law_word.kp T.b_law_word .nil pass0 (pa_cons (pv 0) (pa_cons (pv 2) (pa_cons pe_int (pa_cons pe_int pa_nil)))))))
 pss_nil)
 (pss_one (ps_if (pt_cmpR op_notIn_seq (pv 7) (pv 5) rfl)
 (pss_one (ps_expr (pe_bm PySem.F.plainAttrs_list PySem.F.slot_list_insert PySem.F.type_list_insert mt_insert (pv 5) (pa_cons (pe_call (ok_law_pick T) (hr.mono (by decide)) (by rfl) T.g_law_pick T.F_law_pick.kp T.b_law_pick .nil pass0 (pa_cons (pv 0) (pa_cons (pe_op op_add (pe_callB RD.c_len (by rfl) T.n_len (by decide +kernel) (pa_cons (pv 5) pa_nil)) pe_int) pa_nil))) (pa_cons (pv 7) pa_nil)))))
 pss_nil)))))
 (pss_one (ps_ret (pe_slice sl_list (pv 5) po_none (po_some (pv 3)))))))))), ?_⟩
    walk_at "tx"
    refine ⟨h, c, 4, rfl, hT, by decide, log2_lt (by decide), fun kind H1 a1 b1 hT1 k1 => ?_⟩
    walk_at "tx"
    refine ⟨by show 0 ≤ sizeLine; decide, fun p0 hp0 => ?_⟩
    have hT2 := hT1.same (same_upd (o := HO.lst []) hp0)
    have k2 : Kx h H (upd H1 p0 (.lst [])) := k1.kp.trans (Same.kx (same_upd hp0))
    have n0 := hT1.free hp0
    have hp0' : H p0 = none := by rw [← k1 p0 n0.1]; exact hp0
    have e0 : upd H1 p0 (.lst []) p0 = some (.lst (WW.Ss [])) := upd_same
    generalize upd H1 p0 (.lst []) = H2 at *
    walk_at "tx"
    refine RD.d_cut (fun σ' H' => TapeAt H' h c ∧ Kx h H H' ∧ ∃ (p : Addr) (ws : List WW.Wd), H p = none ∧ H' p = some (.lst (WW.Ss ws)) ∧ OkS 8 ws ∧ σ' = [some (.ref h), some (.str (WW.S l)), some (.str (WW.S ls)), some (.int most), some (.int kind), some (.ref p), none, none]) ?_ ?_
    · walk_at "tx"
      refine RD.iteD (fun c1 => ?_) (fun c1 => ?_)
      · walk_at "tx"
        rw [decide_eq_true (by omega : (l.length : Int) > 0)]
        walk_at "tx"
        refine ⟨h, c, l, rfl, hT2, hl, fun p ws H3 hT3 k3 hp np ep ok => ?_⟩
        have hp' : H p = none := by
          cases e : H p with
          | none => rfl
          | some o => rw [k2 p o np e] at hp; cases hp
        exact ⟨hT3, k2.trans k3, p, ws, hp', ep, ok, rfl⟩
      · walk_at "tx"
        exact ⟨hT2, k2, p0, [], hp0', e0, .nil, rfl⟩
    · rintro σ' H3 ⟨hT3, k3, p, ws, hp, ep, ok, rfl⟩
      obtain ⟨np, npc⟩ := hT.free hp
      refine RD.d_cut (fun σ' H' => TapeAt H' h c ∧ Kx h H H' ∧ ∃ (ws : List WW.Wd), H' p = some (.lst (WW.Ss ws)) ∧ OkS 8 ws ∧ σ' = [some (.ref h), some (.str (WW.S l)), some (.str (WW.S ls)), some (.int most), some (.int kind), some (.ref p), none, none]) ?_ ?_
      · walk_at "tx"
        refine RD.iteD (fun c1 => ?_) (fun c1 => ?_)
        · walk_at "tx"
          rw [WW.Ss_len]
          refine RD.iteD (fun c2 => ?_) (fun c2 => ?_)
          · have w8 := ok.len
            walk_at "tx"
            refine ⟨RD.tyL ep, ?_⟩
            walk_at "tx"
            refine ⟨h, c, ws.length, by rw [WW.Ss_len]; rfl, hT3, by omega, log2_lt (by omega), fun r0 H4 a2 b2 hT4 k4 => ?_⟩
            have ep4 : H4 p = some (.lst (WW.Ss ws)) := by rw [k4 p np]; exact ep
            walk_at "tx"
            have rl : r0.toNat < ws.length := by omega
            refine ⟨p, _, r0, r0.toNat, .str (WW.S ws[r0.toNat]), rfl, rfl, ep4, by omega, by omega, by rw [WW.Ss_len]; exact seqIndex_of a2 b2, by unfold WW.Ss; rw [List.getElem?_map, List.getElem?_eq_getElem rl]; rfl, ?_⟩
            refine ⟨hT4.upd np npc, (k3.trans k4.kp).fresh hp, ws.eraseIdx r0.toNat, ?_, ok.sub (List.eraseIdx_sublist _ _), rfl⟩
            rw [upd_same]
            unfold WW.Ss
            exact congrArg (fun z => some (HO.lst z)) (map_erase _ _ _)
          · walk_at "tx"
            exact ⟨hT3, k3, ws, ep, ok, rfl⟩
        · walk_at "tx"
          exact ⟨hT3, k3, ws, ep, ok, rfl⟩
      · rintro σ' H4 ⟨hT4, k4, ws4, ep4, ok4, rfl⟩
        walk_at "tx"
        refine ⟨h, c, 5, rfl, hT4, by decide, log2_lt (by decide), fun many H5 a5 b5 hT5 k5 => ?_⟩
        walk_at "tx"
        refine ⟨_, rfl, by omega, by omega, ?_⟩
        have ep5 : H5 p = some (.lst (WW.Ss ws4)) := by rw [k5 p np]; exact ep4
        refine RD.f_range (lo := 0) (n := many.toNat) (fun i σ' H' => TapeAt H' h c ∧ Kx h H H' ∧ (∃ ws, H' p = some (.lst (WW.Ss ws)) ∧ OkS (8 + i) ws) ∧ ∃ (v6 v7 : Option V), σ' = [some (.ref h), some (.str (WW.S l)), some (.str (WW.S ls)), some (.int most), some (.int kind), some (.ref p), v6, v7])
          ⟨hT5, k4.trans k5.kp, ⟨ws4, ep5, ok4⟩, none, none, rfl⟩ ?_ ?_
        · rintro i σ' H6 il ⟨hT6, k6, ⟨ws6, ep6, ok6⟩, v6, v7, rfl⟩
          walk_at "tx"
          refine ⟨h, c, l, rfl, hT6, hl, fun wd H7 hw hT7 k7 => ?_⟩
          have ep7 : H7 p = some (.lst (WW.Ss ws6)) := by rw [k7 p np]; exact ep6
          have k67 := k6.trans k7.kp
          refine RD.d_cut (fun σ' H' => TapeAt H' h c ∧ Kx h H H' ∧ H' p = some (.lst (WW.Ss ws6)) ∧ ∃ (wd : WW.Wd), IsW 12 wd ∧ σ' = [some (.ref h), some (.str (WW.S l)), some (.str (WW.S ls)), some (.int most), some (.int kind), some (.ref p), some (.int (0 + i)), some (.str (WW.S wd))]) ?_ ?_
          · walk_at "tx"
            refine ⟨h, c, 4, rfl, hT7, by decide, log2_lt (by decide), fun r8 H8 a8 b8 hT8 k8 => ?_⟩
            have ep8 : H8 p = some (.lst (WW.Ss ws6)) := by rw [k8 p np]; exact ep7
            walk_at "tx"
            refine RD.iteD (fun c2 => ?_) (fun c2 => ?_)
            · walk_at "tx"
              refine ⟨h, c, ls, 1, 4, rfl, hT8, hls, by decide, by decide, fun w9 H9 lw9 lo9 hi9 hT9 k9 => ?_⟩
              exact ⟨hT9, k67.trans (k8.kp.trans k9.kp), by rw [k9 p np]; exact ep8, w9, ⟨lo9, Nat.le_trans hi9 (by decide), lw9⟩, rfl⟩
            · walk_at "tx"
              exact ⟨hT8, k67.trans k8.kp, ep8, wd, hw, rfl⟩
          · rintro σ' H9 ⟨hT9, k9, ep9, wd, hw, rfl⟩
            walk_at "tx"
            refine OQ.d_notInSs (.inl (SqL.of ep9)) ?_
            walk_at "tx"
            refine RD.iteN (fun c2 => ?_) (fun c2 => ?_)
            · have w8 := ok6.len
              walk_at "tx"
              refine ⟨RD.tyL ep9, ?_⟩
              walk_at "tx"
              rw [WW.Ss_len]
              refine ⟨h, c, (ws6.length : Int) + 1, rfl, hT9, by omega, log2_lt (by omega), fun r0 HA a2 b2 hTA kA => ?_⟩
              have epA : HA p = some (.lst (WW.Ss ws6)) := by rw [kA p np]; exact ep9
              walk_at "tx"
              refine ⟨p, _, r0, _, rfl, rfl, epA, by rw [WW.Ss_len]; exact Nat.lt_of_le_of_lt (by omega : ws6.length ≤ 13) (by decide), a2, by omega, ?_⟩
              refine ⟨hTA.upd np npc, (k9.trans kA.kp).fresh hp, ⟨_, ?_, ok6.put hw c2 r0.toNat⟩, _, _, rfl⟩
              rw [upd_same]
              unfold WW.Ss
              rw [List.map_append, List.map_append, List.map_take, List.map_drop]
              rfl
            · walk_at "tx"
              exact ⟨hT9, k9, ⟨ws6, ep9, ok6.mono (by omega)⟩, _, _, rfl⟩
        · rintro σ' H6 ⟨hT6, k6, ⟨ws6, ep6, ok6⟩, v6, v7, rfl⟩
          walk_at "tx"
          refine ⟨p, _, rfl, SqL.of ep6, fun q hq => ?_⟩
          have ec : cutV (WW.Ss ws6) none (some (most : Int)) = WW.Ss (ws6.take most) := by
            unfold cutV
            rw [HT.sIx_nat, HT.sIx_none, WW.Ss_len]
            unfold WW.Ss
            rw [List.map_take, List.drop_zero, Nat.sub_zero]
            rcases Nat.le_total most ws6.length with z | z
            · rw [Nat.min_eq_left z]
            · rw [Nat.min_eq_right z]
              exact WW.take_all _ (by rw [List.length_map]; exact Nat.le_refl _) (by rw [List.length_map]; exact z)
          rw [ec]
          have hq' : H q = none := by
            cases e : H q with
            | none => rfl
            | some o =>
              by_cases z : q = h
              · subst z; have := (hT6.free hq).1; exact absurd rfl this
              · rw [k6 q o z e] at hq; cases hq
          exact k q _ _ (hT6.same (same_upd hq)) (k6.trans (Same.kx (same_upd hq))) hq' (hT6.free hq).1 upd_same ⟨by rw [List.length_take]; exact Nat.min_le_left _ _, fun w m => ok6.ok w (List.mem_of_mem_take m), ok6.nd.sublist (List.take_sublist _ _)⟩
end

/-! ### the law's marks, walked -/
open WW (Ms)
theorem ixM {K : PySem.W.Frag} {H : Hp} {a : Addr} {n i : Nat} {iv : Int} {m : Nat → Int} {Q : VK} (e : H a = some (.lst (Ms n m))) (ei : iv = i) (hi : i < n) (k : Q (.int (m i)) H) : rIxL K (.ref a) (.int iv) H Q := by
  subst ei
  exact RD.d_ixL (SqL.of e) (atI_nat (WW.Ms_get m hi)) k
theorem setM {H : Hp} {a : Addr} {n i : Nat} {iv v : Int} {m : Nat → Int} {R : Hp → Prop} (e : H a = some (.lst (Ms n m))) (ei : iv = i) (hi : i < n) (k : R (upd H a (.lst (Ms n fun j => if j = i then v else m j)))) : rSetL (.ref a) (.int iv) (.int v) H R := by
  subst ei
  refine RD.d_setL (k := i) e (by unfold ixN; rw [WW.Ms_len, if_pos (by omega), if_pos (by omega)]; rfl) ?_
  rw [WW.Ms_set]
  exact k
def spMarks (K : PySem.W.Frag) : Sp := fun vs H Q _ => ∃ (a : Addr) (ws : List WW.Wd) (l : WW.Wd), vs = [.ref a, .str (WW.S l)] ∧ SqL K H a (WW.Ss ws) ∧ (∀ w ∈ ws, 1 ≤ w.length ∧ w.length ≤ 1000) ∧ l.length ≤ 1000 ∧
  ∀ p m H', Same H H' → H p = none → H' p = some (.lst (Ms (l.length + 1) m)) → WW.Cls m l.length (WW.Link ws l) → Q (.ref p) H'
section
variable {P : Program} {w : World} {K : PySem.W.Frag} {mg : Str → Option Value} {base : Heap}
theorem ok_law_marks (T : Top K mg) : FnOk P w K mg base CX0 1 T.f_law_marks T.fd_law_marks ["watches", "word"] (spMarks K) := by
  refine T.F_law_marks.ok sc_law_marks (fun vs H Q E h => ?_) (fun cdv A outer s H vs Q E hr h => ?_)
  · obtain ⟨a, ws, l, rfl, _⟩ := h; rfl
  · obtain ⟨a, ws, l, rfl, sa, okw, lk, k⟩ := h
    have lz : l.length ≤ sizeLine := Nat.le_trans lk (by decide)
    refine ⟨_, (pss_cons (ps_set (i := 2) sc_law_marks.nd rfl (Or.inl rfl) (pe_listRg (by rfl) (by rfl) T.n_list (prg_1 (by rfl) T.n_range (pe_op op_add (pe_callB RD.c_len (by rfl) T.n_len (by decide +kernel) (pa_cons (pv 1) pa_nil)) pe_int))))
 (pss_cons (ps_for PassesOwn.never rfl (pi_list (pv 0)) (pg_name (i := 3) sc_law_marks.nd rfl (Or.inl rfl))
 (pss_one (ps_for PassesOwn.never rfl (pi_range1 (by rfl) T.n_range (pa_cons (pe_op op_add (pe_op op_sub (pe_callB RD.c_len (by rfl) T.n_len (by decide +kernel) (pa_cons (pv 1) pa_nil)) (pe_callB RD.c_len (by rfl) T.n_len (by decide +kernel) (pa_cons (pv 3) pa_nil))) pe_int) pa_nil)) (pg_name (i := 4) sc_law_marks.nd rfl (Or.inl rfl))
 (pss_one (ps_if (PW.pt (pw_and (pt_cmpR op_eq (pe_slice sl_str (pv 1) (po_some (pv 4)) (po_some (pe_op op_add (pv 4) (pe_callB RD.c_len (by rfl) T.n_len (by decide +kernel) (pa_cons (pv 3) pa_nil))))) (pv 3) (nomark _)) (pw_and1 (pt_cmpR op_ne (pe_ix ix_list (pv 2) (pv 4) (fun _ _ => rfl)) (pe_ix ix_list (pv 2) (pe_op op_add (pv 4) (pe_callB RD.c_len (by rfl) T.n_len (by decide +kernel) (pa_cons (pv 3) pa_nil))) (fun _ _ => rfl)) (nomark _)))))
 (pss_cons (ps_set (i := 5) sc_law_marks.nd rfl (Or.inl rfl) (pe_ix ix_list (pv 2) (pe_op op_add (pv 4) (pe_callB RD.c_len (by rfl) T.n_len (by decide +kernel) (pa_cons (pv 3) pa_nil))) (fun _ _ => rfl)))
 (pss_one (ps_for PassesOwn.never rfl (pi_range1 (by rfl) T.n_range (pa_cons (pe_callB RD.c_len (by rfl) T.n_len (by decide +kernel) (pa_cons (pv 2) pa_nil)) pa_nil)) (pg_name (i := 6) sc_law_marks.nd rfl (Or.inl rfl))
 (pss_one (ps_if (pt_cmpR op_eq (pe_ix ix_list (pv 2) (pv 6) (fun _ _ => rfl)) (pv 5) (nomark _))
 (pss_one (ps_asg (pe_ix ix_list (pv 2) (pv 4) (fun _ _ => rfl)) (pg_sub (pv 2) (pv 6) set_list)))
 pss_nil)))))
 pss_nil)))))
 (pss_one (ps_ret (pv 2))))), ?_⟩
    walk_at "tx"
    refine ⟨⟨by omega, by omega, by omega, by omega, by omega⟩, fun p hp => ?_⟩
    rw [show rgV 0 ((l.length : Int) + 1) = Ms (l.length + 1) (fun i => (i : Int)) from WW.rgV_Ms (l.length + 1)]
    have s0 := same_upd (o := HO.lst (Ms (l.length + 1) (fun i => (i : Int)))) hp
    have e0 : upd H p (.lst (Ms (l.length + 1) (fun i => (i : Int)))) p = some (.lst (Ms (l.length + 1) (fun i => (i : Int)))) := upd_same
    generalize upd H p (.lst (Ms (l.length + 1) (fun i => (i : Int)))) = H0 at *
    have up : ∀ H' o, Same H H' → Same H (upd H' p o) := fun H' o s b u e => by rw [upd_ne (ne_of_none e hp)]; exact s _ _ e
    walk_at "tx"
    refine ⟨a, rfl, ⟨_, s0.seq sa⟩, ?_⟩
    refine RD.f_list (K := K) (a := a) (xs := WW.Ss ws) (fun kk σ' H' => Same H H' ∧ (∃ m, H' p = some (.lst (Ms (l.length + 1) m)) ∧ WW.Cls m l.length (WW.MkF ws l kk 0)) ∧ ∃ v3 v4 v5 v6 : Option V, σ' = [some (.ref a), some (.str (WW.S l)), some (.ref p), v3, v4, v5, v6])
      ⟨s0, ⟨_, e0, WW.Cls.zero⟩, none, none, none, none, rfl⟩ ?_ ?_ ?_
    · rintro kk σ' H' _ ⟨s1, _⟩
      exact s1.seq sa
    · rintro kk y σ' H1 hy ⟨s1, ⟨m, e1, C⟩, v3, v4, v5, v6, rfl⟩
      obtain ⟨wd, ew, rfl⟩ := WW.Ss_get hy
      obtain ⟨w1, w2⟩ := okw wd (List.mem_of_getElem? ew)
      have wz : wd.length ≤ sizeLine := Nat.le_trans w2 (by decide)
      have wn : wd ≠ [] := fun z => by rw [z] at w1; simp at w1
      walk_at "tx"
      refine ⟨_, rfl, by omega, by omega, ?_⟩
      refine RD.f_range (lo := 0) (n := ((l.length : Int) - wd.length + 1).toNat) (fun sp σ' H' => Same H H' ∧ (∃ m, H' p = some (.lst (Ms (l.length + 1) m)) ∧ WW.Cls m l.length (WW.MkF ws l kk sp)) ∧ ∃ v4 v5 v6 : Option V, σ' = [some (.ref a), some (.str (WW.S l)), some (.ref p), some (.str (WW.S wd)), v4, v5, v6])
        ⟨s1, ⟨m, e1, C⟩, v4, v5, v6, rfl⟩ ?_ ?_
      · rintro sp σ' H2 hsp ⟨s2, ⟨m, e2, C⟩, v4, v5, v6, rfl⟩
        have spl : sp + wd.length ≤ l.length := by omega
        walk_at "tx"
        refine RD.d_cutS (a := sp) (b := sp + wd.length) (by omega) (by omega) lz ?_
        walk_at "tx"
        refine RD.iteD (fun c => ?_) (fun c => ?_)
        · have hit : WW.Hit l sp wd := c
          walk_at "tx"
          refine ixM e2 (i := sp) (by omega) (by omega) ?_
          walk_at "tx"
          refine ixM e2 (i := sp + wd.length) (by omega) (by omega) ?_
          walk_at "tx"
          refine RD.iteN (fun c2 => ?_) (fun c2 => ?_)
          · walk_at "tx"
            refine ixM e2 (i := sp + wd.length) (by omega) (by omega) ?_
            walk_at "tx"
            refine ⟨_, rfl, by rw [WW.Ms_len]; omega, by rw [WW.Ms_len]; omega, ?_⟩
            rw [WW.Ms_len, show (((l.length + 1 : Nat) : Int)).toNat = l.length + 1 from by omega]
            refine RD.f_range (lo := 0) (n := l.length + 1) (fun t σ' H' => Same H H' ∧ H' p = some (.lst (Ms (l.length + 1) (WW.relabTo m sp (sp + wd.length) t))) ∧ ∃ v6 : Option V, σ' = [some (.ref a), some (.str (WW.S l)), some (.ref p), some (.str (WW.S wd)), some (.int (0 + sp)), some (.int (m (sp + wd.length))), v6])
              ⟨s2, by rw [WW.relabTo_zero]; exact e2, v6, rfl⟩ ?_ ?_
            · rintro t σ' H3 ht ⟨s3, e3, v6, rfl⟩
              walk_at "tx"
              refine ixM e3 (i := t) (by omega) ht ?_
              walk_at "tx"
              rw [WW.relabTo_at]
              refine RD.iteD (fun c3 => ?_) (fun c3 => ?_)
              · walk_at "tx"
                refine ixM e3 (i := sp) (by omega) (by omega) ?_
                walk_at "tx"
                rw [WW.relabTo_a]
                refine setM e3 (i := t) (by omega) ht ?_
                rw [WW.relabTo_hit c3]
                exact ⟨up _ _ s3, upd_same, _, rfl⟩
              · walk_at "tx"
                exact ⟨s3, by rw [WW.relabTo_miss c3]; exact e3, _, rfl⟩
            · rintro σ' H3 ⟨s3, e3, v6, rfl⟩
              refine ⟨s3, ⟨WW.relab m sp (sp + wd.length), ?_, (C.join (by omega) (by omega) c2).iff (WW.MkF.hit ew hit)⟩, _, _, _, rfl⟩
              rw [e3]
              exact congrArg (fun z => some (HO.lst z)) (WW.Ms_congr fun i hi => by unfold WW.relabTo WW.relab; simp only [hi, true_and])
          · walk_at "tx"
            exact ⟨s2, ⟨m, e2, (C.same (by simpa using c2)).iff (WW.MkF.hit ew hit)⟩, _, _, _, rfl⟩
        · walk_at "tx"
          exact ⟨s2, ⟨m, e2, C.iff (WW.MkF.miss ew c)⟩, _, _, _, rfl⟩
      · rintro σ' H2 ⟨s2, ⟨m, e2, C⟩, v4, v5, v6, rfl⟩
        exact ⟨s2, ⟨m, e2, C.iff fun i j => (WW.MkF.next ew wn (by omega)).symm⟩, _, _, _, _, rfl⟩
    · rintro σ' H1 ⟨s1, ⟨m, e1, C⟩, v3, v4, v5, v6, rfl⟩
      rw [WW.Ss_len] at C
      walk_at "tx"
      exact k p m _ s1 hp e1 (C.iff fun i j => WW.MkF.all.symm)
end

/-! ### the law's own flood -/
def Small (ws : List WW.Wd) : Prop := ∀ w ∈ ws, 1 ≤ w.length ∧ w.length ≤ 1000
def spLtold (K : PySem.W.Frag) : Sp := fun vs H Q _ => ∃ (a : Addr) (ws : List WW.Wd) (l : WW.Wd), vs = [.ref a, .str (WW.S l)] ∧ SqL K H a (WW.Ss ws) ∧ Small ws ∧ l.length ≤ 1000 ∧
  ∀ b H', Same H H' → (b = true ↔ WW.Told ws l) → Q (.bl b) H'
def spLtoldAll (K : PySem.W.Frag) : Sp := fun vs H Q _ => ∃ (a d : Addr) (ws ls : List WW.Wd), vs = [.ref a, .ref d] ∧ SqL K H a (WW.Ss ws) ∧ Small ws ∧ SqL K H d (WW.Ss ls) ∧ (∀ l ∈ ls, l.length ≤ 1000) ∧
  ∀ b H', Same H H' → (b = true ↔ ∀ l ∈ ls, WW.Told ws l) → Q (.bl b) H'
def spFlag : Sp := fun vs H Q _ => ∃ a b : Bool, vs = [.bl a, .bl b] ∧ Q (.bl (decide (a = b))) H
section
variable {P : Program} {w : World} {K : PySem.W.Frag} {mg : Str → Option Value} {base : Heap}
theorem ok_law_flag (T : Top K mg) : FnOk P w K mg base CX0 1 T.f_law_flag T.fd_law_flag ["told", "due"] spFlag := by
  refine T.F_law_flag.ok sc_law_flag (fun vs H Q E h => ?_) (fun cdv A outer s H vs Q E hr h => ?_)
  · obtain ⟨a, b, rfl, _⟩ := h; rfl
  · obtain ⟨a, b, rfl, k⟩ := h
    refine ⟨_, (pss_one (ps_ret (pe_and (pe_callB call_isi (by rfl) T.n_isinstance (by decide +kernel) (pa_cons (pv 0) (pa_cons (pe_bltn (v := V.ty "bool") (by rfl) T.n_bool (by decide +kernel) rfl) pa_nil))) (pe_one (pe_cmpR op_eq (pv 0) (pv 1) (nomark _)))))), ?_⟩
    walk_at "tx"
    refine RD.d_isi (.ty _) (.base (.bl _)) (kit_ty (r := true) (by decide +kernel)) ?_
    refine ⟨_, rfl, RD.d_iteT ?_⟩
    walk_at "tx"
    exact k
theorem ok_law_told (T : Top K mg) : FnOk P w K mg base CX0 3 T.f_law_told T.fd_law_told ["watches", "word"] (spLtold K) := by
  refine T.F_law_told.ok sc_law_told (fun vs H Q E h => ?_) (fun cdv A outer s H vs Q E hr h => ?_)
  · obtain ⟨a, ws, l, rfl, _⟩ := h; rfl
  · obtain ⟨a, ws, l, rfl, sa, okw, lk, k⟩ := h
    have lz : l.length ≤ sizeLine := Nat.le_trans lk (by decide)
    refine ⟨_, (pss_cons (ps_set (i := 2) sc_law_told.nd rfl (Or.inl rfl) (pe_call (ok_law_marks T) (hr.mono (by decide)) (by rfl) T.g_law_marks T.F_law_marks.kp T.b_law_marks .nil pass0 (pa_cons (pv 0) (pa_cons (pv 1) pa_nil))))
 (pss_one (ps_ret (pe_cmpR op_eq (pe_ix ix_list (pv 2) pe_int (fun _ _ => rfl)) (pe_ix ix_list (pv 2) (pe_callB RD.c_len (by rfl) T.n_len (by decide +kernel) (pa_cons (pv 1) pa_nil)) (fun _ _ => rfl)) (nomark _))))), ?_⟩
    walk_at "tx"
    refine ⟨a, ws, l, rfl, sa, okw, lk, fun p m H1 s1 hp e1 C => ?_⟩
    walk_at "tx"
    refine ixM e1 (i := 0) rfl (by omega) ?_
    walk_at "tx"
    refine ixM e1 (i := l.length) rfl (by omega) ?_
    walk_at "tx"
    exact k _ _ s1 ⟨fun z => (C.told (Nat.zero_le _) (Nat.le_refl _)).mp (of_decide_eq_true z), fun z => decide_eq_true ((C.told (Nat.zero_le _) (Nat.le_refl _)).mpr z)⟩
theorem ok_law_told_all (T : Top K mg) : FnOk P w K mg base CX0 5 T.f_law_told_all T.fd_law_told_all ["watches", "words"] (spLtoldAll K) := by
  refine T.F_law_told_all.ok sc_law_told_all (fun vs H Q E h => ?_) (fun cdv A outer s H vs Q E hr h => ?_)
  · obtain ⟨a, d, ws, ls, rfl, _⟩ := h; rfl
  · obtain ⟨a, d, ws, ls, rfl, sa, okw, sd, lk, k⟩ := h
    refine ⟨_, (pss_cons (ps_for PassesOwn.never rfl (pi_list (pv 1)) (pg_name (i := 2) sc_law_told_all.nd rfl (Or.inl rfl))
 (pss_one (ps_if (pt_not (pt_val (pe_call (ok_law_told T) (hr.mono (by decide)) (by rfl) T.g_law_told T.F_law_told.kp T.b_law_told .nil pass0 (pa_cons (pv 0) (pa_cons (pv 2) pa_nil)))))
 (pss_one (ps_ret pe_bl))
 pss_nil)))
 (pss_one (ps_ret pe_bl))), ?_⟩
    walk_at "tx"
    refine ⟨d, rfl, ⟨_, sd⟩, ?_⟩
    refine RD.f_list (K := K) (a := d) (xs := WW.Ss ls) (fun i σ' H' => Same H H' ∧ (∀ (j : Nat) (l : WW.Wd), j < i → ls[j]? = some l → WW.Told ws l) ∧ ∃ v : Option V, σ' = [some (.ref a), some (.ref d), v]) ⟨Same.refl _, (fun _ _ z => absurd z (Nat.not_lt_zero _)), none, rfl⟩ ?_ ?_ ?_
    · rintro i σ' H' _ ⟨s1, _⟩
      exact s1.seq sd
    · rintro i y σ' H1 hy ⟨s1, hi, v, rfl⟩
      obtain ⟨wd, ew, rfl⟩ := WW.Ss_get hy
      walk_at "tx"
      refine ⟨a, ws, wd, rfl, s1.seq sa, okw, lk wd (List.mem_of_getElem? ew), fun b H2 s2 hb => ?_⟩
      cases b with
      | false =>
        walk_at "tx"
        refine k _ _ (s1.trans s2) ⟨fun z => (nomatch z), fun z => hb.mpr (z wd (List.mem_of_getElem? ew))⟩
      | true =>
        walk_at "tx"
        refine ⟨s1.trans s2, fun j l jl e => ?_, _, rfl⟩
        by_cases c : j = i
        · subst c
          rw [ew] at e; cases e
          exact hb.mp rfl
        · exact hi j l (by omega) e
    · rintro σ' H1 ⟨s1, hi, v, rfl⟩
      walk_at "tx"
      refine k _ _ s1 ⟨fun _ l m => ?_, fun _ => rfl⟩
      obtain ⟨j, hj⟩ := List.getElem?_of_mem m
      exact hi j l (by rw [WW.Ss_len]; exact (List.getElem?_eq_some_iff.mp hj).1) hj
end

/-! ### law_k69 -/
def spLaw (K : PySem.W.Frag) : Sp := fun vs H Q _ => ∃ (a : Addr) (ns : List Int), vs = [.ref a] ∧ SqL K H a (ns.map V.int) ∧ ns.length ≤ 63 ∧ ∀ H', Q (.bl true) H'
/-- the tape, the watches at p -/
structure Wx (H : Hp) (h c p : Addr) (ws : List WW.Wd) : Prop where
  t : TapeAt H h c
  ph : p ≠ h
  pc : p ≠ c
  ep : H p = some (.lst (WW.Ss ws))
  ok : OkS 12 ws
theorem Wx.kx {H H' : Hp} {h c p : Addr} {ws : List WW.Wd} (x : Wx H h c p ws) (t : TapeAt H' h c) (k : Kx h H H') : Wx H' h c p ws := { x with t := t, ep := k _ _ x.ph x.ep }
theorem Wx.same {H H' : Hp} {h c p : Addr} {ws : List WW.Wd} (x : Wx H h c p ws) (s : Same H H') : Wx H' h c p ws := x.kx (x.t.same s) (Same.kx s)
theorem Wx.put {H : Hp} {h c p : Addr} {ws vs : List WW.Wd} (x : Wx H h c p ws) (ok : OkS 12 vs) : Wx (upd H p (.lst (WW.Ss vs))) h c p vs :=
  { x with t := x.t.upd x.ph x.pc, ep := upd_same, ok := ok }
theorem Wx.okw {H : Hp} {h c p : Addr} {ws : List WW.Wd} (x : Wx H h c p ws) : Okw ws := ⟨x.ok.len, x.ok.ok, x.ok.nd⟩
theorem Wx.small {H : Hp} {h c p : Addr} {ws : List WW.Wd} (x : Wx H h c p ws) : Small ws := fun w m => ⟨(x.ok.ok w m).lo, Nat.le_trans (x.ok.ok w m).hi (by decide)⟩
theorem pickAt {K : PySem.W.Frag} {H : Hp} {h c p : Addr} {ws : List WW.Wd} {R : VK} (X : Wx H h c p ws) (n : 0 < ws.length) (r : ∀ H2 wd, Wx H2 h c p ws → IsW 12 wd → wd ∈ ws → R (.str (WW.S wd)) H2) :
    spPick [.ref h, .int ws.length] H (fun r H2 => rIxL K (.ref p) r H2 R) E0 :=
  ⟨h, c, ws.length, rfl, X.t, by omega, log2_lt (by have := X.ok.len; omega), fun r0 H2 a0 b0 hT2 k2 => by
    have X2 := X.kx hT2 k2.kp
    have rl : r0.toNat < ws.length := by omega
    have e : atI (WW.Ss ws) r0 = some (.str (WW.S ws[r0.toNat])) := by
      have := atI_nat (xs := WW.Ss ws) (j := r0.toNat) (v := .str (WW.S ws[r0.toNat])) (by unfold WW.Ss; rw [List.getElem?_map, List.getElem?_eq_getElem rl]; rfl)
      rwa [Int.toNat_of_nonneg a0] at this
    exact RD.d_ixL (SqL.of X2.ep) e (r _ _ X2 (X2.ok.ok _ (List.getElem_mem rl)) (List.getElem_mem rl))⟩
theorem told_self {ws : List WW.Wd} {w : WW.Wd} (m : w ∈ ws) : WW.Told ws w := .one ⟨w, m, .inl ⟨by unfold WW.Hit WW.piece; rw [Nat.zero_add, List.drop_zero, Nat.sub_zero, List.take_length], by rw [Nat.zero_add]⟩⟩
section
variable {P : Program} {w : World} {K : PySem.W.Frag} {mg : Str → Option Value} {base : Heap}
theorem ok_law (T : Top K mg) : FnOk P w K mg base CX0 14 T.f_law T.fd_law ["script"] (spLaw K) := by
  refine T.F_law.ok sc_law (fun vs H Q E h => ?_) (fun cdv A outer s H vs Q E hr h => ?_)
  · obtain ⟨a, ns, rfl, _⟩ := h; rfl
  · obtain ⟨ad, ns, rfl, hS, hl, k⟩ := h
    refine ⟨_, (pss_cons (ps_set (i := 1) sc_law.nd rfl (Or.inl rfl) (pe_call (ok_law_tape T) (hr.mono (by decide)) (by rfl) T.g_law_tape T.F_law_tape.kp T.b_law_tape .nil pass0 (pa_cons (pv 0) pa_nil)))
 (pss_cons (ps_set (i := 2) sc_law.nd rfl (Or.inl rfl) (pe_call (ok_law_letters T) (hr.mono (by decide)) (by rfl) T.g_law_letters T.F_law_letters.kp T.b_law_letters .nil pass0 (pa_cons (pv 1) pa_nil)))
 (pss_cons (ps_set (i := 3) sc_law.nd rfl (Or.inl rfl) (pe_call (ok_law_word T) (hr.mono (by decide)) (by rfl) T.g_law_word T.F_law_word.kp T.b_law_word .nil pass0 (pa_cons (pv 1) (pa_cons (pv 2) (pa_cons pe_int (pa_cons pe_int pa_nil))))))
 (C8.pss_cut (ps_set (i := 4) sc_law.nd rfl (Or.inl rfl) (pe_call (ok_law_watches T) (hr.mono (by decide)) (by rfl) T.g_law_watches T.F_law_watches.kp T.b_law_watches .nil pass0 (pa_cons (pv 1) (pa_cons (pv 3) (pa_cons (pv 2) (pa_cons pe_int pa_nil))))))
 (C8.pss_cut (ps_for PassesOwn.never rfl (pi_range1 (by rfl) T.n_range (pa_cons (pe_call (ok_law_pick T) (hr.mono (by decide)) (by rfl) T.g_law_pick T.F_law_pick.kp T.b_law_pick .nil pass0 (pa_cons (pv 1) (pa_cons pe_int pa_nil))) pa_nil)) (pg_name (i := 5) sc_law.nd rfl (Or.inl rfl))
 (pss_one (ps_if (pt_cmpR op_gt (pe_callB RD.c_len (by rfl) T.n_len (by decide +kernel) (pa_cons (pv 4) pa_nil)) pe_int (nomark _))
 (pss_cons (ps_set (i := 6) sc_law.nd rfl (Or.inl rfl) (pe_ix ix_list (pv 4) (pe_call (ok_law_pick T) (hr.mono (by decide)) (by rfl) T.g_law_pick T.F_law_pick.kp T.b_law_pick .nil pass0 (pa_cons (pv 1) (pa_cons (pe_callB RD.c_len (by rfl) T.n_len (by decide +kernel) (pa_cons (pv 4) pa_nil)) pa_nil))) (fun _ _ => rfl)))
 (pss_cons (ps_set (i := 7) sc_law.nd rfl (Or.inl rfl) (pe_ix ix_list (pv 4) (pe_call (ok_law_pick T) (hr.mono (by decide)) (by rfl) T.g_law_pick T.F_law_pick.kp T.b_law_pick .nil pass0 (pa_cons (pv 1) (pa_cons (pe_callB RD.c_len (by rfl) T.n_len (by decide +kernel) (pa_cons (pv 4) pa_nil)) pa_nil))) (fun _ _ => rfl)))
 (pss_cons (ps_set (i := 8) sc_law.nd rfl (Or.inl rfl) (pe_lst (pa_cons (pe_op RD.o_addS (pv 6) (pv 7)) (pa_cons (pe_slice sl_str (pv 6) (po_some (pe_call (ok_law_pick T) (hr.mono (by decide)) (by rfl) T.g_law_pick T.F_law_pick.kp T.b_law_pick .nil pass0 (pa_cons (pv 1) (pa_cons (pe_callB RD.c_len (by rfl) T.n_len (by decide +kernel) (pa_cons (pv 6) pa_nil)) pa_nil)))) po_none) (pa_cons (pe_slice sl_str (pv 7) po_none (po_some (pe_op op_add pe_int (pe_call (ok_law_pick T) (hr.mono (by decide)) (by rfl) T.g_law_pick T.F_law_pick.kp T.b_law_pick .nil pass0 (pa_cons (pv 1) (pa_cons (pe_callB RD.c_len (by rfl) T.n_len (by decide +kernel) (pa_cons (pv 7) pa_nil)) pa_nil)))))) pa_nil)))))
 (pss_cons (ps_set (i := 9) sc_law.nd rfl (Or.inl rfl) (pe_slice sl_str (pe_ix ix_list (pv 8) (pe_call (ok_law_pick T) (hr.mono (by decide)) (by rfl) T.g_law_pick T.F_law_pick.kp T.b_law_pick .nil pass0 (pa_cons (pv 1) (pa_cons pe_int pa_nil))) (fun _ _ => rfl)) po_none (po_some pe_int)))
 (pss_one (ps_if (PW.pt (pw_and (pt_cmpR op_notIn_seq (pv 9) (pv 4) rfl) (pw_and1 (pt_cmpR op_lt (pe_callB RD.c_len (by rfl) T.n_len (by decide +kernel) (pa_cons (pv 4) pa_nil)) pe_int (nomark _)))))
 (pss_one (ps_expr (pe_bm PySem.F.plainAttrs_list PySem.F.slot_list_insert PySem.F.type_list_insert mt_insert (pv 4) (pa_cons (pe_call (ok_law_pick T) (hr.mono (by decide)) (by rfl) T.g_law_pick T.F_law_pick.kp T.b_law_pick .nil pass0 (pa_cons (pv 1) (pa_cons (pe_op op_add (pe_callB RD.c_len (by rfl) T.n_len (by decide +kernel) (pa_cons (pv 4) pa_nil)) pe_int) pa_nil))) (pa_cons (pv 9) pa_nil)))))
 pss_nil))))))
 pss_nil)))
 (pss_cons (ps_set (i := 10) sc_law.nd rfl (Or.inl rfl) (pe_lst pa_nil))
 (C8.pss_cut (ps_for PassesOwn.never rfl (pi_list (pv 4)) (pg_name (i := 11) sc_law.nd rfl (Or.inr rfl))
 (pss_one (ps_if (pt_val (pe_call (ok_law_told T) (hr.mono (by decide)) (by rfl) T.g_law_told T.F_law_told.kp T.b_law_told .nil pass0 (pa_cons (pe_lc (own := [("other", 7)]) (g := (gName 7)) (tt := _) rfl sc_law.nd (pi_list (pv 4)) (blkOk_by (own := [("other", 7)]) (N := ["script", "tape", "letters", "word", "watches", "k", "one", "other", "made", "more", "due", "watch", "book", "told", "less"]) (sc := defScope s_law) (by decide +kernel)) (fun _ _ _ _ _ => (pg_name (i := 7) sc_law.nd rfl (Or.inl rfl))) (fun _ _ _ _ _ => (pts_one (pt_cmpR op_ne (pv 7) (pv 11) (nomark _)))) (fun _ _ _ _ _ => (pv 7))) (pa_cons (pv 11) pa_nil))))
 (pss_one (ps_expr (pe_bm PySem.F.plainAttrs_list PySem.F.slot_list_append PySem.F.type_list_append mt_append (pv 10) (pa_cons (pv 11) pa_nil))))
 pss_nil)))
 (pss_cons (ps_set (i := 12) sc_law.nd rfl (Or.inl rfl) (pe_make T.M_Book (ok_Book__init T) (hr.mono (by decide)) (by rfl) T.g_Book T.b_Book__init .nil pass0 (pa_cons (pv 4) pa_nil)))
 (pss_cons (ps_set (i := 13) sc_law.nd rfl (Or.inl rfl) (pe_call (ok_needless T) (hr.mono (by decide)) (by rfl) T.g_needless T.F_needless.kp T.b_needless .nil pass0 (pa_cons (pv 12) pa_nil)))
 (C8.pss_cut (ps_if (PW.pt (pw_or (pt_cmpR (op_neD hr.units) (pv 13) (pv 10) (nomark _)) (pw_or1 (pt_not (pt_val (pe_callB call_isi (by rfl) T.n_isinstance (by decide +kernel) (pa_cons (pv 13) (pa_cons (pe_bltn (v := V.ty "list") (by rfl) T.n_list (by decide +kernel) rfl) pa_nil))))))))
 (pss_one (ps_ret pe_bl))
 pss_nil)
 (C8.pss_cut (ps_expr (pe_bm PySem.F.plainAttrs_list PySem.F.slot_list_append PySem.F.type_list_append mt_append (pv 13) (pa_cons pe_str pa_nil)))
 (C8.pss_cut (ps_for PassesOwn.never rfl (pi_list (pv 4)) (pg_name (i := 11) sc_law.nd rfl (Or.inr rfl))
 (pss_cons (ps_set (i := 14) sc_law.nd rfl (Or.inl rfl) (pe_meth (pv 12) T.cl_Book T.m_Book_without_watch (ok_Book_without_watch T) (hr.mono (by decide)) T.b_Book_without_watch .nil pass0 (pa_cons (pv 11) pa_nil)))
 (pss_one (ps_if (PW.pt (pw_or (pt_not (pt_val (pe_call (ok_law_flag T) (hr.mono (by decide)) (by rfl) T.g_law_flag T.F_law_flag.kp T.b_law_flag .nil pass0 (pa_cons (pe_call (ok_tells_book T) (hr.mono (by decide)) (by rfl) T.g_tells_book T.F_tells_book.kp T.b_tells_book .nil pass0 (pa_cons (pv 14) (pa_cons (pv 12) pa_nil))) (pa_cons (pe_cmpR op_in_seq (pv 11) (pv 10) rfl) pa_nil))))) (pw_or1 (pt_not (pt_val (pe_call (ok_law_flag T) (hr.mono (by decide)) (by rfl) T.g_law_flag T.F_law_flag.kp T.b_law_flag .nil pass0 (pa_cons (pe_call (ok_tells T) (hr.mono (by decide)) (by rfl) T.g_tells T.F_tells.kp T.b_tells .nil pass0 (pa_cons (pv 14) (pa_cons (pe_lst (pa_cons (pv 11) pa_nil)) pa_nil))) (pa_cons (pe_cmpR op_in_seq (pv 11) (pv 10) rfl) pa_nil))))))))
 (pss_one (ps_ret pe_bl))
 pss_nil))))
 (pss_one (ps_ret (pe_and (pe_cmpR (op_eqD hr.units) (pe_call (ok_needless T) (hr.mono (by decide)) (by rfl) T.g_needless T.F_needless.kp T.b_needless .nil pass0 (pa_cons (pv 12) pa_nil)) (pv 10) (nomark _)) (pe_and (pe_cmpR (op_eqD hr.units) (pe_call (ok_needless T) (hr.mono (by decide)) (by rfl) T.g_needless T.F_needless.kp T.b_needless .nil pass0 (pa_cons (pe_make T.M_Book (ok_Book__init T) (hr.mono (by decide)) (by rfl) T.g_Book T.b_Book__init .nil pass0 (pa_cons (pe_lst pa_nil) pa_nil)) pa_nil)) (pe_lst pa_nil) (nomark _)) (pe_one (pe_cmpR (op_eqD hr.units) (pe_fld (pv 12) (by rfl)) (pe_callTy (OQ.tupK K) (by rfl) T.n_tuple (by decide +kernel) (pa_cons (pv 4) pa_nil)) (nomark _))))))))))))))))))), ?_⟩
    walk_at "tx"
    refine ⟨ad, ns, rfl, hS, fun h c H1 hT1 s1 hh hc => ?_⟩
    walk_at "tx"
    refine ⟨h, c, rfl, hT1, fun ls H4 hls hT4 _ => ?_⟩
    walk_at "tx"
    refine ⟨h, c, ls, 1, 12, rfl, hT4, hls, by decide, by decide, fun w0 H6 lw0 lo0 hi0 hT6 k6 => ?_⟩
    have hw0 : IsW 40 w0 := ⟨lo0, Nat.le_trans hi0 (by decide), lw0⟩
    walk_at "tx"
    refine RD.d_cut (fun σ' H' => ∃ (p : Addr) (ws : List WW.Wd), Wx H' h c p ws ∧ σ' = [some (.ref ad), some (.ref h), some (.str (WW.S ls)), some (.str (WW.S w0)), some (.ref p), none, none, none, none, none, none, none, none, none, none]) ?_ ?_
    · walk_at "tx"
      refine ⟨h, c, w0, ls, 9, rfl, hT6, hw0, hls, by decide, fun p ws H8 hT8 k8 hp np ep ok => ?_⟩
      exact ⟨p, ws, ⟨hT8, np, (hT6.free hp).2, ep, ok.mono (by decide)⟩, rfl⟩
    · rintro σ' H8 ⟨p, ws, X8, rfl⟩
      refine RD.d_cut (fun σ' H' => ∃ (ws : List WW.Wd) (v5 v6 v7 v8 v9 : Option V), Wx H' h c p ws ∧ σ' = [some (.ref ad), some (.ref h), some (.str (WW.S ls)), some (.str (WW.S w0)), some (.ref p), v5, v6, v7, v8, v9, none, none, none, none, none]) ?_ ?_
      · walk_at "tx"
        refine ⟨h, c, 5, rfl, X8.t, by decide, log2_lt (by decide), fun many H9 a9 b9 hT9 k9 => ?_⟩
        walk_at "tx"
        refine ⟨_, rfl, by omega, by omega, ?_⟩
        refine RD.f_range (lo := 0) (n := many.toNat) (fun i σ' H' => ∃ (ws : List WW.Wd) (v5 v6 v7 v8 v9 : Option V), Wx H' h c p ws ∧ σ' = [some (.ref ad), some (.ref h), some (.str (WW.S ls)), some (.str (WW.S w0)), some (.ref p), v5, v6, v7, v8, v9, none, none, none, none, none])
          ⟨ws, none, none, none, none, none, X8.kx hT9 k9.kp, rfl⟩ ?_ ?_
        · rintro i σ' HA il ⟨ws, v5, v6, v7, v8, v9, XA, rfl⟩
          walk_at "tx"
          refine RD.d_lenL (SqL.of XA.ep) ?_
          walk_at "tx"
          rw [WW.Ss_len]
          refine RD.iteD (fun c1 => ?_) (fun c1 => ?_)
          · have wl := XA.ok.len
            walk_at "tx"
            refine RD.d_lenL (SqL.of XA.ep) ?_
            walk_at "tx"
            rw [WW.Ss_len]
            refine pickAt XA (by omega) fun HB wa XB hwa _ => ?_
            walk_at "tx"
            refine RD.d_lenL (SqL.of XB.ep) ?_
            walk_at "tx"
            rw [WW.Ss_len]
            refine pickAt XB (by omega) fun HC wb XC hwb _ => ?_
            have la := hwa.hi
            have lb := hwb.hi
            have la1 := hwa.lo
            have lb1 := hwb.lo
            have lab : wa.length + wb.length ≤ 24 := by omega
            have za : wa.length ≤ sizeLine := Nat.le_trans la (by decide)
            have zb : wb.length ≤ sizeLine := Nat.le_trans lb (by decide)
            walk_at "tx"
            refine RD.d_addS (Nat.le_trans lab (by decide)) ?_
            walk_at "tx"
            refine ⟨h, c, wa.length, rfl, XC.t, by omega, log2_lt (by omega), fun r0 HD aD bD hTD kD => ?_⟩
            have XD := XC.kx hTD kD.kp
            walk_at "tx"
            refine RD.d_cutSLo (a := r0.toNat) (by omega) za ?_
            walk_at "tx"
            refine ⟨h, c, wb.length, rfl, XD.t, by omega, log2_lt (by omega), fun r1 HE aE bE hTE kE => ?_⟩
            have XE := XD.kx hTE kE.kp
            walk_at "tx"
            refine RD.d_cutSHi (b := (1 + r1).toNat) (by omega) zb ?_
            walk_at "tx"
            refine ⟨by show 3 ≤ sizeLine; decide, fun u hu => ?_⟩
            have made : ∀ x ∈ [wa ++ wb, wa.drop r0.toNat, wb.take (1 + r1).toNat], 1 ≤ x.length ∧ x.length ≤ 24 ∧ WW.Lw x := by
              intro x mx
              rcases List.mem_cons.mp mx with rfl | mx
              · exact ⟨by rw [List.length_append]; omega, by rw [List.length_append]; omega, hwa.lw.app hwb.lw⟩
              rcases List.mem_cons.mp mx with rfl | mx
              · exact ⟨by rw [List.length_drop]; omega, by rw [List.length_drop]; omega, hwa.lw.drop _⟩
              · rw [List.mem_singleton.mp mx]
                exact ⟨by rw [List.length_take]; omega, by rw [List.length_take]; omega, hwb.lw.take _⟩
            have XF := XE.same (same_upd (o := HO.lst [V.str (WW.S (wa ++ wb)), V.str (WW.S (wa.drop r0.toNat)), V.str (WW.S (wb.take (1 + r1).toNat))]) hu)
            have eu : upd HE u (.lst [V.str (WW.S (wa ++ wb)), V.str (WW.S (wa.drop r0.toNat)), V.str (WW.S (wb.take (1 + r1).toNat))]) u = some (.lst (WW.Ss [wa ++ wb, wa.drop r0.toNat, wb.take (1 + r1).toNat])) := upd_same
            have nu := (XE.t.free hu).1
            generalize upd HE u (.lst [V.str (WW.S (wa ++ wb)), V.str (WW.S (wa.drop r0.toNat)), V.str (WW.S (wb.take (1 + r1).toNat))]) = HF at *
            generalize hm : [wa ++ wb, wa.drop r0.toNat, wb.take (1 + r1).toNat] = md at *
            have ml : md.length = 3 := by rw [← hm]; rfl
            walk_at "tx"
            refine ⟨h, c, 3, rfl, XF.t, by decide, log2_lt (by decide), fun r2 HG aG bG hTG kG => ?_⟩
            have XG := XF.kx hTG kG.kp
            have eu2 : HG u = some (.lst (WW.Ss md)) := by rw [kG u nu]; exact eu
            have r2l : r2.toNat < md.length := by omega
            refine RD.d_ixL (SqL.of eu2) (v := .str (WW.S md[r2.toNat])) (by
              have := atI_nat (xs := WW.Ss md) (j := r2.toNat) (v := .str (WW.S md[r2.toNat])) (by unfold WW.Ss; rw [List.getElem?_map, List.getElem?_eq_getElem r2l]; rfl)
              rwa [Int.toNat_of_nonneg aG] at this) ?_
            obtain ⟨m1, m2, m3⟩ := made _ (List.getElem_mem r2l)
            generalize md[r2.toNat] = x at *
            walk_at "tx"
            refine RD.d_cutSHi (b := 12) rfl (Nat.le_trans m2 (by decide)) ?_
            have hx : IsW 12 (x.take 12) := ⟨by rw [List.length_take]; omega, by rw [List.length_take]; omega, m3.take _⟩
            generalize x.take 12 = more at *
            walk_at "tx"
            refine OQ.d_notInSs (.inl (SqL.of XG.ep)) ?_
            walk_at "tx"
            refine RD.iteN (fun c2 => ?_) (fun c2 => ?_)
            · walk_at "tx"
              refine RD.d_lenL (SqL.of XG.ep) ?_
              walk_at "tx"
              rw [WW.Ss_len]
              refine RD.iteD (fun c3 => ?_) (fun c3 => ?_)
              · walk_at "tx"
                refine ⟨RD.tyL XG.ep, ?_⟩
                walk_at "tx"
                refine RD.d_lenL (SqL.of XG.ep) ?_
                walk_at "tx"
                rw [WW.Ss_len]
                refine ⟨h, c, (ws.length : Int) + 1, rfl, XG.t, by omega, log2_lt (by omega), fun r3 HH a3 b3 hTH kH => ?_⟩
                have XH := XG.kx hTH kH.kp
                walk_at "tx"
                refine ⟨p, _, r3, _, rfl, rfl, XH.ep, by rw [WW.Ss_len]; exact Nat.lt_of_le_of_lt (by omega : ws.length ≤ 13) (by decide), a3, by omega, ?_⟩
                have ok11 : OkS 11 ws := ⟨by omega, XH.ok.ok, XH.ok.nd⟩
                have X2 := XH.put (ok11.put hx c2 r3.toNat)
                refine ⟨ws.take r3.toNat ++ [more] ++ ws.drop r3.toNat, _, _, _, _, _, ?_, rfl⟩
                · have es : WW.Ss (ws.take r3.toNat ++ [more] ++ ws.drop r3.toNat) = (WW.Ss ws).take r3.toNat ++ [V.str (WW.S more)] ++ (WW.Ss ws).drop r3.toNat := by
                    unfold WW.Ss
                    rw [List.map_append, List.map_append, List.map_take, List.map_drop]
                    rfl
                  rw [← es]
                  exact X2
              · walk_at "tx"
                exact ⟨_, _, _, _, _, _, XG, rfl⟩
            · walk_at "tx"
              exact ⟨_, _, _, _, _, _, XG, rfl⟩
          · walk_at "tx"
            exact ⟨_, _, _, _, _, _, XA, rfl⟩
        · rintro σ' HA ⟨ws, v5, v6, v7, v8, v9, XA, rfl⟩
          exact ⟨_, _, _, _, _, _, XA, rfl⟩
      · rintro σ' H9 ⟨ws, v5, v6, v7, v8, v9, X9, rfl⟩
        have okw := X9.okw
        have lw9 : ∀ l ∈ ws, WW.Lw l := fun l m => (okw.ok l m).lw
        have lwc : ∀ l ∈ csel (Ndl ws) ws, WW.Lw l := fun l m => lw9 l (csel_mem.mp m).1
        have lcs : ∀ n, (csel (Ndl ws) (ws.take n)).length ≤ 12 := fun n => Nat.le_trans (csel_len ..) (Nat.le_trans (by rw [List.length_take]; omega) okw.len)
        walk_at "tx"
        refine ⟨by show 0 ≤ sizeLine; decide, fun u hu => ?_⟩
        have s0 := same_upd (o := HO.lst []) hu
        have eu0 : upd H9 u (.lst []) u = some (.lst (WW.Ss [])) := upd_same
        generalize upd H9 u (.lst []) = HA at *
        walk_at "tx"
        refine RD.d_cut (fun σ' H' => Same H9 H' ∧ H' u = some (.lst (WW.Ss (csel (Ndl ws) ws))) ∧ ∃ v7 v11 : Option V, σ' = [some (.ref ad), some (.ref h), some (.str (WW.S ls)), some (.str (WW.S w0)), some (.ref p), v5, v6, v7, v8, v9, some (.ref u), v11, none, none, none]) ?_ ?_
        · walk_at "tx"
          refine ⟨p, rfl, ⟨_, SqL.of (s0 _ _ X9.ep)⟩, ?_⟩
          refine RD.f_list (K := K) (a := p) (xs := WW.Ss ws) (fun i σ' H' => Same H9 H' ∧ H' u = some (.lst (WW.Ss (csel (Ndl ws) (ws.take i)))) ∧ ∃ v7 v11 : Option V, σ' = [some (.ref ad), some (.ref h), some (.str (WW.S ls)), some (.str (WW.S w0)), some (.ref p), v5, v6, v7, v8, v9, some (.ref u), v11, none, none, none])
            ⟨s0, by rw [List.take_zero]; exact eu0, v7, none, rfl⟩ ?_ ?_ ?_
          · rintro i σ' H' _ ⟨s1, _⟩
            exact SqL.of (s1 _ _ X9.ep)
          · rintro i y σ' HB hy ⟨sB, eu, v7, v11, rfl⟩
            obtain ⟨wd, ew, rfl⟩ := WW.Ss_get hy
            have hm := List.mem_of_getElem? ew
            walk_at "tx"
            refine ⟨p, rfl, ⟨_, SqL.of (sB _ _ X9.ep)⟩, fun D hD => ?_⟩
            have nD : u ≠ D := ne_of_none eu hD
            have sD := same_upd (o := HO.lst []) hD
            refine lc_list (K := K) (a := p) (xs := WW.Ss ws) (fun i H' => Same HB H' ∧ H' D = some (.lst (WW.Ss (less (ws.take i) wd)))) ⟨sD, upd_same⟩ ?_ ?_ ?_
            · rintro i H' _ ⟨s1, _⟩
              exact SqL.of (s1 _ _ (sB _ _ X9.ep))
            · rintro j y H' hy ⟨s1, eD⟩
              obtain ⟨vd, ev, rfl⟩ := WW.Ss_get hy
              have nx := less_take (w := wd) ev
              walk_at "tx"
              refine RD.iteN (fun c => ?_) (fun c => ?_)
              · walk_at "tx"
                rw [if_pos c] at nx
                have bd : (less (ws.take j) wd).length ≤ 12 := Nat.le_trans (List.length_filter_le ..) (Nat.le_trans (by rw [List.length_take]; omega) okw.len)
                refine ⟨_, eD, by rw [WW.Ss_len]; exact Nat.lt_of_le_of_lt bd (by decide), fun b u e => ?_, ?_⟩
                · rw [upd_ne (ne_of_none e hD)]; exact s1 _ _ e
                · rw [upd_same, WW.Ss_app, nx]
              · rw [if_neg (fun z => z c)] at nx
                exact ⟨s1, by rw [nx]; exact eD⟩
            · rintro HC ⟨sC, eD⟩
              rw [WW.Ss_len, List.take_length] at eD
              walk_at "tx"
              have smL : Small (less ws wd) := fun v m => X9.small v (less_mem.mp m).1
              refine ⟨D, less ws wd, wd, rfl, SqL.of eD, smL, (X9.small wd hm).2, fun b HE sE hb => ?_⟩
              have euE := sE _ _ (sC _ _ eu)
              have s9 := (sB.trans sC).trans sE
              obtain ⟨c1, c2⟩ := csel_take (P := Ndl ws) ew
              cases b with
              | true =>
                walk_at "tx"
                refine ⟨RD.tyL euE, ?_⟩
                walk_at "tx"
                refine RD.d_app euE (by rw [WW.Ss_len]; exact Nat.lt_of_le_of_lt (lcs i) (by decide)) ?_
                rw [WW.Ss_app, ← c1 (hb.mp rfl)]
                exact ⟨fun b o e => by rw [upd_ne (ne_of_none e hu)]; exact s9 _ _ e, upd_same, _, _, rfl⟩
              | false =>
                walk_at "tx"
                exact ⟨s9, by rw [c2 (fun z => by have := hb.mpr z; cases this)]; exact euE, _, _, rfl⟩
          · rintro σ' HB ⟨sB, eu, v7, v11, rfl⟩
            rw [WW.Ss_len, List.take_length] at eu
            exact ⟨sB, eu, _, _, rfl⟩
        · rintro σ' HB ⟨sB, eu, v7, v11, rfl⟩
          have XB := X9.same sB
          clear X8 X9 s0 eu0 sB hu
          walk_at "tx"
          intro x dx nx ndx nxd
          refine ⟨x, dx, p, ws, rfl, upd_same, .inl (SqL.of ?_), okw, fun HC kC bC => ⟨rfl, ?_⟩⟩
          · rw [upd_ne (ne_of_none XB.ep nx), upd_ne (ne_of_none XB.ep ndx)]; exact XB.ep
          have sC : Same HB HC := Same.made nx ndx (fun b o e n => kC b o n e)
          have XC := XB.same sC
          have euC := sC _ _ eu
          clear kC nxd nx ndx sC XB eu
          walk_at "tx"
          refine ⟨x, ws, rfl, bC, okw, fun q HD sD hq eq => ?_⟩
          walk_at "tx"
          refine RD.d_cut (fun σ' H' => H' = HD ∧ σ' = [some (.ref ad), some (.ref h), some (.str (WW.S ls)), some (.str (WW.S w0)), some (.ref p), v5, v6, v7, v8, v9, some (.ref u), v11, some (.ref x), some (.ref q), none]) ?_ ?_
          · walk_at "tx"
            refine OQ.d_neSs (SqL.of eq) (SqL.of (sD _ _ euC)) lwc lwc ?_
            rw [decide_eq_true rfl]
            walk_at "tx"
            refine RD.d_isi (.ty _) (.base (.lst eq)) (kit_ty (r := true) (by decide +kernel)) ?_
            walk_at "tx"
            exact ⟨rfl, rfl⟩
          · rintro σ' H' ⟨rfl, rfl⟩
            refine RD.d_cut (fun σ' H' => Same HC H' ∧ σ' = [some (.ref ad), some (.ref h), some (.str (WW.S ls)), some (.str (WW.S w0)), some (.ref p), v5, v6, v7, v8, v9, some (.ref u), v11, some (.ref x), some (.ref q), none]) ?_ ?_
            · walk_at "tx"
              refine ⟨RD.tyL eq, ?_⟩
              walk_at "tx"
              refine RD.d_app eq (by rw [WW.Ss_len]; exact Nat.lt_of_le_of_lt (Nat.le_trans (csel_len ..) okw.len) (by decide)) ?_
              exact ⟨fun b o e => by rw [upd_ne (ne_of_none e hq)]; exact sD _ _ e, rfl⟩
            · rintro σ' HE ⟨sE, rfl⟩
              refine RD.d_cut (fun σ' H' => Same HC H' ∧ ∃ v11 v14 : Option V, σ' = [some (.ref ad), some (.ref h), some (.str (WW.S ls)), some (.str (WW.S w0)), some (.ref p), v5, v6, v7, v8, v9, some (.ref u), v11, some (.ref x), some (.ref q), v14]) ?_ ?_
              · walk_at "tx"
                refine ⟨p, rfl, ⟨_, SqL.of (sE _ _ XC.ep)⟩, ?_⟩
                refine RD.f_list (K := K) (a := p) (xs := WW.Ss ws) (fun i σ' H' => Same HC H' ∧ ∃ v11 v14 : Option V, σ' = [some (.ref ad), some (.ref h), some (.str (WW.S ls)), some (.str (WW.S w0)), some (.ref p), v5, v6, v7, v8, v9, some (.ref u), v11, some (.ref x), some (.ref q), v14])
                  ⟨sE, v11, none, rfl⟩ ?_ ?_ ?_
                · rintro i σ' H' _ ⟨s1, _⟩
                  exact SqL.of (s1 _ _ XC.ep)
                · rintro i y σ' HF hy ⟨sF, v11, v14, rfl⟩
                  obtain ⟨wd, ew, rfl⟩ := WW.Ss_get hy
                  have hm := List.mem_of_getElem? ew
                  obtain ⟨dx2, t, ex, sq⟩ := id (bC.same sF)
                  walk_at "tx"
                  refine ⟨x, dx2, _, rfl, ex, lk_ne (by decide +kernel), ?_⟩
                  walk_at "tx"
                  refine ⟨x, ws, wd, rfl, bC.same sF, okw, hm, fun y HG sG bG => ?_⟩
                  have sFG := sF.trans sG
                  walk_at "tx"
                  refine ⟨y, x, less ws wd, ws, rfl, bG, okw.less wd, bC.same sFG, okw, fun b HH sH hb => ?_⟩
                  have sFH := sFG.trans sH
                  walk_at "tx"
                  refine OQ.d_inSs (.inl (SqL.of (sFH _ _ euC))) ?_
                  walk_at "tx"
                  have ndl : (decide (wd ∈ csel (Ndl ws) ws) = true) ↔ Ndl ws wd := by rw [decide_eq_true_eq, csel_mem]; exact ⟨fun z => z.2, fun z => ⟨hm, z⟩⟩
                  refine ⟨b, _, rfl, ?_⟩
                  have e1 : b = decide (wd ∈ csel (Ndl ws) ws) := by
                    rw [Bool.eq_iff_iff, ndl, hb]
                    refine ⟨fun z => z wd hm, fun z l m => ?_⟩
                    by_cases c : l = wd
                    · subst c; exact z
                    · exact told_self (less_mem.mpr ⟨m, c⟩)
                  rw [decide_eq_true e1]
                  walk_at "tx"
                  refine ⟨by show 1 ≤ sizeLine; decide, fun v hv => ?_⟩
                  have sI := same_upd (o := HO.lst [V.str (WW.S wd)]) hv
                  have eI : upd HH v (.lst [V.str (WW.S wd)]) v = some (.lst (WW.Ss [wd])) := upd_same
                  generalize upd HH v (.lst [V.str (WW.S wd)]) = HI at *
                  have sFI := sFH.trans sI
                  walk_at "tx"
                  refine ⟨y, v, less ws wd, [wd], rfl, bG.same (sH.trans sI), okw.less wd, .inl (SqL.of eI), by show 1 ≤ 20; decide, fun l m => by rw [List.mem_singleton.mp m]; exact (okw.ok wd hm).mono (by decide), fun b2 HJ sJ hb2 => ?_⟩
                  have sFJ := sFI.trans sJ
                  walk_at "tx"
                  refine OQ.d_inSs (.inl (SqL.of (sFJ _ _ euC))) ?_
                  walk_at "tx"
                  refine ⟨b2, _, rfl, ?_⟩
                  have e2 : b2 = decide (wd ∈ csel (Ndl ws) ws) := by
                    rw [Bool.eq_iff_iff, ndl, hb2]
                    exact ⟨fun z => z wd (List.mem_singleton.mpr rfl), fun z l m => by rw [List.mem_singleton.mp m]; exact z⟩
                  rw [decide_eq_true e2]
                  walk_at "tx"
                  exact ⟨sFJ, _, _, rfl⟩
                · rintro σ' HF ⟨sF, v11, v14, rfl⟩
                  exact ⟨sF, _, _, rfl⟩
              · rintro σ' HF ⟨sF, v11, v14, rfl⟩
                walk_at "tx"
                refine ⟨x, ws, rfl, bC.same sF, okw, fun q2 HG sG hq2 eq2 => ?_⟩
                have sFG := sF.trans sG
                walk_at "tx"
                refine OQ.d_eqSs (SqL.of eq2) (SqL.of (sFG _ _ euC)) lwc lwc ?_
                rw [decide_eq_true rfl]
                walk_at "tx"
                refine ⟨by show 0 ≤ sizeLine; decide, fun v hv => ?_⟩
                have sH := same_upd (o := HO.lst []) hv
                have eH : upd HG v (.lst []) v = some (.lst (WW.Ss [])) := upd_same
                generalize upd HG v (.lst []) = HH at *
                have sFH := sFG.trans sH
                walk_at "tx"
                intro z dz nz ndz nzd
                refine ⟨z, dz, v, [], rfl, upd_same, .inl (SqL.of ?_), ⟨by decide, (fun _ m => nomatch m), List.nodup_nil⟩, fun HI kI bI => ⟨rfl, ?_⟩⟩
                · rw [upd_ne (ne_of_none eH nz), upd_ne (ne_of_none eH ndz)]; exact eH
                have sI : Same HH HI := Same.made nz ndz (fun b o e n => kI b o n e)
                have sFI := sFH.trans sI
                walk_at "tx"
                refine ⟨z, [], rfl, bI, ⟨by decide, (fun _ m => nomatch m), List.nodup_nil⟩, fun q3 HJ sJ hq3 eq3 => ?_⟩
                have sFJ := sFI.trans sJ
                walk_at "tx"
                refine ⟨by show 0 ≤ sizeLine; decide, fun v4 hv4 => ?_⟩
                have sK := same_upd (o := HO.lst []) hv4
                have eK : upd HJ v4 (.lst []) v4 = some (.lst (WW.Ss [])) := upd_same
                generalize upd HJ v4 (.lst []) = HK at *
                have sFK := sFJ.trans sK
                walk_at "tx"
                refine OQ.d_eqSs (ls := csel (Ndl []) []) (ms := []) (SqL.of (sK _ _ eq3)) (SqL.of eK) (fun _ m => nomatch (csel_mem.mp m).1) (fun _ m => nomatch m) ?_
                rw [decide_eq_true (show csel (Ndl []) [] = [] from rfl)]
                walk_at "tx"
                obtain ⟨dx2, t, ex, sq⟩ := id (bC.same sFK)
                refine ⟨x, T.C_Book, dx2, _, _, rfl, ex, T.cl_Book, T.na_Book_watches, lk_eq, ?_⟩
                walk_at "tx"
                refine OQ.d_tupSeq (.inl (SqL.of (sFK _ _ XC.ep))) (fun HL t2 sL sq2 => ?_)
                refine OQ.d_eqSsT (OQ.sqT_same sq sL) sq2 lw9 lw9 ?_
                rw [decide_eq_true rfl]
                exact k _
end

theorem facts {P : Program} {w : World} {K : PySem.W.Frag} {h : Heap} {mg : Str → Option Value} {f : Addr} (X : K.In h) (G : h.Ns mainGlobals mg) (hfa : mg ("law" : Str) = some (.ref f)) (c : He.SaysD faH fnH K) (x : exH K = true) :
    ∃ fd : FuncData, (∀ (s : Shared) (v : Value), BindsTo s fd ⟨[v], []⟩ [("script", v)]) ∧ ∀ base : Heap, K.In base → base.Ns mainGlobals mg → FnOk P w K mg base CX0 14 f fd ["script"] (spLaw K) := by
  obtain ⟨fdis_row, Dis_row⟩ := c.def_ 0 (d := dH_is_row) rfl
  have Fis_row : Fun K _ _ s_is_row _ fdis_row := OQ.fun_of Dis_row
  have bis_row := Fis_row.binds (ps := ["thing"]) fun _ _ _ _ _ _ us hl => match us, hl with | [_], _ => rfl
  obtain ⟨fdis_word, Dis_word⟩ := c.def_ 1 (d := dH_is_word) rfl
  have Fis_word : Fun K _ _ s_is_word _ fdis_word := OQ.fun_of Dis_word
  have bis_word := Fis_word.binds (ps := ["thing"]) fun _ _ _ _ _ _ us hl => match us, hl with | [_], _ => rfl
  obtain ⟨fdis_watch, Dis_watch⟩ := c.def_ 2 (d := dH_is_watch) rfl
  have Fis_watch : Fun K _ _ s_is_watch _ fdis_watch := OQ.fun_of Dis_watch
  have bis_watch := Fis_watch.binds (ps := ["thing"]) fun _ _ _ _ _ _ us hl => match us, hl with | [_], _ => rfl
  obtain ⟨fdhas_letters, Dhas_letters⟩ := c.def_ 3 (d := dH_has_letters) rfl
  have Fhas_letters : Fun K _ _ s_has_letters _ fdhas_letters := OQ.fun_of Dhas_letters
  have bhas_letters := Fhas_letters.binds (ps := ["thing", "most"]) fun _ _ _ _ _ _ us hl => match us, hl with | [_, _], _ => rfl
  obtain ⟨fdcheck_word, Dcheck_word⟩ := c.def_ 4 (d := dH_check_word) rfl
  have Fcheck_word : Fun K _ _ s_check_word _ fdcheck_word := OQ.fun_of Dcheck_word
  have bcheck_word := Fcheck_word.binds (ps := ["word"]) fun _ _ _ _ _ _ us hl => match us, hl with | [_], _ => rfl
  obtain ⟨fdwrong_watch, Dwrong_watch⟩ := c.def_ 5 (d := dH_wrong_watch) rfl
  have Fwrong_watch : Fun K _ _ s_wrong_watch _ fdwrong_watch := OQ.fun_of Dwrong_watch
  have bwrong_watch := Fwrong_watch.binds (ps := ["watches"]) fun _ _ _ _ _ _ us hl => match us, hl with | [_], _ => rfl
  obtain ⟨fdBook__init, DBook__init⟩ := c.def_ 6 (d := dH_Book__init) rfl
  have FBook__init : Fun K _ _ s_Book__init _ fdBook__init := OQ.fun_of DBook__init
  have bBook__init := FBook__init.binds (ps := ["self", "watches"]) fun _ _ _ _ _ _ us hl => match us, hl with | [_, _], _ => rfl
  obtain ⟨fdBook_has, DBook_has⟩ := c.def_ 7 (d := dH_Book_has) rfl
  have FBook_has : Fun K _ _ s_Book_has _ fdBook_has := OQ.fun_of DBook_has
  have bBook_has := FBook_has.binds (ps := ["self", "thing"]) fun _ _ _ _ _ _ us hl => match us, hl with | [_, _], _ => rfl
  obtain ⟨fdBook_without_watch, DBook_without_watch⟩ := c.def_ 8 (d := dH_Book_without_watch) rfl
  have FBook_without_watch : Fun K _ _ s_Book_without_watch _ fdBook_without_watch := OQ.fun_of DBook_without_watch
  have bBook_without_watch := FBook_without_watch.binds (ps := ["self", "watch"]) fun _ _ _ _ _ _ us hl => match us, hl with | [_, _], _ => rfl
  obtain ⟨fdcheck_book, Dcheck_book⟩ := c.def_ 9 (d := dH_check_book) rfl
  have Fcheck_book : Fun K _ _ s_check_book _ fdcheck_book := OQ.fun_of Dcheck_book
  have bcheck_book := Fcheck_book.binds (ps := ["book"]) fun _ _ _ _ _ _ us hl => match us, hl with | [_], _ => rfl
  obtain ⟨fdcheck_asked, Dcheck_asked⟩ := c.def_ 10 (d := dH_check_asked) rfl
  have Fcheck_asked : Fun K _ _ s_check_asked _ fdcheck_asked := OQ.fun_of Dcheck_asked
  have bcheck_asked := Fcheck_asked.binds (ps := ["book", "word"]) fun _ _ _ _ _ _ us hl => match us, hl with | [_, _], _ => rfl
  obtain ⟨fdlinks_through, Dlinks_through⟩ := c.def_ 11 (d := dH_links_through) rfl
  have Flinks_through : Fun K _ _ s_links_through _ fdlinks_through := OQ.fun_of Dlinks_through
  have blinks_through := Flinks_through.binds (ps := ["pieces", "word"]) fun _ _ _ _ _ _ us hl => match us, hl with | [_, _], _ => rfl
  obtain ⟨fdsteps_to, Dsteps_to⟩ := c.def_ 12 (d := dH_steps_to) rfl
  have Fsteps_to : Fun K _ _ s_steps_to _ fdsteps_to := OQ.fun_of Dsteps_to
  have bsteps_to := Fsteps_to.binds (ps := ["links", "goal"]) fun _ _ _ _ _ _ us hl => match us, hl with | [_, _], _ => rfl
  obtain ⟨fdleads_through, Dleads_through⟩ := c.def_ 13 (d := dH_leads_through) rfl
  have Fleads_through : Fun K _ _ s_leads_through _ fdleads_through := OQ.fun_of Dleads_through
  have bleads_through := Fleads_through.binds (ps := ["pieces", "word"]) fun _ _ _ _ _ _ us hl => match us, hl with | [_, _], _ => rfl
  obtain ⟨fdis_told, Dis_told⟩ := c.def_ 14 (d := dH_is_told) rfl
  have Fis_told : Fun K _ _ s_is_told _ fdis_told := OQ.fun_of Dis_told
  have bis_told := Fis_told.binds (ps := ["book", "word"]) fun _ _ _ _ _ _ us hl => match us, hl with | [_, _], _ => rfl
  obtain ⟨fdtells, Dtells⟩ := c.def_ 15 (d := dH_tells) rfl
  have Ftells : Fun K _ _ s_tells _ fdtells := OQ.fun_of Dtells
  have btells := Ftells.binds (ps := ["book", "words"]) fun _ _ _ _ _ _ us hl => match us, hl with | [_, _], _ => rfl
  obtain ⟨fdcheck_words, Dcheck_words⟩ := c.def_ 16 (d := dH_check_words) rfl
  have Fcheck_words : Fun K _ _ s_check_words _ fdcheck_words := OQ.fun_of Dcheck_words
  have bcheck_words := Fcheck_words.binds (ps := ["words"]) fun _ _ _ _ _ _ us hl => match us, hl with | [_], _ => rfl
  obtain ⟨fdtells_book, Dtells_book⟩ := c.def_ 17 (d := dH_tells_book) rfl
  have Ftells_book : Fun K _ _ s_tells_book _ fdtells_book := OQ.fun_of Dtells_book
  have btells_book := Ftells_book.binds (ps := ["one", "other"]) fun _ _ _ _ _ _ us hl => match us, hl with | [_, _], _ => rfl
  obtain ⟨fdneedless, Dneedless⟩ := c.def_ 18 (d := dH_needless) rfl
  have Fneedless : Fun K _ _ s_needless _ fdneedless := OQ.fun_of Dneedless
  have bneedless := Fneedless.binds (ps := ["book"]) fun _ _ _ _ _ _ us hl => match us, hl with | [_], _ => rfl
  obtain ⟨fdlaw_flag, Dlaw_flag⟩ := c.def_ 19 (d := dH_law_flag) rfl
  have Flaw_flag : Fun K _ _ s_law_flag _ fdlaw_flag := OQ.fun_of Dlaw_flag
  have blaw_flag := Flaw_flag.binds (ps := ["told", "due"]) fun _ _ _ _ _ _ us hl => match us, hl with | [_, _], _ => rfl
  obtain ⟨fdlaw_tape, Dlaw_tape⟩ := c.def_ 20 (d := dH_law_tape) rfl
  have Flaw_tape : Fun K _ _ s_law_tape _ fdlaw_tape := OQ.fun_of Dlaw_tape
  have blaw_tape := Flaw_tape.binds (ps := ["script"]) fun _ _ _ _ _ _ us hl => match us, hl with | [_], _ => rfl
  obtain ⟨fdlaw_pick, Dlaw_pick⟩ := c.def_ 21 (d := dH_law_pick) rfl
  have Flaw_pick : Fun K _ _ s_law_pick _ fdlaw_pick := OQ.fun_of Dlaw_pick
  have blaw_pick := Flaw_pick.binds (ps := ["tape", "size"]) fun _ _ _ _ _ _ us hl => match us, hl with | [_, _], _ => rfl
  obtain ⟨fdlaw_letters, Dlaw_letters⟩ := c.def_ 22 (d := dH_law_letters) rfl
  have Flaw_letters : Fun K _ _ s_law_letters _ fdlaw_letters := OQ.fun_of Dlaw_letters
  have blaw_letters := Flaw_letters.binds (ps := ["tape"]) fun _ _ _ _ _ _ us hl => match us, hl with | [_], _ => rfl
  obtain ⟨fdlaw_word, Dlaw_word⟩ := c.def_ 23 (d := dH_law_word) rfl
  have Flaw_word : Fun K _ _ s_law_word _ fdlaw_word := OQ.fun_of Dlaw_word
  have blaw_word := Flaw_word.binds (ps := ["tape", "letters", "least", "most"]) fun _ _ _ _ _ _ us hl => match us, hl with | [_, _, _, _], _ => rfl
  obtain ⟨fdlaw_piece, Dlaw_piece⟩ := c.def_ 24 (d := dH_law_piece) rfl
  have Flaw_piece : Fun K _ _ s_law_piece _ fdlaw_piece := OQ.fun_of Dlaw_piece
  have blaw_piece := Flaw_piece.binds (ps := ["tape", "word"]) fun _ _ _ _ _ _ us hl => match us, hl with | [_, _], _ => rfl
  obtain ⟨fdlaw_pathed, Dlaw_pathed⟩ := c.def_ 25 (d := dH_law_pathed) rfl
  have Flaw_pathed : Fun K _ _ s_law_pathed _ fdlaw_pathed := OQ.fun_of Dlaw_pathed
  have blaw_pathed := Flaw_pathed.binds (ps := ["tape", "word"]) fun _ _ _ _ _ _ us hl => match us, hl with | [_, _], _ => rfl
  obtain ⟨fdlaw_watches, Dlaw_watches⟩ := c.def_ 26 (d := dH_law_watches) rfl
  have Flaw_watches : Fun K _ _ s_law_watches _ fdlaw_watches := OQ.fun_of Dlaw_watches
  have blaw_watches := Flaw_watches.binds (ps := ["tape", "word", "letters", "most"]) fun _ _ _ _ _ _ us hl => match us, hl with | [_, _, _, _], _ => rfl
  obtain ⟨fdlaw_marks, Dlaw_marks⟩ := c.def_ 27 (d := dH_law_marks) rfl
  have Flaw_marks : Fun K _ _ s_law_marks _ fdlaw_marks := OQ.fun_of Dlaw_marks
  have blaw_marks := Flaw_marks.binds (ps := ["watches", "word"]) fun _ _ _ _ _ _ us hl => match us, hl with | [_, _], _ => rfl
  obtain ⟨fdlaw_told, Dlaw_told⟩ := c.def_ 28 (d := dH_law_told) rfl
  have Flaw_told : Fun K _ _ s_law_told _ fdlaw_told := OQ.fun_of Dlaw_told
  have blaw_told := Flaw_told.binds (ps := ["watches", "word"]) fun _ _ _ _ _ _ us hl => match us, hl with | [_, _], _ => rfl
  obtain ⟨fdlaw_told_all, Dlaw_told_all⟩ := c.def_ 29 (d := dH_law_told_all) rfl
  have Flaw_told_all : Fun K _ _ s_law_told_all _ fdlaw_told_all := OQ.fun_of Dlaw_told_all
  have blaw_told_all := Flaw_told_all.binds (ps := ["watches", "words"]) fun _ _ _ _ _ _ us hl => match us, hl with | [_, _], _ => rfl
  obtain ⟨fdlaw, Dlaw⟩ := c.def_ 30 (d := dH_law) rfl
  have Flaw : Fun K _ _ s_law _ fdlaw := OQ.fun_of Dlaw
  have blaw := Flaw.binds (ps := ["script"]) fun _ _ _ _ _ _ us hl => match us, hl with | [_], _ => rfl
  have gBook : mg "Book" = some (.ref (He.ga K "Book")) := He.glo_ok X G (c.fact 0 rfl)
  have gis_row : mg "is_row" = some (.ref (He.ga K "is_row")) := He.glo_ok X G (c.fact 1 rfl)
  have gis_word : mg "is_word" = some (.ref (He.ga K "is_word")) := He.glo_ok X G (c.fact 2 rfl)
  have gis_watch : mg "is_watch" = some (.ref (He.ga K "is_watch")) := He.glo_ok X G (c.fact 3 rfl)
  have ghas_letters : mg "has_letters" = some (.ref (He.ga K "has_letters")) := He.glo_ok X G (c.fact 4 rfl)
  have gcheck_word : mg "check_word" = some (.ref (He.ga K "check_word")) := He.glo_ok X G (c.fact 5 rfl)
  have gwrong_watch : mg "wrong_watch" = some (.ref (He.ga K "wrong_watch")) := He.glo_ok X G (c.fact 6 rfl)
  have gcheck_book : mg "check_book" = some (.ref (He.ga K "check_book")) := He.glo_ok X G (c.fact 7 rfl)
  have gcheck_asked : mg "check_asked" = some (.ref (He.ga K "check_asked")) := He.glo_ok X G (c.fact 8 rfl)
  have glinks_through : mg "links_through" = some (.ref (He.ga K "links_through")) := He.glo_ok X G (c.fact 9 rfl)
  have gsteps_to : mg "steps_to" = some (.ref (He.ga K "steps_to")) := He.glo_ok X G (c.fact 10 rfl)
  have gleads_through : mg "leads_through" = some (.ref (He.ga K "leads_through")) := He.glo_ok X G (c.fact 11 rfl)
  have gis_told : mg "is_told" = some (.ref (He.ga K "is_told")) := He.glo_ok X G (c.fact 12 rfl)
  have gtells : mg "tells" = some (.ref (He.ga K "tells")) := He.glo_ok X G (c.fact 13 rfl)
  have gcheck_words : mg "check_words" = some (.ref (He.ga K "check_words")) := He.glo_ok X G (c.fact 14 rfl)
  have gtells_book : mg "tells_book" = some (.ref (He.ga K "tells_book")) := He.glo_ok X G (c.fact 15 rfl)
  have gneedless : mg "needless" = some (.ref (He.ga K "needless")) := He.glo_ok X G (c.fact 16 rfl)
  have g_law_flag : mg "_law_flag" = some (.ref (He.ga K "_law_flag")) := He.glo_ok X G (c.fact 17 rfl)
  have g_law_tape : mg "_law_tape" = some (.ref (He.ga K "_law_tape")) := He.glo_ok X G (c.fact 18 rfl)
  have g_law_pick : mg "_law_pick" = some (.ref (He.ga K "_law_pick")) := He.glo_ok X G (c.fact 19 rfl)
  have g_law_letters : mg "_law_letters" = some (.ref (He.ga K "_law_letters")) := He.glo_ok X G (c.fact 20 rfl)
  have g_law_word : mg "_law_word" = some (.ref (He.ga K "_law_word")) := He.glo_ok X G (c.fact 21 rfl)
  have g_law_piece : mg "_law_piece" = some (.ref (He.ga K "_law_piece")) := He.glo_ok X G (c.fact 22 rfl)
  have g_law_pathed : mg "_law_pathed" = some (.ref (He.ga K "_law_pathed")) := He.glo_ok X G (c.fact 23 rfl)
  have g_law_watches : mg "_law_watches" = some (.ref (He.ga K "_law_watches")) := He.glo_ok X G (c.fact 24 rfl)
  have g_law_marks : mg "_law_marks" = some (.ref (He.ga K "_law_marks")) := He.glo_ok X G (c.fact 25 rfl)
  have g_law_told : mg "_law_told" = some (.ref (He.ga K "_law_told")) := He.glo_ok X G (c.fact 26 rfl)
  have g_law_told_all : mg "_law_told_all" = some (.ref (He.ga K "_law_told_all")) := He.glo_ok X G (c.fact 27 rfl)
  have glaw : mg "law" = some (.ref (He.ga K "law")) := He.glo_ok X G (c.fact 28 rfl)
  have zisinstance : mg "isinstance" = none := He.free_ok X G (c.fact 29 rfl)
  have zlist : mg "list" = none := He.free_ok X G (c.fact 30 rfl)
  have ztuple : mg "tuple" = none := He.free_ok X G (c.fact 31 rfl)
  have zstr : mg "str" = none := He.free_ok X G (c.fact 32 rfl)
  have zlen : mg "len" = none := He.free_ok X G (c.fact 33 rfl)
  have zall : mg "all" = none := He.free_ok X G (c.fact 34 rfl)
  have zenumerate : mg "enumerate" = none := He.free_ok X G (c.fact 35 rfl)
  have zrange : mg "range" = none := He.free_ok X G (c.fact 36 rfl)
  have zsorted : mg "sorted" = none := He.free_ok X G (c.fact 37 rfl)
  have zint : mg "int" = none := He.free_ok X G (c.fact 38 rfl)
  have zmin : mg "min" = none := He.free_ok X G (c.fact 39 rfl)
  have zmax : mg "max" = none := He.free_ok X G (c.fact 40 rfl)
  have zbool : mg "bool" = none := He.free_ok X G (c.fact 41 rfl)
  obtain ⟨tkMOST_LETTERS, gMOST_LETTERS⟩ := He.int_ok X G (c.fact 42 (f := .int "MOST_LETTERS" 40) rfl)
  obtain ⟨tkMOST_WATCH_LETTERS, gMOST_WATCH_LETTERS⟩ := He.int_ok X G (c.fact 43 (f := .int "MOST_WATCH_LETTERS" 12) rfl)
  obtain ⟨tkMOST_WATCHES, gMOST_WATCHES⟩ := He.int_ok X G (c.fact 44 (f := .int "MOST_WATCHES" 12) rfl)
  obtain ⟨tkMOST_WORDS, gMOST_WORDS⟩ := He.int_ok X G (c.fact 45 (f := .int "MOST_WORDS" 20) rfl)
  have r0 := x
  obtain ⟨qhnO, r1⟩ := OQ.two r0
  obtain ⟨qhtO, r2⟩ := OQ.two r1
  obtain ⟨qhaBook, r3⟩ := OQ.two r2
  have qhmBook := r3
  have hnO := OQ.isB_ok qhnO
  have htO := of_decide_eq_true qhtO
  have e := hfa.symm.trans glaw
  cases e
  let T : Top K mg := { C_Book := _, cl_Book := He.cls_ok (c.fact 46 (f := .cls "Book") rfl), g_Book := gBook, na_Book_watches := He.noat_ok (c.fact 47 (f := .noat "Book" "watches") rfl), f_is_row := _, fd_is_row := fdis_row, F_is_row := Fis_row, b_is_row := bis_row, g_is_row := gis_row, f_is_word := _, fd_is_word := fdis_word, F_is_word := Fis_word, b_is_word := bis_word, g_is_word := gis_word, f_is_watch := _, fd_is_watch := fdis_watch, F_is_watch := Fis_watch, b_is_watch := bis_watch, g_is_watch := gis_watch, f_has_letters := _, fd_has_letters := fdhas_letters, F_has_letters := Fhas_letters, b_has_letters := bhas_letters, g_has_letters := ghas_letters, f_check_word := _, fd_check_word := fdcheck_word, F_check_word := Fcheck_word, b_check_word := bcheck_word, g_check_word := gcheck_word, f_wrong_watch := _, fd_wrong_watch := fdwrong_watch, F_wrong_watch := Fwrong_watch, b_wrong_watch := bwrong_watch, g_wrong_watch := gwrong_watch, f_Book__init := _, fd_Book__init := fdBook__init, F_Book__init := FBook__init, b_Book__init := bBook__init, M_Book := He.mkr_ok (c.fact 50 (f := .mkr "Book") rfl), f_Book_has := _, fd_Book_has := fdBook_has, F_Book_has := FBook_has, b_Book_has := bBook_has, m_Book_has := He.meth_ok (c.fact 48 (f := .meth "Book" "has") rfl), f_Book_without_watch := _, fd_Book_without_watch := fdBook_without_watch, F_Book_without_watch := FBook_without_watch, b_Book_without_watch := bBook_without_watch, m_Book_without_watch := He.meth_ok (c.fact 49 (f := .meth "Book" "without_watch") rfl), f_check_book := _, fd_check_book := fdcheck_book, F_check_book := Fcheck_book, b_check_book := bcheck_book, g_check_book := gcheck_book, f_check_asked := _, fd_check_asked := fdcheck_asked, F_check_asked := Fcheck_asked, b_check_asked := bcheck_asked, g_check_asked := gcheck_asked, f_links_through := _, fd_links_through := fdlinks_through, F_links_through := Flinks_through, b_links_through := blinks_through, g_links_through := glinks_through, f_steps_to := _, fd_steps_to := fdsteps_to, F_steps_to := Fsteps_to, b_steps_to := bsteps_to, g_steps_to := gsteps_to, f_leads_through := _, fd_leads_through := fdleads_through, F_leads_through := Fleads_through, b_leads_through := bleads_through, g_leads_through := gleads_through, f_is_told := _, fd_is_told := fdis_told, F_is_told := Fis_told, b_is_told := bis_told, g_is_told := gis_told, f_tells := _, fd_tells := fdtells, F_tells := Ftells, b_tells := btells, g_tells := gtells, f_check_words := _, fd_check_words := fdcheck_words, F_check_words := Fcheck_words, b_check_words := bcheck_words, g_check_words := gcheck_words, f_tells_book := _, fd_tells_book := fdtells_book, F_tells_book := Ftells_book, b_tells_book := btells_book, g_tells_book := gtells_book, f_needless := _, fd_needless := fdneedless, F_needless := Fneedless, b_needless := bneedless, g_needless := gneedless, f_law_flag := _, fd_law_flag := fdlaw_flag, F_law_flag := Flaw_flag, b_law_flag := blaw_flag, g_law_flag := g_law_flag, f_law_tape := _, fd_law_tape := fdlaw_tape, F_law_tape := Flaw_tape, b_law_tape := blaw_tape, g_law_tape := g_law_tape, f_law_pick := _, fd_law_pick := fdlaw_pick, F_law_pick := Flaw_pick, b_law_pick := blaw_pick, g_law_pick := g_law_pick, f_law_letters := _, fd_law_letters := fdlaw_letters, F_law_letters := Flaw_letters, b_law_letters := blaw_letters, g_law_letters := g_law_letters, f_law_word := _, fd_law_word := fdlaw_word, F_law_word := Flaw_word, b_law_word := blaw_word, g_law_word := g_law_word, f_law_piece := _, fd_law_piece := fdlaw_piece, F_law_piece := Flaw_piece, b_law_piece := blaw_piece, g_law_piece := g_law_piece, f_law_pathed := _, fd_law_pathed := fdlaw_pathed, F_law_pathed := Flaw_pathed, b_law_pathed := blaw_pathed, g_law_pathed := g_law_pathed, f_law_watches := _, fd_law_watches := fdlaw_watches, F_law_watches := Flaw_watches, b_law_watches := blaw_watches, g_law_watches := g_law_watches, f_law_marks := _, fd_law_marks := fdlaw_marks, F_law_marks := Flaw_marks, b_law_marks := blaw_marks, g_law_marks := g_law_marks, f_law_told := _, fd_law_told := fdlaw_told, F_law_told := Flaw_told, b_law_told := blaw_told, g_law_told := g_law_told, f_law_told_all := _, fd_law_told_all := fdlaw_told_all, F_law_told_all := Flaw_told_all, b_law_told_all := blaw_told_all, g_law_told_all := g_law_told_all, f_law := _, fd_law := fdlaw, F_law := Flaw, b_law := blaw, g_law := glaw, n_isinstance := zisinstance, n_list := zlist, n_tuple := ztuple, n_str := zstr, n_len := zlen, n_all := zall, n_enumerate := zenumerate, n_range := zrange, n_sorted := zsorted, n_int := zint, n_min := zmin, n_max := zmax, n_bool := zbool, hnO := hnO, htO := htO, k_MOST_LETTERS := tkMOST_LETTERS, g_MOST_LETTERS := gMOST_LETTERS, k_MOST_WATCH_LETTERS := tkMOST_WATCH_LETTERS, g_MOST_WATCH_LETTERS := gMOST_WATCH_LETTERS, k_MOST_WATCHES := tkMOST_WATCHES, g_MOST_WATCHES := gMOST_WATCHES, k_MOST_WORDS := tkMOST_WORDS, g_MOST_WORDS := gMOST_WORDS, ha_Book := OQ.isB_ok qhaBook, hm_Book := of_decide_eq_true qhmBook, kBB := kit_selfR }
  exact ⟨fdlaw, fun s v => FunD.bindsA (ps := ["script"]) Dlaw (fun _ _ _ _ _ _ us hl => match us, hl with | [_], _ => rfl) s [v] rfl, fun base _ _ => ok_law T⟩

end Toy
open PySem PySem.W PySem.Calls PyProof.Rows
set_option maxRecDepth 100000 in
set_option maxHeartbeats 0 in
theorem PySem.Challenge.cw_watchedways_k69_needless_watches_holds : PySem.Challenge.rw_watchedways_k69_needless_watches.Holds := by
  w_on; o_law
  refine HandSHeadRun.head_any (r := OpenLaw.row PySem.Challenge.rw_watchedways_k69_needless_watches) (q := view (OpenLaw.row PySem.Challenge.rw_watchedways_k69_needless_watches).prog [47]) (H := Toy.hk) (ob := Toy.ob) (M := 30000) (loose := Toy.looseH) (d := HandSHeadRun.topDef (OpenLaw.row PySem.Challenge.rw_watchedways_k69_needless_watches).prog 47) (kwd := []) (OQ.obB_eq 5 Toy.faH Toy.fnH Toy.exH)
    (by kernel_rfl) (fun s => by kernel_rfl) Toy.run (by kernel_rfl) (by kernel_rfl) (by kernel_rfl) (by rfl) (by first | assumption | decide +kernel) (by decide +kernel) ⟨rfl, rfl, rfl, rfl, rfl, by decide +kernel⟩ ?hw ?hc
  case hw => w_witness2
  case hc =>
    refine L2.walk_ofE (l := PySem.Challenge.rw_watchedways_k69_needless_watches) (n := 63) (k := 14) (x := "script") (CX := L2.CX0) rfl (by decide) (by kernel_rfl) ⟨rfl, by decide, by decide⟩ ?F (fun _ _ _ _ z => z)
    intro w mg fa h Y G hmg0
    obtain ⟨K, KX, c, x⟩ := Y
    have hmg : mg ("law" : PySem.Str) = some (.ref fa) := by
      have e : (HandSHeadRun.topDef (OpenLaw.row PySem.Challenge.rw_watchedways_k69_needless_watches).prog 47).name = ("law" : PySem.Str) := by kernel_rfl
      rw [← e]
      exact hmg0
    obtain ⟨fd, hb, hF⟩ := Toy.facts (P := (PySem.Challenge.rw_watchedways_k69_needless_watches).prog) (w := w) KX G hmg c x
    exact ⟨K, fd, Toy.spLaw K, KX, hb, fun H a ns hl _ hS => ⟨a, ns, rfl, hS, hl, fun _ => rfl⟩, hF⟩

