import PyProof.Rows.All
import Wide.All
import OpenK.AllK
import Wide.FinOn
import KE.KExcIs
import HandS.ForMost
import HandS.ForExc
import HandS.Codes
import HandS.Wide
import HandS.IsInst
import HandS.ExcInit
import HandS.ExcField
import HandS.ExcIs
import HandS.TryMany
import HandS.CallSlots
import HandS.Defaults
import HandS.Gcd
import HandS.DeepEq
import HandS.Flow
import HandS.TupLe
import PyProof.SumWalk
import PyProof.Rows.CountFlat

import HandS.Walk
import KE.GoesEnum
import HandS.SortInts
import HandS.Style
import HandS.Conv
import HandS.StrMore
import HandS.DictComp
import HandS.Head0
import HandS.Head1
import HandS.Head2
import HandS.Head3
import HandS.HeadEnd
import HandS.HeadHook1
import HandS.HeadHook2
import KE.KStateDown
import HandS.WideBits
import PySem.Challenge.RW_watchedways_k34_whole_lots_of_things
set_option Elab.async false
set_option linter.all false
set_option maxRecDepth 100000
set_option maxHeartbeats 4000000
set_option exponentiation.threshold 3000

/-! ### readings, step by step -/
namespace RD
open PySem L2
section
variable {σ : St} {H : Hp} {Q : VK} {B : Bool → Hp → Prop} {A : List V → Hp → Prop} {K : PySem.W.Frag} {v x y : V} {i j : Int} {n : Nat} {ta tb tc te : TE} {tA tB' : TT} {r r' : R2} {t : TA}
theorem d_var {n : Nat} {v : V} (e : σ[n]? = some (some v)) (h : Q v H) : tVar n σ H Q := ⟨v, e, h⟩
theorem d_c (h : Q v H) : tC v σ H Q := h
theorem d_op (h : ta σ H fun x H1 => tb σ H1 fun y H2 => r x y H2 Q) : tOp r ta tb σ H Q := h
theorem d_un {r : V → Hp → VK → Prop} (h : ta σ H fun x H1 => r x H1 Q) : tUn r ta σ H Q := h
theorem d_cb {r : List V → Hp → VK → Prop} (h : t σ H fun vs H1 => r vs H1 Q) : tCB r t σ H Q := h
theorem d_call {sp : Sp} {dvs : List V} {E : XK} (h : t σ H fun vs H1 => sp (vs ++ dvs) H1 Q E) : tCall sp dvs E t σ H Q := h
theorem d_nil (h : A [] H) : tNil σ H A := h
theorem d_cons {ta : TE} {tr : TA} (h : ta σ H fun x H1 => tr σ H1 fun xs H2 => A (x :: xs) H2) : tCons ta tr σ H A := h
theorem d_lst (h : t σ H fun xs H1 => xs.length ≤ sizeLine ∧ ∀ p, H1 p = none → Q (.ref p) (upd H1 p (.lst xs))) : tLst t σ H Q := h
theorem d_tup (h : t σ H fun xs H1 => xs.length ≤ sizeLine ∧ ∀ p, H1 p = none → Q (.ref p) (upd H1 p (.tup xs))) : tTup t σ H Q := h
theorem d_test (h : ta σ H fun x H' => ∃ k, x = .bl k ∧ B k H') : tTest ta σ H B := h
theorem d_tB (h : ta σ H fun x H' => ∃ k, x = .bl k ∧ B k H') : L2.tB ta σ H B := h
theorem d_bl {b : Bool} {R : Bool → Prop} (h : R b) : ∃ k, V.bl b = .bl k ∧ R k := ⟨b, rfl, h⟩
theorem d_and (h : tA σ H fun c H1 => if c = true then tB' σ H1 B else B false H1) : tAnd tA tB' σ H B := h
theorem d_or (h : tA σ H fun c H1 => if c = true then B true H1 else tB' σ H1 B) : tOr tA tB' σ H B := h
theorem d_not (h : tA σ H fun c H1 => B (!c) H1) : tNot tA σ H B := h
theorem d_andV (h : ta σ H fun x H1 => ∃ c, x = .bl c ∧ if c = true then tb σ H1 Q else Q (.bl false) H1) : tAndV ta tb σ H Q := h
theorem d_orV (h : ta σ H fun x H1 => ∃ c, x = .bl c ∧ if c = true then Q (.bl true) H1 else tb σ H1 Q) : tOrV ta tb σ H Q := h
theorem d_notV (h : ta σ H fun x H1 => ∃ c, x = .bl c ∧ Q (.bl (!c)) H1) : tNotV ta σ H Q := h
theorem d_if (h : tA σ H fun c H1 => if c = true then ta σ H1 Q else tb σ H1 Q) : tIf tA ta tb σ H Q := h
theorem d_rI0 {g : Int → Int → V} (h : Q (g i j) H) : rI0 g (.int i) (.int j) H Q := ⟨i, j, rfl, rfl, h⟩
theorem d_rI {C : Int → Int → Prop} {g : Int → Int → V} (c : C i j) (h : Q (g i j) H) : rI C g (.int i) (.int j) H Q := ⟨i, j, rfl, rfl, c, h⟩
theorem d_rU {g : Int → V} (h : Q (g i) H) : rU g (.int i) H Q := ⟨i, rfl, h⟩
theorem d_eqI (h : Q (.bl (decide (i = j))) H) : rEq (.int i) (.int j) H Q := ⟨rfl, by
  have e : decide (V.int i = V.int j) = decide (i = j) := by rw [dec_int, Bool.eq_iff_iff]; simp
  rw [e]; exact h⟩
theorem d_neI (h : Q (.bl (!decide (i = j))) H) : rNe (.int i) (.int j) H Q := ⟨rfl, by
  have e : decide (V.int i = V.int j) = decide (i = j) := by rw [dec_int, Bool.eq_iff_iff]; simp
  rw [e]; exact h⟩
theorem d_eqB {i j : Bool} (h : Q (.bl (decide (i = j))) H) : rEq (.bl i) (.bl j) H Q := ⟨rfl, by
  have e : decide (V.bl i = V.bl j) = decide (i = j) := by rw [dec_bl, Bool.eq_iff_iff]; simp
  rw [e]; exact h⟩
theorem d_eqS {i j : Str} (h : Q (.bl (decide (i = j))) H) : rEq (.str i) (.str j) H Q := ⟨rfl, by
  have e : decide (V.str i = V.str j) = decide (i = j) := by rw [dec_str, Bool.eq_iff_iff]; simp
  rw [e]; exact h⟩
theorem d_neS {i j : Str} (h : Q (.bl (!decide (i = j))) H) : rNe (.str i) (.str j) H Q := ⟨rfl, by
  have e : decide (V.str i = V.str j) = decide (i = j) := by rw [dec_str, Bool.eq_iff_iff]; simp
  rw [e]; exact h⟩
theorem d_ixL {p : Addr} {xs : List V} {v : V} (hs : SqL K H p xs) (e : atI xs i = some v) (h : Q v H) : rIxL K (.ref p) (.int i) H Q := ⟨p, xs, i, v, rfl, rfl, hs, e, h⟩
theorem d_ixT {p : Addr} {xs : List V} {v : V} (hs : SqT K H p xs) (e : atI xs i = some v) (h : Q v H) : rIxT K (.ref p) (.int i) H Q := ⟨p, xs, i, v, rfl, rfl, hs, e, h⟩
theorem d_setL {p : Addr} {xs : List V} {k : Nat} {R : Hp → Prop} (hp : H p = some (.lst xs)) (e : ixN xs.length i = some k) (h : R (upd H p (.lst (xs.set k v)))) : rSetL (.ref p) (.int i) v H R := ⟨p, xs, i, k, rfl, rfl, hp, e, h⟩
theorem d_gname {R : St → Hp → Prop} (h : R (σ.set n (some v)) H) : gName n v σ H R := h
theorem d_gsub {to ti : TE} {ts : TSet} {R : St → Hp → Prop} (h : to σ H fun o H1 => ti σ H1 fun i H2 => ts o i v H2 fun H3 => R σ H3) : gSub to ti ts v σ H R := h
section
variable {nx bk ct : St → Hp → Prop} {rt : VK} {u w : TS} {g : TG}
theorem d_seq (h : u ⟨w ⟨nx, rt, bk, ct⟩, rt, bk, ct⟩ σ H) : tSeq u w ⟨nx, rt, bk, ct⟩ σ H := h
theorem d_asg (h : te σ H fun x H1 => g x σ H1 nx) : tAsg te g ⟨nx, rt, bk, ct⟩ σ H := h
theorem d_ret (h : te σ H rt) : tRet te ⟨nx, rt, bk, ct⟩ σ H := h
theorem d_next (h : nx σ H) : tNext ⟨nx, rt, bk, ct⟩ σ H := h
theorem d_drop (h : te σ H fun _ H1 => nx σ H1) : tDrop te ⟨nx, rt, bk, ct⟩ σ H := h
theorem d_ifS (h : tA σ H fun b H1 => if b = true then u ⟨nx, rt, bk, ct⟩ σ H1 else w ⟨nx, rt, bk, ct⟩ σ H1) : tIfS tA u w ⟨nx, rt, bk, ct⟩ σ H := h
theorem d_cut (Mid : St → Hp → Prop) (h : u ⟨Mid, rt, bk, ct⟩ σ H) (k : ∀ σ' H', Mid σ' H' → w ⟨nx, rt, bk, ct⟩ σ' H') : C8.tCut u w ⟨nx, rt, bk, ct⟩ σ H := ⟨Mid, h, k⟩
theorem d_par {t : TA} {i j : Nat} (h : t σ H fun vs H1 => ∃ v w, vs = [v, w] ∧ nx ((σ.set i (some v)).set j (some w)) H1) : tPar i j t ⟨nx, rt, bk, ct⟩ σ H := h
end
def rInt1 : List V → Hp → VK → Prop := fun xs H Q => (∃ i, xs = [.int i] ∧ Q (.int i) H) ∨ ∃ k, xs = [.bl k] ∧ Q (.int (if k then 1 else 0)) H
theorem c_int {X : Cx} : CallR X (.type "int") rInt1 := call_int1
theorem d_int (h : Q (.int i) H) : rInt1 [.int i] H Q := .inl ⟨i, rfl, h⟩
theorem d_intB {b : Bool} (h : Q (.int (if b then 1 else 0)) H) : rInt1 [.bl b] H Q := .inr ⟨b, rfl, h⟩
def rAbs : List V → Hp → VK → Prop := fun xs H Q => ∃ i, xs = [.int i] ∧ Q (.int (if i < 0 then -i else i)) H
theorem c_abs {X : Cx} : CallR X (.builtin "abs") rAbs := call_abs
theorem d_abs (h : Q (.int (if i < 0 then -i else i)) H) : rAbs [.int i] H Q := ⟨i, rfl, h⟩
def rLen (K : PySem.W.Frag) : List V → Hp → VK → Prop := fun xs H Q => ∃ x n, xs = [x] ∧ LenV K x H n ∧ Q (.int n) H
theorem c_len {X : Cx} : CallR X (.builtin "len") (rLen X.K) := call_len
theorem d_lenL {p : Addr} {xs : List V} (hs : SqL K H p xs) (h : Q (.int xs.length) H) : rLen K [.ref p] H Q := ⟨_, _, rfl, .inl ⟨xs, hs, rfl⟩, h⟩
theorem d_lenT {p : Addr} {xs : List V} (hs : SqT K H p xs) (h : Q (.int xs.length) H) : rLen K [.ref p] H Q := ⟨_, _, rfl, .inr ⟨xs, hs, rfl⟩, h⟩
theorem d_lenS {z : Str} (hs : z.length ≤ sizeLine) (h : Q (.int z.length) H) : rLen K [.str z] H Q := ⟨_, _, rfl, ⟨hs, rfl⟩, h⟩
def rIsN : R2 := fun x y H Q => y = .non ∧ Q (.bl (decide (x = .non))) H
theorem o_isN {X : Cx} : OpR X (compareOp .Is) rIsN := op_isN
theorem d_isN (h : Q (.bl (decide (x = .non))) H) : rIsN x .non H Q := ⟨rfl, h⟩
def rNotN : R2 := fun x y H Q => y = .non ∧ Q (.bl (!decide (x = .non))) H
theorem o_notN {X : Cx} : OpR X (compareOp .IsNot) rNotN := op_notN
theorem d_notN (h : Q (.bl (!decide (x = .non))) H) : rNotN x .non H Q := ⟨rfl, h⟩
theorem d_iList {tl : TE} {R : It → Hp → Prop} (h : tl σ H fun x H1 => ∃ a, x = .ref a ∧ (∃ xs, SqL K H1 a xs) ∧ R (Itl K a) H1) : iList K tl σ H R := h
theorem d_refL {p : Addr} {xs : List V} {R : Addr → Prop} (hs : SqL K H p xs) (h : R p) : ∃ a, V.ref p = .ref a ∧ (∃ xs, SqL K H a xs) ∧ R a := ⟨p, rfl, ⟨xs, hs⟩, h⟩
theorem d_rng1 {t : TA} {R : It → Hp → Prop} (h : t σ H fun vs H1 => ∃ j : Int, vs = [.int j] ∧ -(2 ^ 62) ≤ j ∧ j < 2 ^ 62 ∧ R (Itr 0 j.toNat) H1) : iRng1 t σ H R := h
theorem d_lc {wi : TI} {g : TG} {tt : TT} {vs : List Nat} (h : wi σ H fun J H1 => ∀ D, H1 D = none → ∃ W : Nat → Nat → Hp → Prop, (∃ m, W 0 m (upd H1 D (.lst []))) ∧ ∀ i m H, W i m H →
  (J.stop i H ∧ Q (.ref D) H) ∨ (J.go i H ∧ ∃ Nx : Hp → Prop, (∀ H', Nx H' → ∃ m', m' < m ∧ W (i + 1) m' H') ∧ ∀ x H', J.yld i H x H' → g x (wipe σ vs) H' fun σ2 H2 => wipe σ2 vs = wipe σ vs ∧ tt σ2 H2 fun b H3 =>
    if b = true then te σ2 H3 fun y H4 => ∃ acc, H4 D = some (.lst acc) ∧ acc.length < sizeLine ∧ Nx (upd H4 D (.lst (acc ++ [y]))) else Nx H3)) : tLc wi g tt te vs σ H Q := h
theorem d_yes (h : B true H) : tYes σ H B := h
theorem d_iteT {X Y : Prop} (h : X) : if true = true then X else Y := by rw [if_pos rfl]; exact h
theorem d_iteF {X Y : Prop} (h : Y) : if false = true then X else Y := by rw [if_neg Bool.false_ne_true]; exact h
theorem d_wipe {R : Prop} {vs : List Nat} {σ' : St} (e : wipe σ' vs = wipe σ vs) (h : R) : wipe σ' vs = wipe σ vs ∧ R := ⟨e, h⟩
theorem d_sl {r : V → Option Int → Option Int → Hp → VK → Prop} {tl th : TO} (h : te σ H fun x H1 => tl σ H1 fun l H2 => th σ H2 fun u H3 => r x l u H3 Q) : tSl r te tl th σ H Q := h
theorem d_noPart {Q : Option Int → Hp → Prop} (h : Q none H) : tNoPart σ H Q := h
theorem d_part {Q : Option Int → Hp → Prop} (h : te σ H fun x H1 => ∃ i, x = .int i ∧ Q (some i) H1) : tPart te σ H Q := h
theorem d_exI {R : Int → Prop} (h : R i) : ∃ k, V.int i = .int k ∧ R k := ⟨i, rfl, h⟩
theorem d_isi {c : V} {t u : Value} {b : Bool} (hc : ClsV c u) (ty : TyX K H x t) (e : PySem.W.kitOne K t u = some b) (h : Q (.bl b) H) : rIsi K [x, c] H Q := ⟨x, c, t, u, b, rfl, hc, ty, e, h⟩
theorem d_fld {f : Str} (h : ta σ H fun x H1 => ∃ a C dx fs v, x = .ref a ∧ H1 a = some (.ins C dx fs) ∧ Cls K C ∧ NoAttr K C f ∧ fs.lookup f = some v ∧ Q v H1) : tFld K ta f σ H Q := h
theorem d_iteNF {X Y : Prop} (h : X) : if (!false) = true then X else Y := by rw [if_pos (show (!false) = true from rfl)]; exact h
theorem d_iteNT {X Y : Prop} (h : Y) : if (!true) = true then X else Y := by rw [if_neg (by decide)]; exact h
theorem d_iteDT {P X Y : Prop} {inst : Decidable P} (c : P) (h : X) : if decide P = true then X else Y := by rw [if_pos (decide_eq_true c)]; exact h
theorem d_iteDF {P X Y : Prop} {inst : Decidable P} (c : ¬ P) (h : Y) : if decide P = true then X else Y := by rw [if_neg (by simpa using c)]; exact h
theorem d_gcd (h : Q (.int ((Nat.gcd i.natAbs j.natAbs : Nat) : Int)) H) : rGcd [.int i, .int j] H Q := ⟨i, j, rfl, h⟩
theorem d_sfld {f : Str} {tv : TE} {nx bk ct : St → Hp → Prop} {rt : VK} (h : tv σ H fun y H1 => ta σ H1 fun x H2 => ∃ a C dx fs, x = .ref a ∧ H2 a = some (.ins C dx fs) ∧ Cls K C ∧ NoAttr K C f ∧ fs.length < 1000 ∧
  nx σ (upd H2 a (.ins C dx (putF f y fs)))) : sFld K ta tv f ⟨nx, rt, bk, ct⟩ σ H := h
theorem d_for {wi : TI} {g : TG} {tb : TS} {nx bk ct : St → Hp → Prop} {rt : VK} (h : wi σ H fun J H1 => ∃ W : Nat → Nat → St → Hp → Prop, (∃ m, W 0 m σ H1) ∧ ∀ i m σ H, W i m σ H →
  (J.stop i H ∧ nx σ H) ∨ (J.go i H ∧ ∃ N : St → Hp → Prop, (∀ σ' H', N σ' H' → ∃ m', m' < m ∧ W (i + 1) m' σ' H') ∧ ∀ x H', J.yld i H x H' → g x σ H' fun σ2 H2 => tb ⟨N, rt, nx, N⟩ σ2 H2)) :
  tFor wi g tb ⟨nx, rt, bk, ct⟩ σ H := h
theorem f_range {lo : Int} {n : Nat} {g : TG} {tb : TS} {nx : St → Hp → Prop} {rt : VK} (Pv : Nat → St → Hp → Prop) (h0 : Pv 0 σ H)
    (hs : ∀ i σ H, i < n → Pv i σ H → g (.int (lo + i)) σ H fun σ2 H2 => tb ⟨Pv (i + 1), rt, nx, Pv (i + 1)⟩ σ2 H2) (hd : ∀ σ H, Pv n σ H → nx σ H) :
    ∃ W : Nat → Nat → St → Hp → Prop, (∃ m, W 0 m σ H) ∧ ∀ i m σ H, W i m σ H → ((Itr lo n).stop i H ∧ nx σ H) ∨ ((Itr lo n).go i H ∧ ∃ N : St → Hp → Prop, (∀ σ' H', N σ' H' → ∃ m', m' < m ∧ W (i + 1) m' σ' H') ∧
      ∀ x H', (Itr lo n).yld i H x H' → g x σ H' fun σ2 H2 => tb ⟨N, rt, nx, N⟩ σ2 H2) := for_range (D := ⟨nx, rt, fun _ _ => False, fun _ _ => False⟩) Pv h0 hs hd
theorem f_list {K : PySem.W.Frag} {a : Addr} {xs : List V} {g : TG} {tb : TS} {nx : St → Hp → Prop} {rt : VK} (Pv : Nat → St → Hp → Prop) (h0 : Pv 0 σ H) (hl : ∀ i σ H, i ≤ xs.length → Pv i σ H → SqL K H a xs)
    (hs : ∀ i x σ H, xs[i]? = some x → Pv i σ H → g x σ H fun σ2 H2 => tb ⟨Pv (i + 1), rt, nx, Pv (i + 1)⟩ σ2 H2) (hd : ∀ σ H, Pv xs.length σ H → nx σ H) :
    ∃ W : Nat → Nat → St → Hp → Prop, (∃ m, W 0 m σ H) ∧ ∀ i m σ H, W i m σ H → ((Itl K a).stop i H ∧ nx σ H) ∨ ((Itl K a).go i H ∧ ∃ N : St → Hp → Prop, (∀ σ' H', N σ' H' → ∃ m', m' < m ∧ W (i + 1) m' σ' H') ∧
      ∀ x H', (Itl K a).yld i H x H' → g x σ H' fun σ2 H2 => tb ⟨N, rt, nx, N⟩ σ2 H2) := for_list (D := ⟨nx, rt, fun _ _ => False, fun _ _ => False⟩) Pv h0 hl hs hd
theorem iteD {P X Y : Prop} {inst : Decidable P} (h1 : P → X) (h2 : ¬ P → Y) : if decide P = true then X else Y := by
  by_cases h : P
  · rw [if_pos (decide_eq_true h)]; exact h1 h
  · rw [if_neg (by simpa using h)]; exact h2 h
theorem iteN {P X Y : Prop} {inst : Decidable P} (h1 : ¬ P → X) (h2 : P → Y) : if (!decide P) = true then X else Y := by
  by_cases h : P
  · rw [if_neg (by simpa using h)]; exact h2 h
  · rw [if_pos (by simpa using h)]; exact h1 h
end
end RD

/-! ### own == and != of a class of the text -/
namespace OQ
open PySem L2 PySem.Spec PyProof.Rows
section
variable {X : Cx} {CX : CXT} {C f : Addr} {fd : FuncData} {ps : List Str} {sp : Sp} {E : XK} {k : Nat}
/-- a def of the text called somewhere below the body that runs -/
theorem run_at {A : Around} (hA : A.frames = X.A.frames) (hr : Room k A) {pins : List (Addr × Obj)} {σ : L2.St} {H : Hp} {s : Shared} {Q : VK} {us : List Value} {vs : List V}
    (F : FnOk X.prog X.w X.K X.mg X.base CX k f fd ps sp) (hb : Binds X.K fd ps []) (hx : Passes CX X E) (I : Inv X pins σ H s) (r : Vals vs us) (h : sp vs H Q E) :
    wpAny (model X.prog X.w) A (call (.ref f) us) (EP X pins σ Q) X.xe s := by
  have z := I.env0
  have e0 : Env0 X.prog X.w X.K X.mg X.base A X.stack s H := ⟨hA ▸ z.frames, z.mod, z.bs, z.bsz, z.funs, z.frf, z.hok, z.bare⟩
  have hl : us.length = ps.length := by rw [← r.length]; exact F.len _ _ _ _ h
  have b := hb s us I.kIn (by rw [List.append_nil]; exact hl)
  rw [List.append_nil] at b
  refine wpAny_call (codeAny_mono (F.run A X.stack s H ⟨us, []⟩ us vs Q E hr e0 b r h) ?_)
  rintro (e | fl) s' hq
  · exact hx pins σ H s e s' I hq
  · cases fl with
    | ret u => exact I.after hq
    | next => exact hq.elim
    | brk => exact hq.elim
    | cont => exact hq.elim
theorem cmpBack_of {pins : List (Addr × Obj)} {σ : L2.St} {Q : VK} {u : Value} {s' : Shared} (h : EP X pins σ Q u s') : PySem.W.CmpBack (EP X pins σ Q) u s' := by
  obtain ⟨v, H', I', r, q⟩ := h
  have e : EP X pins σ Q u s' := ⟨v, H', I', r, q⟩
  cases u <;> first
    | exact e
    | (exfalso; cases v <;> first | exact Value.noConfusion r | (obtain ⟨t, rt⟩ := r; exact Value.noConfusion rt))
/-- x == y by the __eq__ of x's class -/
def rOwnEq (K : PySem.W.Frag) (C : Addr) (sp : Sp) (E : XK) : R2 := fun x y H Q => ∃ a dx fs t, x = .ref a ∧ H a = some (.ins C dx fs) ∧ TyX K H y t ∧ PySem.W.notFirst K C t = true ∧ sp [x, y] H Q E
theorem op_ownEq (F : FnOk X.prog X.w X.K X.mg X.base CX k f fd ps sp) (hr : Room k X.A) (hs : PySem.W.findIn X.K (.ref C) "__eq__" = some (some (.ref f))) (hf : PySem.W.isFn X.K (.ref f) = true)
    (hb : Binds X.K fd ps []) (hx : Passes CX X E) : OpR X (compareOp .Eq) (rOwnEq X.K C sp E) := by
  intro pins s σ H x y v u Q I rx ry hq
  obtain ⟨a, dx, fs, t, rfl, ha, ty, nf, q⟩ := hq
  cases rx
  obtain ⟨_, J0, _⟩ := ins_get I.hok ha
  obtain ⟨_, J, _⟩ := J0.look
  obtain ⟨_, hF⟩ := I.fr
  obtain ⟨_, kx, hp, _⟩ := kit_of I ry ty
  exact PySem.W.cmp_K (op := .Eq) hr.units0 hF I.ok.mod.kin J (kx.ty _ _ I.kIn hp) nf hs hf
    (wpAny_mono (run_at rfl hr F hb hx I (vs := [V.ref a, y]) (us := [Value.ref a, u]) (Paired.cons (show RelV (V.ref a) (Value.ref a) from rfl) (Paired.cons ry .nil)) q) (fun _ _ z => cmpBack_of z) fun _ _ z => z)
/-- looking a builtin slot up at an instance and calling it -/
theorem ifBound_B {M : Model} {A : Around} {E : Value → Shared → Prop} {s : Shared} {K : PySem.W.Frag} {x C : Addr} {ox : Obj} {od : Option Obj} {name : Str} {id : String} {args : List Value} {Q : Option Value → Shared → Prop} (Z : K.In s.heap)
    (I : PySem.W.InstAt s.heap x ox C od) (hs : PySem.W.findIn K (.ref C) name = some (some (.builtin id))) (S : bindSpecial (.builtin id) (.ref x) = pure (Value.builtin id, [Value.ref x]))
    (h : wpAny M A (call (.builtin id) (.ref x :: args)) (fun v => Q (some v)) E s) : wpAny M A (callSpecialIfBound? (.ref x) name args) Q E s := by
  have fin : wpAny M A (call (.builtin id) ([Value.ref x] ++ args) >>= fun v => pure (some v)) Q E s :=
    wpAny_bind (wpAny_mono h (fun _ _ z => wpAny_pure z) fun _ _ z => z)
  have tail : wpAny M A (some <$> (pure (Value.builtin id, [Value.ref x]) : Sem (Value × List Value))) (fun a s' => wpAny M A (match a with
    | some (g, first) => call g (first ++ args) >>= fun v => pure (some v)
    | none => pure none) Q E s') E s := wpAny_bind (wpAny_pure (wpAny_pure fin))
  simp only [callSpecialIfBound?, bindSpecialIfBound?]
  refine wpAny_holding ?_
  refine wpAny_bind ?_
  refine wpAny_bind ?_
  refine wpAny_bind (I.type.here ?_)
  refine (PySem.W.looks_findIn Z hs).here ?_
  simp only [S]
  refine wpAny_bind ?_
  refine wpAny_askSetting ?_
  refine wpAny_ite ?_
  split
  · refine wpAny_bind ?_
    exact wpAny_pure (wpAny_pure fin)
  · refine wpAny_tryCatch ?_
    refine wpAny_bind ?_
    exact wpAny_pure (wpAny_pure fin)
/-- object.__ne__(x, y) by the own __eq__ -/
theorem ne_body {M : Program} {w : World} {A : Around} {E : Value → Shared → Prop} {s : Shared} {K : PySem.W.Frag} {x C f : Addr} {ox : Obj} {od : Option Obj} {b : Value} {Q : Fin → Shared → Prop} (Z : K.In s.heap) (hu : A.units < cLine)
    (I : PySem.W.InstAt s.heap x ox C od) (hs : PySem.W.findIn K (.ref C) "__eq__" = some (some (.ref f))) (hf : PySem.W.isFn K (.ref f) = true)
    (h : wpAny (model M w) A (call (.ref f) [.ref x, b]) (fun v s' => ∃ r, v = .bool r ∧ Q (.done (.ret (.bool (!r)))) s') E s) :
    wpAny (model M w) A (Builtin.«object.__ne__» ⟨[.ref x, b], []⟩) Q E s := by
  unfold Builtin.«object.__ne__»
  have step : wpAny (model M w) A (callSpecialIfBound? (.ref x) "__eq__" [b]) (fun o s' => ∃ r, o = some (.bool r) ∧ Q (.done (.ret (.bool (!r)))) s') E s :=
    PySem.W.ifBound_K Z I hs hf (wpAny_mono h (fun v s' ⟨r, e, q⟩ => ⟨r, by rw [e], q⟩) fun _ _ z => z)
  refine wpAny_bind (wpAny_of_eq (a := ((Value.ref x : Value), [b])) (by first | rfl | (simp only [slotArgs]; rfl)) ?_)
  dsimp only
  refine wpAny_bind (wpAny_cRoomFor hu ?_)
  refine wpAny_bind (wpAny_mono step (fun o s' hv => ?_) fun _ _ z => z)
  obtain ⟨r, rfl, q⟩ := hv
  dsimp only
  refine wpAny_bind ?_
  refine wpAny_truthy_bool ?_
  exact wpAny_pure q
end
/-- x != y by the __eq__ of x's class -/
def rOwnNe (K : PySem.W.Frag) (C : Addr) (sp : Sp) (E : XK) : R2 := fun x y H Q => ∃ a dx fs t, x = .ref a ∧ H a = some (.ins C dx fs) ∧ TyX K H y t ∧ PySem.W.notFirst K C t = true ∧ sp [x, y] H (fun v H' => ∃ r, v = .bl r ∧ Q (.bl (!r)) H') E
section
variable {X : Cx} {CX : CXT} {C f : Addr} {fd : FuncData} {ps : List Str} {sp : Sp} {E : XK} {k : Nat}
theorem op_ownNe (F : FnOk X.prog X.w X.K X.mg X.base CX k f fd ps sp) (hr : Room (k + 1) X.A) (hs : PySem.W.findIn X.K (.ref C) "__eq__" = some (some (.ref f))) (hf : PySem.W.isFn X.K (.ref f) = true)
    (hn : PySem.W.findIn X.K (.ref C) "__ne__" = some (some (.builtin "object.__ne__"))) (hm : PySem.W.mroIn X.K C (.type "object") = some true)
    (hb : Binds X.K fd ps []) (hx : Passes CX X E) : OpR X (compareOp .NotEq) (rOwnNe X.K C sp E) := by
  intro pins s σ H x y v u Q I rx ry hq
  obtain ⟨a, dx, fs, t, rfl, ha, ty, nf, q⟩ := hq
  cases rx
  obtain ⟨_, J0, _⟩ := ins_get I.hok ha
  obtain ⟨_, J, _⟩ := J0.look
  obtain ⟨_, hF⟩ := I.fr
  obtain ⟨_, kx, hp, _⟩ := kit_of I ry ty
  have hlook := kx.ty (model X.prog X.w) _ I.kIn hp
  have hu := hr.units0
  have body := ne_body (M := X.prog) (w := X.w) (A := X.A.in1) (E := X.xe) (b := u) (Q := fun fin s' => ∃ r : Bool, fin = .done (.ret (.bool r)) ∧ EP X pins σ Q (.bool r) s') I.kIn hr.in1.units0 J hs hf
    (wpAny_mono (run_at (A := X.A.in1) rfl hr.in1 F hb hx I (vs := [V.ref a, y]) (us := [Value.ref a, u]) (Paired.cons (show RelV (V.ref a) (Value.ref a) from rfl) (Paired.cons ry .nil)) q) (fun w' s' z => by
      obtain ⟨v', H', I', rr, r, e, q'⟩ := z
      subst e
      exact ⟨r, rr, !r, rfl, .bl (!r), H', I', rfl, q'⟩) fun _ _ z => z)
  have one : wpAny (model X.prog X.w) X.A (tryCompare (.ref a) "__ne__" u) (fun o s' => ∃ r : Bool, o = some (.bool r) ∧ EP X pins σ Q (.bool r) s') X.xe s := by
    unfold tryCompare
    refine wpAny_bind (ifBound_B I.kIn J hn (PySem.F.cmp_object.ne.bind _) (wpAny_call (codeAny_call_builtin PySem.F.cmp_object.ne.plain PySem.F.cmpEntry_ne ?_)))
    refine PySem.W.check_slot PySem.F.cmpKind_ne PySem.F.cmpSplit_ne (J.type.andThen (PySem.W.looks_mroIn I.kIn hm)) (PySem.F.cmpArgs_ne _ _) ?_
    refine wpAny_mono body (fun fin s' z => ?_) fun _ _ z => z
    obtain ⟨r, rfl, ep⟩ := z
    exact wpAny_pure ⟨r, rfl, ep⟩
  show wpAny (model X.prog X.w) X.A (richCompare .NotEq (.ref a) u) (EP X pins σ Q) X.xe s
  unfold richCompare
  simp only [oneThing_ref]
  refine wpAny_holding ?_
  refine wpAny_bind (wpAny_cRoomFor hu ?_)
  refine wpAny_bind (J.type.here ?_)
  refine wpAny_bind (hlook.here ?_)
  have fin : ∀ {β : Type} {z : Value → Sem Value} {y : Sem Value}, True := fun {_ _ _} => trivial
  split
  · rename_i qq
    have e : PySem.W.subIn X.K t (.ref C) = some false := by
      rcases Bool.or_eq_true_iff.mp nf with e | e
      · rw [beq_iff_eq.mp e] at qq
        simp at qq
      · exact beq_iff_eq.mp e
    refine wpAny_bind ((PySem.W.looks_subIn I.kIn e).here ?_)
    simp only [Bool.false_eq_true, if_false]
    refine wpAny_bind (wpAny_mono one (fun o s' z => ?_) fun _ _ z => z)
    obtain ⟨r, rfl, ep⟩ := z
    exact wpAny_pure ep
  · refine wpAny_bind (wpAny_pure ?_)
    simp only [Bool.false_eq_true, if_false]
    refine wpAny_bind (wpAny_mono one (fun o s' z => ?_) fun _ _ z => z)
    obtain ⟨r, rfl, ep⟩ := z
    exact wpAny_pure ep
end
end OQ

/-! ### errors: isinstance of a caught one that has fields; making an instance within a try -/
namespace OQ
open PySem L2 PySem.Spec PyProof.Rows
/-- isinstance(e, c), e the error that the suite holds at a: its class cls, its dict d -/
def rIsX (K : PySem.W.Frag) (D a : Addr) (cls : Value) (d : Option Addr) : List V → Hp → VK → Prop := fun xs H Q => ∃ (c : V) (cv : Value) (b : Bool) (dd : Addr) (fs : List (Str × V)),
  xs = [.ref a, c] ∧ cls = .ref D ∧ d = some dd ∧ H dd = some (.xd fs) ∧ ClsV c cv ∧ PySem.W.kitOne K (.ref D) cv = some b ∧ Q (.bl b) H
theorem call_isX {X : Cx} {a D : Addr} {cls : Value} {d : Option Addr} {oe : Obj} {pn : List (Addr × Obj)} (C : ExcC X.K D) (hz : Zc cls d oe) (hf : ∃ vs, oe.data = .fields vs) :
    CallR (X.suite a ((a, oe) :: pn)) (.builtin "isinstance") (rIsX X.K D a cls d) := by
  rintro pins s σ H xs us Q I r ⟨c, cv, b, dd, fs, rfl, rfl, rfl, hx, hc, e, q⟩
  cases r with
  | cons rx rr => cases rr with
    | cons rt rr =>
      cases rr
      cases rx
      have ec := hc.eq rt
      subst ec
      obtain ⟨hget, _⟩ := I.pin (a, oe) (List.mem_append_left _ (List.mem_cons_self ..))
      obtain ⟨vs, hv⟩ := hf
      obtain ⟨_, hns, _⟩ := (show ObjOk X.prog X.w H s.heap dd (.xd fs) from I.hok dd _ hx)
      obtain ⟨od, ho, _⟩ := lookIn_ns hns
      have J : PySem.W.InstAt s.heap a oe D (some od) := ⟨hget, hz.1, (by unfold PySem.W.notCls; rw [hv] <;> rfl), (by rw [hz.2]; exact ho)⟩
      have hcl : (PySem.W.clsIn X.K D).isSome = true := by
        obtain ⟨cd, h1, _⟩ := PySem.W.any_some C.hd
        rw [h1]; rfl
      exact PySem.W.kia_one (PySem.W.kitx_exc hcl C.hg C.hk C.hs C.ha C.hn C.ht C.hm) I.kIn J e (fun z => Value.noConfusion z) fun tk => ⟨.bl b, H, I.kept (t' := tk) fun _ _ z => z, rfl, q⟩
section
variable {X : Cx} {CX : CXT} {C f : Addr} {fd : FuncData} {ps : List Str} {sp : Sp} {k : Nat} {ds : List Value} {dvs : List V} {E : L2.St → XK} {x : Str} {p pos : Pos} {e : Expr} {es : List Expr} {t : TA}
/-- C(e, ..), what is raised wished for at the slots -/
def tMakeS (C : Addr) (sp : Sp) (dvs : List V) (E : L2.St → XK) (t : TA) : TE := fun σ H Q => t σ H fun vs H1 => ∀ x dx, H1 x = none → H1 dx = none → dx ≠ x →
  sp (.ref x :: (vs ++ dvs)) (upd (upd H1 dx (.own x)) x (.ins C dx [])) (fun v H2 => v = .non ∧ Q (.ref x) H2) (E σ)
theorem pe_makeS (M : Mk X.K C f) (F : FnOk X.prog X.w X.K X.mg X.base CX k f fd ps sp) (hr : Room (k + 1) X.A) (hg : Gl X x) (hm : X.mg x = some (.ref C)) (hb : Binds X.K fd ps ds) (hd : Vals dvs ds)
    (hx : ∀ σ, PassesAt CX X σ (E σ)) (ha : PA X (e :: es) t) (hdb : (x == ("__debug__" : Str)) = false := by decide)
    (he : starEach (e :: es) X.env = (false, eval e X.env) :: starEach es X.env := by rfl) (hpl : (backTo pos (starEach es X.env)).any (·.1) = false := by rfl) :
    PE X (.Call (.Name x p) (e :: es) [] pos) (tMakeS C sp dvs E t) := by
  refine ⟨fun pins s σ H Q I h => ?_⟩
  refine wpAny_Call_Name_kw (ld_glob I hg hm ?_ hdb)
  refine PySem.W.callWith_K (h₀ := X.base) I.ok.mod.kin M.kp (thn (ha.run pos pins s σ H _ I h) ?_) he hpl
  rintro us s1 ⟨vs, H1, I1, r, q⟩
  refine ⟨I1.kIn, ?_⟩
  have nx : H1 (s1.heap.objs.size + 1) = none := I1.hok.fresh (Nat.le_succ _)
  have ndx : H1 s1.heap.objs.size = none := I1.hok.fresh (Nat.le_refl _)
  have hq := q _ _ nx ndx (Nat.ne_of_lt (Nat.lt_succ_self _))
  have I2 := Inv.made (C := C) I1
  have r2 : Vals (V.ref (s1.heap.objs.size + 1) :: (vs ++ dvs)) (Value.ref (s1.heap.objs.size + 1) :: (us ++ ds)) := .cons rfl (r.append hd)
  have hl : (Value.ref (s1.heap.objs.size + 1) :: us ++ ds).length = ps.length := (r2.length.symm).trans (F.len _ _ _ _ hq)
  refine wpAny_call (make_map (f := f) I1.kIn M.makes M.init (beq_iff_eq.mp M.fn) (codeAny_mono (F.run _ X.stack _ _ _ _ _ _ (E σ) (hr.make C us []) (I2.env0.make C us []) (hb _ (_ :: us) I2.kIn hl) r2 hq) ?_))
  rintro (er | fl) s' hq'
  · exact hx σ pins _ _ er s' I2 hq'
  · cases fl with
    | ret u =>
      obtain ⟨v, H', I3, rv, ev, q3⟩ := I2.after hq'
      subst ev
      exact ⟨rv, V.ref (s1.heap.objs.size + 1), H', I3, rfl, q3⟩
    | next => exact hq'.elim
    | brk => exact hq'.elim
    | cont => exact hq'.elim
end
/-- // by a divisor of either sign, below 2 ^ 9000 -/
def CDivX (_ j : Int) : Prop := j ≠ 0 ∧ j.natAbs.log2 < 9000
theorem op_fdivX {X : Cx} : OpR X (binaryOp .FloorDiv) (rI CDivX fun i j => .int (i.fdiv j)) := opI fun i j _ _ _ _ _ hc q => floordiv_int hc.1 q (.inl (PyProof.noPylong_of_log2 hc.2))
end OQ

namespace OQ
open PySem L2
/-- one of two rules -/
theorem op_or {X : Cx} {f : Value → Value → Sem Value} {r1 r2 : R2} (h1 : OpR X f r1) (h2 : OpR X f r2) : OpR X f (fun x y H Q => r1 x y H Q ∨ r2 x y H Q) :=
  fun pins s σ H x y v u Q I rx ry h => h.elim (h1 pins s σ H x y v u Q I rx ry) (h2 pins s σ H x y v u Q I rx ry)
/-- what lets nothing out where the wish is empty -/
theorem passN {X : Cx} : Passes (L2.CX X.prog X.w) X E0 := fun pins σ H s e s' I h => by
  obtain ⟨_, _, _, _, _, _, _, _, _, _, _, _, f⟩ := h
  exact f.elim
section
variable {σ : L2.St} {H : Hp} {Q : VK} {K : PySem.W.Frag}
theorem d_makeS {C : Addr} {sp : Sp} {dvs : List V} {E : L2.St → XK} {t : TA} (h : t σ H fun vs H1 => ∀ x dx, H1 x = none → H1 dx = none → dx ≠ x →
  sp (.ref x :: (vs ++ dvs)) (upd (upd H1 dx (.own x)) x (.ins C dx [])) (fun v H2 => v = .non ∧ Q (.ref x) H2) (E σ)) : tMakeS C sp dvs E t σ H Q := h
theorem d_make {C : Addr} {sp : Sp} {dvs : List V} {E : XK} {t : TA} (h : t σ H fun vs H1 => ∀ x dx, H1 x = none → H1 dx = none → dx ≠ x →
  sp (.ref x :: (vs ++ dvs)) (upd (upd H1 dx (.own x)) x (.ins C dx [])) (fun v H2 => v = .non ∧ Q (.ref x) H2) E) : tMake C sp dvs E t σ H Q := h
end
end OQ
namespace OQ
open PySem L2
theorem d_isX {K : PySem.W.Frag} {D a : Addr} {cls : Value} {d : Option Addr} {H : Hp} {Q : VK} {c : V} {cv : Value} {b : Bool} {dd : Addr} {fs : List (Str × V)} (e1 : cls = .ref D) (e2 : d = some dd) (hx : H dd = some (.xd fs)) (hc : ClsV c cv)
    (e : PySem.W.kitOne K (.ref D) cv = some b) (h : Q (.bl b) H) : rIsX K D a cls d [.ref a, c] H Q := ⟨c, cv, b, dd, fs, rfl, e1, e2, hx, hc, e, h⟩
end OQ

/-! ### readings: chained comparisons -/
namespace RD
open PySem L2
theorem d_chain {r r' : R2} {ta tb tc : TE} {σ : L2.St} {H : Hp} {Q : VK} (h : ta σ H fun x H1 => tb σ H1 fun y H2 => r x y H2 fun z H3 => ∃ k, z = .bl k ∧ (if k = true then tc σ H3 fun u H4 => r' y u H4 Q else Q (.bl false) H3)) : tChain r r' ta tb tc σ H Q := h
variable {σ : L2.St} {H : Hp}
theorem f_tup {K : PySem.W.Frag} {a : Addr} {xs : List V} {g : TG} {tb : TS} {nx : L2.St → Hp → Prop} {rt : VK} (Pv : Nat → L2.St → Hp → Prop) (h0 : Pv 0 σ H) (hl : ∀ i σ H, i ≤ xs.length → Pv i σ H → SqT K H a xs)
    (hs : ∀ i x σ H, xs[i]? = some x → Pv i σ H → g x σ H fun σ2 H2 => tb ⟨Pv (i + 1), rt, nx, Pv (i + 1)⟩ σ2 H2) (hd : ∀ σ H, Pv xs.length σ H → nx σ H) :
    ∃ W : Nat → Nat → L2.St → Hp → Prop, (∃ m, W 0 m σ H) ∧ ∀ i m σ H, W i m σ H → ((Itt K a).stop i H ∧ nx σ H) ∨ ((Itt K a).go i H ∧ ∃ N : L2.St → Hp → Prop, (∀ σ' H', N σ' H' → ∃ m', m' < m ∧ W (i + 1) m' σ' H') ∧
      ∀ x H', (Itt K a).yld i H x H' → g x σ H' fun σ2 H2 => tb ⟨N, rt, nx, N⟩ σ2 H2) := for_tup (D := ⟨nx, rt, fun _ _ => False, fun _ _ => False⟩) Pv h0 hl hs hd
end RD

/-! ### a range as a value, and for over it -/
namespace OQ
open PySem L2 PySem.Spec PyProof.Rows
section
variable {X : Cx} {tg : Expr} {e : Expr} {te : TE}
theorem cr_range1 : CallR X (.type "range") (fun vs H Q => ∃ j : Int, vs = [V.int j] ∧ ∀ p, H p = none → Q (.ref p) (upd H p (.rng 0 j))) := by
  rintro pins s σ H vs us Q I r ⟨j, rfl, wish⟩
  cases r with
  | cons one rest =>
    cases rest
    obtain ⟨tok, rfl⟩ := one
    have free := I.hok.fresh (Nat.le_refl s.heap.objs.size)
    exact call_range_1 ⟨.ref s.heap.objs.size, _, I.laid (t' := s.toks + 1 + 1) (o := .rng 0 j) (fun _ _ z => Heap.get?_push_of_some _ z) (Nat.le_refl _) ⟨s.toks, tok, s.toks + 1, Heap.get?_push_size _ rfl⟩, rfl, wish _ free⟩
/-- for .. in e, e a range from lo to hi -/
def iRngV (te : TE) : TI := fun σ H R => te σ H fun x H1 => ∃ (a : Addr) (lo hi : Int), x = .ref a ∧ H1 a = some (.rng lo hi) ∧ (-(2 ^ 62) ≤ lo ∧ lo < 2 ^ 62 ∧ -(2 ^ 62) ≤ hi ∧ hi < 2 ^ 62) ∧ R (Itr lo (hi - lo).toNat) H1
theorem pi_rngV (he : PE X e te) : PI X tg e (iRngV te) := by
  refine ⟨fun pins s σ H R I asked => thn (he.run pins s σ H _ I asked) fun v s1 ⟨x, H1, I1, rx, a, lo, hi, ex, ea, ⟨b1, b2, b3, b4⟩, go⟩ => ?_⟩
  subst ex
  obtain rfl : v = Value.ref a := rx
  obtain ⟨t, u, w, there⟩ := I1.hok a _ ea
  have isr : IsRange s1.heap a lo hi 1 t u w := there
  have len : (((hi - lo).toNat : Nat) : Int) = Builtin.Range.rangeSize lo hi 1 := by rw [rangeSize_one]; split <;> omega
  refine wpAny_pyIter_range isr (small_one b1 b2 b3 b4) ⟨s1.heap.objs.size, [s1.heap.objs.size], _, _, H1, rfl, I1.kept (t' := s1.toks) fun _ _ z => Heap.get?_push_of_some _ z, turn_range _ lo (hi - lo).toNat, ?_, fun b hb => ?_, go⟩
  · show IsRangeIter _ _ (lo + ((0 : Nat) : Int) * 1) ((((hi - lo).toNat : Nat) : Int) - ((0 : Nat) : Int)) 1
    rw [len]
    simp only [Int.natCast_zero, Int.zero_mul, Int.add_zero, Int.sub_zero]
    exact Heap.get?_push_size _ rfl
  · obtain rfl : b = s1.heap.objs.size := by simpa using hb
    exact I1.fpOk (Nat.le_refl _) (I1.hok.fresh (Nat.le_refl _))
end
end OQ

/-! ### rules whose reading names K itself (for the blocks of comprehensions) -/
namespace OQ
open PySem L2 PySem.Spec PyProof.Rows
section
variable {X : Cx} {e : Expr} {ta : TE} {f : Str} {pos : Pos}
theorem ixL (K : PySem.W.Frag) (h : X.K = K := by rfl) : IxR X (rIxL K) := h ▸ ix_list
theorem ixT (K : PySem.W.Frag) (h : X.K = K := by rfl) : IxR X (rIxT K) := h ▸ ix_tup
theorem fldK (K : PySem.W.Frag) (he : PE X e ta) (h : X.K = K := by rfl) (hb : attributeBase e f X.env (eval e X.env) = eval e X.env := by rfl) : PE X (.Attribute e f pos) (tFld K ta f) := h ▸ pe_fld he hb
def rTupK (K : PySem.W.Frag) : List V → Hp → VK → Prop := fun xs H Q => ∃ p ys, xs = [.ref p] ∧ ((SqL K H p ys ∧ ∀ l, H l = none → Q (.ref l) (upd H l (.tup ys))) ∨ (SqT K H p ys ∧ Q (.ref p) H))
theorem tupK (K : PySem.W.Frag) (h : X.K = K := by rfl) : CallR X (.type "tuple") (rTupK K) := h ▸ call_tuple_of
theorem pi_listK (K : PySem.W.Frag) {tg : Expr} {l : Expr} {tl : TE} (hl : PE X l tl) (h : X.K = K := by rfl) : PI X tg l (iList K tl) := h ▸ pi_list hl
theorem pi_tupK (K : PySem.W.Frag) {tg : Expr} {l : Expr} {tl : TE} (hl : PE X l tl) (h : X.K = K := by rfl) : PI X tg l (iTup K tl) := h ▸ pi_tup hl
end
end OQ

/-! ### own errors as values: made, their fields read, isinstance of them -/
namespace OQ
open PySem L2 PySem.Spec PyProof.Rows
section
variable {X : Cx} {CX : CXT} {x n : Str} {C fI : Addr} {k : Nat} {fd : FuncData} {ps : List Str} {sp : Sp} {ds : List Value} {dvs : List V} {p pos : Pos} {e : Expr} {es : List Expr} {ta : TA} {te : TE} {E : XK}
/-- C(e, ..), C an own error: it stands as it was made -/
def tMkV (C : Addr) (sp : Sp) (dvs : List V) (E : XK) (ta : TA) : TE := fun σ H Q => ta σ H fun vs H1 => ∀ a, H1 a = none → sp (.ref a :: (vs ++ dvs)) (upd H1 a (exo a C none)) (fun v H2 => v = .non ∧ Q (.ref a) H2) E
/-- a new error: its place, and the state with it -/
theorem newErr {pins : List (Addr × Obj)} {st : Shared} {σ : L2.St} {H : Hp} (us : List Value) (D : Addr) (J : Inv X pins σ H st) :
    H (st.heap.objs.size + 1) = none ∧ Inv X pins σ (upd H (st.heap.objs.size + 1) (exo (st.heap.objs.size + 1) D none)) { st with heap := (st.heap.push (PySem.W.kdv_tup us)).push (PySem.HandSPX.excO D st.heap.objs.size) } := by
  have le := Nat.le_succ st.heap.objs.size
  refine ⟨J.hok.fresh le, J.laid (t' := st.toks) (fun _ _ z => Heap.get?_push_of_some _ (Heap.get?_push_of_some _ z)) le (exo_ok (t1 := st.heap.objs.size) ?_)⟩
  have z := Heap.get?_push_size (h := st.heap.push (PySem.W.kdv_tup us)) (o := PySem.HandSPX.excO D st.heap.objs.size) rfl
  have y : (st.heap.push (PySem.W.kdv_tup us)).objs.size = st.heap.objs.size + 1 := by simp [Heap.push]
  rw [y] at z
  exact z
theorem run_mkV {pins : List (Addr × Obj)} {st : Shared} {σ : L2.St} {H1 : Hp} {Q : VK} {vs : List V} {us : List Value} (T : OexC X.K C) (iC : PySem.W.findIn X.K (.ref C) "__init__" = some (some (.ref fI))) (tI : PySem.W.typeIn X.K (.ref fI) = some (.type "function"))
    (F1 : FnOk X.prog X.w X.K X.mg X.base CX k fI fd ps sp) (hr : Room (k + 1) X.A) (hb : Binds X.K fd ps ds) (hd : Vals dvs ds) (hx : Passes CX X E) (few : ps.length ≤ 100) (J : Inv X pins σ H1 st) (rv : Vals vs us)
    (wish : ∀ a, H1 a = none → sp (.ref a :: (vs ++ dvs)) (upd H1 a (exo a C none)) (fun v H2 => v = .non ∧ Q (.ref a) H2) E) : wpAny (model X.prog X.w) X.A (call (.ref C) us) (EP X pins σ Q) X.xe st := by
  obtain ⟨free, J2⟩ := newErr us C J
  have asked := wish _ free
  have all : Vals (V.ref (st.heap.objs.size + 1) :: (vs ++ dvs)) (Value.ref (st.heap.objs.size + 1) :: (us ++ ds)) := .cons rfl (rv.append hd)
  have many : (Value.ref (st.heap.objs.size + 1) :: us ++ ds).length = ps.length := (all.length.symm).trans (F1.len _ _ _ _ asked)
  have short : us.length ≤ sizeLine := by
    have q : (Value.ref (st.heap.objs.size + 1) :: us ++ ds).length ≤ 100 := many ▸ few
    simp only [List.cons_append, List.length_cons, List.length_append] at q
    exact Nat.le_trans (show us.length ≤ 100 by omega) (by decide)
  have body := F1.run _ X.stack _ _ ⟨Value.ref (st.heap.objs.size + 1) :: us, []⟩ _ _ _ E (hr.make C us []) (J2.env0.make C us []) (hb _ (_ :: us) J2.kIn many) all asked
  obtain ⟨_, _, _, _, bm, _, _, _, _, _, _, _, _, _, _, look, good⟩ := T.cls
  refine wpAny_call (PySem.HandSPX.call_own F.excBase_ValueError (fun _ => PySem.HandSPX.refsVE_contains _ bm good) (J.kIn _ _ look) (PySem.W.looks_findIn J.kIn iC) (fun v => PySem.W.bind_fn J.kIn v tI) short (codeAny_mono body ?_))
  rintro (er | fl) s2 post
  · exact hx pins σ _ _ er s2 J2 post
  · match fl, post with
    | .ret u, post =>
      obtain ⟨v, H2, J3, ru, e, q⟩ := J2.after post
      subst e
      exact ⟨ru, V.ref (st.heap.objs.size + 1), H2, J3, rfl, q⟩
theorem pe_mkV (T : OexC X.K C) (iC : PySem.W.findIn X.K (.ref C) "__init__" = some (some (.ref fI))) (tI : PySem.W.typeIn X.K (.ref fI) = some (.type "function"))
    (F1 : FnOk X.prog X.w X.K X.mg X.base CX k fI fd ps sp) (hr : Room (k + 1) X.A) (hb : Binds X.K fd ps ds) (hd : Vals dvs ds) (hx : Passes CX X E) (hsz : ps.length ≤ 100) (hg : Gl X x) (hm : X.mg x = some (.ref C)) (ha : PA X (e :: es) ta)
    (hdb : (x == ("__debug__" : Str)) = false := by decide) (he : starEach (e :: es) X.env = (false, eval e X.env) :: starEach es X.env := by rfl) (hpl : (backTo pos (starEach es X.env)).any (·.1) = false := by rfl) :
    PE X (.Call (.Name x p) (e :: es) [] pos) (tMkV C sp dvs E ta) := by
  refine ⟨fun pins s σ H Q I h => ?_⟩
  refine wpAny_Call_Name_kw (ld_glob I hg hm ?_ hdb)
  refine PySem.W.callWith_K (h₀ := X.base) I.ok.mod.kin T.kC (thn (ha.run pos pins s σ H _ I h) fun us s1 ⟨vs, H1, I1, r1, q1⟩ => ⟨I1.kIn, ?_⟩) he hpl
  exact run_mkV T iC tI F1 hr hb hd hx hsz I1 r1 q1
theorem pe_mkV0 (T : OexC X.K C) (iC : PySem.W.findIn X.K (.ref C) "__init__" = some (some (.ref fI))) (tI : PySem.W.typeIn X.K (.ref fI) = some (.type "function"))
    (F1 : FnOk X.prog X.w X.K X.mg X.base CX k fI fd ps sp) (hr : Room (k + 1) X.A) (hb : Binds X.K fd ps ds) (hd : Vals dvs ds) (hx : Passes CX X E) (hsz : ps.length ≤ 100) (hg : Gl X x) (hm : X.mg x = some (.ref C))
    (hdb : (x == ("__debug__" : Str)) = false := by decide) : PE X (.Call (.Name x p) [] [] pos) (tMkV C sp dvs E tNil) := by
  refine ⟨fun pins s σ H Q I h => ?_⟩
  refine wpAny_Call_Name_kw (ld_glob I hg hm ?_ hdb)
  exact PySem.W.callWith_K0 I.kIn T.kC (run_mkV (us := []) (vs := []) T iC tI F1 hr hb hd hx hsz I .nil h)
/-- an own error at a, with its fields -/
def ErrAt (H : Hp) (a C : Addr) (fs : List (Str × V)) : Prop := ∃ d, H a = some (exo a C (some d)) ∧ H d = some (exd d fs)
theorem errInst {pins : List (Addr × Obj)} {s : Shared} {σ : L2.St} {H : Hp} {a : Addr} {fs : List (Str × V)} (I : Inv X pins σ H s) (h : ErrAt H a C fs) :
    ∃ (oe : Obj) (od : Obj) (mA : Str → Option Value), PySem.W.InstAt s.heap a oe C (some od) ∧ (∀ f, RelO (fs.lookup f) (mA f)) ∧ ∀ n, PySem.W.lookIn n od = some (mA n) := by
  obtain ⟨d, e1, e2⟩ := h
  obtain ⟨t1, ho⟩ := exo_at I.hok e1
  obtain ⟨mA, hns, rel⟩ := exd_at I.hok e2
  obtain ⟨od, hd, hl⟩ := lookIn_ns hns
  exact ⟨_, od, mA, ⟨ho, rfl, rfl, hd⟩, rel, hl⟩
/-- e.f -/
def tVf (K : PySem.W.Frag) (n : Str) (te : TE) : TE := fun σ H Q => te σ H fun x H1 => ∃ (a C : Addr) (fs : List (Str × V)) (v : V), x = .ref a ∧ ErrAt H1 a C fs ∧ XfC K C ∧ PySem.W.findIn K (.ref C) n = some none ∧ fs.lookup n = some v ∧ Q v H1
theorem pe_vf (he : PE X e te) (hb : attributeBase e n X.env (eval e X.env) = eval e X.env := by rfl) : PE X (.Attribute e n pos) (tVf X.K n te) := by
  refine ⟨fun pins s σ H Q I h => ?_⟩
  refine attr_of hb (thn (he.run pins s σ H _ I h) fun u s1 hh => ?_)
  obtain ⟨x, H1, I1, rx, a, D, fs, v, ex, er, T, hno, l, q⟩ := hh
  subst ex
  obtain rfl : u = Value.ref a := rx
  obtain ⟨oe, od, mA, J, hr, hl⟩ := errInst I1 er
  obtain ⟨u, hu, ru⟩ := RelO.some_of (v := v) (o := mA n) (by rw [← l]; exact hr n)
  exact HandSPX.exc_get I1.kIn J T.ga T.gg T.exC (PySem.W.findObj_own T.hdC hno rfl (by rw [hl, hu])) (handed_of ru) ⟨v, H1, I1.tok _, ru, q⟩
/-- isinstance(x, c), x such an error -/
def rIsV (K : PySem.W.Frag) : List V → Hp → VK → Prop := fun xs H Q => ∃ (a D : Addr) (fs : List (Str × V)) (c : V) (cv : Value) (b : Bool), xs = [.ref a, c] ∧ ErrAt H a D fs ∧ ExcC K D ∧ ClsV c cv ∧ PySem.W.kitOne K (.ref D) cv = some b ∧ Q (.bl b) H
theorem call_isV : CallR X (.builtin "isinstance") (rIsV X.K) := by
  rintro pins s σ H xs us Q I r ⟨a, D, fs, c, cv, b, rfl, er, C, hc, e, q⟩
  cases r with
  | cons rx rr => cases rr with
    | cons rt rr =>
      cases rr
      cases rx
      have ec := hc.eq rt
      subst ec
      obtain ⟨oe, od, mA, J, _, _⟩ := errInst I er
      have hcl : (PySem.W.clsIn X.K D).isSome = true := by
        obtain ⟨cd, h1, _⟩ := PySem.W.any_some C.hd
        rw [h1]; rfl
      exact PySem.W.kia_one (PySem.W.kitx_exc hcl C.hg C.hk C.hs C.ha C.hn C.ht C.hm) I.kIn J e (fun z => Value.noConfusion z) fun tk => ⟨.bl b, H, I.kept (t' := tk) fun _ _ z => z, rfl, q⟩
end
end OQ

/-! ### own errors: what is known of their classes -/
namespace OQ
open PySem L2 PySem.Spec PyProof.Rows
structure ErC (K : PySem.W.Frag) (W fI C : Addr) : Prop where
  oex : OexC K C
  ini : PySem.W.findIn K (.ref C) "__init__" = some (some (.ref fI))
  va : PySem.W.findIn K (.ref C) "value" = some none
  xf : XfC K C
  exi : ExcC K C
  mro : ∃ cd, PySem.W.clsIn K C = some cd ∧ cd.mro = [.ref C, .ref W, .type "ValueError", .type "Exception", .type "BaseException", .type "object"]
theorem kit_er {K : PySem.W.Frag} {W f g C D : Addr} (a : ErC K W f C) (b : ErC K W g D) (n : D ≠ W) : PySem.W.kitOne K (.ref C) (.ref D) = some (decide (C = D)) := by
  by_cases h : C = D
  · subst h
    unfold PySem.W.kitOne
    rw [if_pos (by simp), decide_eq_true rfl]
  · have hb : ((Value.ref C : Value) == Value.ref D) = false := Bool.eq_false_iff.mpr fun q => h (by cases beq_iff_eq.mp q; rfl)
    unfold PySem.W.kitOne
    rw [if_neg (by rw [hb]; decide), decide_eq_false h]
    obtain ⟨cd, e1, _⟩ := b.mro
    obtain ⟨cc, e2, e3⟩ := a.mro
    have t : ((PySem.W.clsIn K D).isSome && PySem.W.typeIn K (.ref D) == some (.type "type")) = true := by rw [e1, b.oex.tyC] <;> rfl
    show (if ((PySem.W.clsIn K D).isSome && PySem.W.typeIn K (.ref D) == some (.type "type")) = true then PySem.W.mroIn K C (.ref D) else none) = some false
    rw [if_pos t]
    unfold PySem.W.mroIn
    rw [e2]
    show (if cc.mro.isEmpty = true then none else some (cc.mro.contains (.ref D))) = some false
    rw [e3, if_neg (by simp)]
    congr 1
    refine Bool.eq_false_iff.mpr fun q => ?_
    have m := List.contains_iff_mem.mp q
    simp only [List.mem_cons, List.not_mem_nil, or_false] at m
    rcases m with m | m | m | m | m | m
    · cases m; exact h rfl
    · cases m; exact n rfl
    all_goals cases m
end OQ

/-! ### C.f(..), C an own class of the text: the def itself -/
namespace OQ
open PySem L2 PySem.Spec PyProof.Rows
/-- C.f read off the class: the def at g -/
structure CDef (K : PySem.W.Frag) (C g : Addr) (n : Str) : Prop where
  rd : PySem.W.readsIn K C (.type "type") = true
  ga : PySem.W.specialIn K (.ref C) "__getattribute__" = some (some (.builtin "type.__getattribute__"))
  val : PySem.W.findCls K (.ref C) (.type "type") n = some (.val (.ref g))
  kp : PySem.W.keepIn K (.ref g) = true
section
variable {X : Cx} {CX : CXT} {n : Str} {C g : Addr} {k : Nat} {fd : FuncData} {ps : List Str} {sp : Sp} {o e : Expr} {es : List Expr} {to : TE} {t : TA} {E : XK} {pos apos : Pos} {pl : Sem Bool}
def tCDef (C : Addr) (sp : Sp) (E : XK) (to : TE) (t : TA) : TE := fun σ H Q => to σ H fun x H1 => x = .ref C ∧ t σ H1 fun vs H2 => sp vs H2 Q E
theorem pe_cdef (ho : PE X o to) (c : CDef X.K C g n) (F : FnOk X.prog X.w X.K X.mg X.base CX k g fd ps sp) (hr : Room k X.A) (hb : Binds X.K fd ps []) (hx : Passes CX X E) (ha : PA X (e :: es) t)
    (ht : eval (.Call (.Attribute o n apos) (e :: es) [] pos) X.env = (do
      let ov ← eval o X.env
      standAt apos.atName
      let (f, first) ← holding [ov] (getMethod ov n pl)
      callWith pos f first (backTo pos (starEach (e :: es) X.env)) (backToKw pos (keywordEach [] X.env))) := by rfl)
    (he : starEach (e :: es) X.env = (false, eval e X.env) :: starEach es X.env := by rfl) (hpl : (backTo pos (starEach es X.env)).any (·.1) = false := by rfl) :
    PE X (.Call (.Attribute o n apos) (e :: es) [] pos) (tCDef C sp E to t) := by
  refine ⟨fun pins s σ H Q I h => ?_⟩
  refine PySem.W.methodCall_KW (pl := pl) (thn (ho.run pins s σ H _ I h) fun u s1 ⟨x, H1, I1, rx, ex, q⟩ => ?_) ht
  subst ex
  obtain rfl : u = Value.ref C := rx
  refine PySem.W.method_cls I1.kIn c.ga (PySem.W.cls_value I1.kIn c.rd c.val rfl ?_)
  show wpAny _ _ (callWith pos (Value.ref g) [] (backTo pos (starEach (e :: es) X.env)) []) _ _ _
  refine PySem.W.callWith_K (h₀ := X.base) I1.ok.mod.kin c.kp (thn (ha.run pos pins _ σ H1 _ (I1.tok _) q) fun us s2 ⟨vs, H2, I2, rv, q2⟩ => ⟨I2.kIn, ?_⟩) he hpl
  exact run_at (A := X.A) rfl hr F hb hx I2 rv q2
end
end OQ

/-! ### own errors: of which classes above -/
namespace OQ
open PySem L2 PySem.Spec PyProof.Rows
theorem mro_has {K : PySem.W.Frag} {W f C : Addr} (a : ErC K W f C) {B : Value} (h : B ∈ [Value.ref C, .ref W, .type "ValueError", .type "Exception", .type "BaseException", .type "object"]) : PySem.W.mroIn K C B = some true := by
  obtain ⟨cc, e1, e2⟩ := a.mro
  unfold PySem.W.mroIn
  rw [e1]
  show (if cc.mro.isEmpty = true then none else some (cc.mro.contains B)) = some true
  rw [e2, if_neg (by simp), List.contains_iff_mem.mpr h]
theorem kit_eV {K : PySem.W.Frag} {W f C : Addr} (a : ErC K W f C) : PySem.W.kitOne K (.ref C) (.type "ValueError") = some true := by
  unfold PySem.W.kitOne
  rw [if_neg (by simp)]
  show (if PySem.W.kitMeta "ValueError" = true then PySem.W.mroIn K C (.type "ValueError") else none) = some true
  rw [if_pos (by decide +kernel), mro_has a (by simp)]
theorem kit_eW {K : PySem.W.Frag} {W f C : Addr} (a : ErC K W f C) (hc : PySem.W.isClsIn K W = true) (ht : PySem.W.typeIn K (.ref W) = some (.type "type")) : PySem.W.kitOne K (.ref C) (.ref W) = some true := by
  by_cases n : (Value.ref C == Value.ref W) = true
  · unfold PySem.W.kitOne
    rw [if_pos n]
  · unfold PySem.W.kitOne
    rw [if_neg n]
    have h : ((PySem.W.clsIn K W).isSome && PySem.W.typeIn K (.ref W) == some (.type "type")) = true := by
      rw [show (PySem.W.clsIn K W).isSome = true from hc, ht]; rfl
    show (if ((PySem.W.clsIn K W).isSome && PySem.W.typeIn K (.ref W) == some (.type "type")) = true then PySem.W.mroIn K C (.ref W) else none) = some true
    rw [if_pos h, mro_has a (by simp)]
end OQ

/-! ### all that is asked of an own error's class, in one look -/
namespace OQ
open PySem L2 PySem.Spec PyProof.Rows
/-- the classes above such a one -/
def upVE (C W : Addr) : List Value := [.ref C, .ref W, .type "ValueError", .type "Exception", .type "BaseException", .type "object"]
def shpB (W C : Addr) : Option Obj → Bool
  | some ⟨.type "type", _, .cls k, z⟩ => k.hasDict && (!k.hasDel && (decide (k.mro = upVE C W) && decide (z.size = 6 ∧ z[4]? = some (some (.builtin "ValueError.__new__")))))
  | _ => false
theorem six {z : Array (Option Value)} {u : Option Value} (n : z.size = 6) (e : z[4]? = some u) : ∃ a b c d f, z = #[a, b, c, d, u, f] := by
  obtain ⟨l⟩ := z
  match l, n, e with
  | [a, b, c, d, v, f], _, e => exact ⟨a, b, c, d, f, by cases e; rfl⟩
def fndB (K : PySem.W.Frag) (C : Addr) (n : Str) (v : Option Value) : Bool := decide (PySem.W.findIn K (.ref C) n = some v)
def erB (K : PySem.W.Frag) (W f C : Addr) : Bool :=
  shpB W C (K.lookup C) && (fndB K C "__setattr__" (some (.builtin "object.__setattr__")) && (decide (PySem.W.subIn K (.ref C) (.type "BaseException") = some true) && (decide (PySem.W.typeIn K (.ref C) = some (.type "type")) &&
    (PySem.W.keepIn K (.ref C) && (fndB K C "__init__" (some (.ref f)) && (fndB K C "value" none && (fndB K C "__getattribute__" (some (.builtin "BaseException.__getattribute__")) && (fndB K C "__getattr__" none &&
      (PySem.W.hasDictIn K C && fndB K C "__class__" (some (.builtin "object.__class__")))))))))))
/-- f of all of them -/
def allB {α : Type} (f : α → Bool) : List α → Bool
  | [] => true
  | x :: r => f x && allB f r
theorem allB_at {α : Type} {f : α → Bool} : ∀ {l : List α}, allB f l = true → ∀ x ∈ l, f x = true
  | [], _, _, m => nomatch m
  | y :: r, h, x, m => by
    have q : (f y && allB f r) = true := h
    rw [Bool.and_eq_true] at q
    rcases List.mem_cons.mp m with e | m
    · rw [e]; exact q.1
    · exact allB_at q.2 x m
theorem two {a b : Bool} (h : (a && b) = true) : a = true ∧ b = true := by simpa using h
theorem erB_ok {K : PySem.W.Frag} {W f C : Addr} (hn : PySem.W.specialIn K (.builtin "object.__class__") "__get__" = some (some (.builtin "getset_descriptor.__get__"))) (ht : PySem.W.takesIn K (.builtin "object.__class__") = some true)
    (h : erB K W f C = true) : ErC K W f C := by
  obtain ⟨c1, h⟩ := two h
  obtain ⟨c2, h⟩ := two h
  obtain ⟨c3, h⟩ := two h
  obtain ⟨c4, h⟩ := two h
  obtain ⟨c5, h⟩ := two h
  obtain ⟨c6, h⟩ := two h
  obtain ⟨c7, h⟩ := two h
  obtain ⟨c8, h⟩ := two h
  obtain ⟨c9, h⟩ := two h
  obtain ⟨c10, c11⟩ := two h
  have F : ∀ {n : Str} {v : Option Value}, fndB K C n v = true → PySem.W.findIn K (.ref C) n = some v := fun q => of_decide_eq_true q
  have sub := of_decide_eq_true c3
  cases e : K.lookup C with
  | none => rw [e] at c1; cases c1
  | some o =>
    rw [e] at c1
    unfold shpB at c1
    split at c1
    · rename_i dd k z eo
      have eo' := Option.some.inj eo
      subst eo'
      obtain ⟨d1, c1⟩ := two c1
      obtain ⟨d2, c1⟩ := two c1
      obtain ⟨d3, d4⟩ := two c1
      obtain ⟨s1, s2⟩ := of_decide_eq_true d4
      obtain ⟨k0, k1, k2, k3, k5, rfl⟩ := six s1 s2
      have mr := of_decide_eq_true d3
      obtain ⟨nm, bs, mro, ns, qn, hdct, sn, sub2, ab, col, hdel⟩ := k
      simp only [Bool.not_eq_true'] at d1 d2 mr
      subst d1 d2 mr
      have cl : PySem.W.clsIn K C = some { name := nm, bases := bs, mro := upVE C W, ns := ns, qualname := qn, hasDict := true, slotNames := sn, subclasses := sub2, abstract := ab, collection := col, hasDel := false } := by
        unfold PySem.W.clsIn
        rw [e]
      have up : PySem.W.mroIn K C (.type "object") = some true := by
        unfold PySem.W.mroIn
        rw [cl]
        show (if (upVE C W).isEmpty = true then none else some ((upVE C W).contains (.type "object"))) = some true
        rw [if_neg (by simp [upVE]), List.contains_iff_mem.mpr (by simp [upVE])]
      exact ⟨⟨⟨nm, qn, ns, bs, [.ref W, .type "ValueError", .type "Exception", .type "BaseException", .type "object"], sn, sub2, ab, col, dd, k0, k1, k2, k3, k5, e, by rfl⟩, F c2, sub, of_decide_eq_true c4, c5⟩, F c6, F c7,
        ⟨F c8, F c9, sub, c10⟩, ⟨F c8, F c9, sub, c10, F c11, hn, ht, up⟩, ⟨_, cl, rfl⟩⟩
    · cases c1
end OQ
namespace OQ
open PySem L2 PySem.Spec PyProof.Rows
theorem ErC.cls {K : PySem.W.Frag} {W f C : Addr} (a : ErC K W f C) : PySem.W.isClsIn K C = true := by
  obtain ⟨cc, e, _⟩ := a.mro
  show (PySem.W.clsIn K C).isSome = true
  rw [e]; rfl
/-- what «except D» says of an error of C -/
theorem exm_is {K : PySem.W.Frag} {C D : Addr} {b : Bool} (h1 : PySem.W.subIn K (.ref D) (.type "BaseException") = some true) (h2 : PySem.W.isClsIn K D = true) (h3 : PySem.W.typeIn K (.ref D) = some (.type "type")) (h : PySem.W.mroIn K C (.ref D) = some b) :
    PySem.W.exmOne K (.ref C) (.ref D) = some b := by
  unfold PySem.W.exmOne
  rw [h1, if_pos (by rfl)]
  have q : ((PySem.W.clsIn K D).isSome && PySem.W.typeIn K (.ref D) == some (.type "type")) = true := by
    rw [show (PySem.W.clsIn K D).isSome = true from h2, h3]; rfl
  unfold PySem.W.kitCls
  exact (if_pos q).trans h
theorem mro_er {K : PySem.W.Frag} {W f C : Addr} (a : ErC K W f C) {D : Addr} (n : D ≠ W) : PySem.W.mroIn K C (.ref D) = some (decide (C = D)) := by
  by_cases h : C = D
  · subst h; rw [mro_has a (by simp), decide_eq_true rfl]
  · obtain ⟨cc, e1, e2⟩ := a.mro
    unfold PySem.W.mroIn
    rw [e1, decide_eq_false h]
    show (if cc.mro.isEmpty = true then none else some (cc.mro.contains (.ref D))) = some false
    rw [e2, if_neg (by simp)]
    refine congrArg some (Bool.eq_false_iff.mpr fun q => ?_)
    have m := List.contains_iff_mem.mp q
    simp only [List.mem_cons, Value.ref.injEq, reduceCtorEq, List.not_mem_nil, or_false] at m
    exact m.elim (fun z => h z.symm) n
theorem exm_er {K : PySem.W.Frag} {W f g C D : Addr} (a : ErC K W f C) (b : ErC K W g D) (n : D ≠ W) : PySem.W.exmOne K (.ref C) (.ref D) = some (decide (C = D)) := exm_is b.oex.exC b.cls b.oex.tyC (mro_er a n)
theorem exm_eW {K : PySem.W.Frag} {W f C : Addr} (a : ErC K W f C) (h1 : PySem.W.subIn K (.ref W) (.type "BaseException") = some true) (h2 : PySem.W.isClsIn K W = true) (h3 : PySem.W.typeIn K (.ref W) = some (.type "type")) :
    PySem.W.exmOne K (.ref C) (.ref W) = some true := exm_is h1 h2 h3 (mro_has a (by simp))
end OQ

/-! ### the head by one run: facts by names, and one more look -/
namespace OQ
open PySem L2 PySem.Spec PyProof.Rows
/-- what of the heap is looked at: what the module's names reach, and the host's own names -/
def frB (n : Nat) (g : Addr → Option Obj) : PySem.W.Frag := He.frG g (cStatics :: He.asD g n)
def hookB (n : Nat) (fa : List He.Fa) (fn : List He.DefD) (ex : PySem.W.Frag → Bool) : PySem.W.Hook where
  α := He.AlD × Bool
  obs := fun s => (He.obsD fa fn (frB n s.heap.get?), ex (frB n s.heap.get?))
  val := fun _ => (He.valD fn, true)
  says := fun _ h => ∃ K : PySem.W.Frag, K.In h ∧ He.SaysD fa fn K ∧ ex K = true
  of := fun _ _ e => ⟨_, He.frG_in, congrArg Prod.fst e, congrArg Prod.snd e⟩
  keeps := fun _ _ _ ⟨K, hK, c, x⟩ k => ⟨K, PySem.W.Frag.In.keeps hK k, c, x⟩
def obB (n : Nat) (fa : List He.Fa) (fn : List He.DefD) (ex : PySem.W.Frag → Bool) (s : PySem.W.SharedT) : He.AlD × Bool :=
  (He.obsD fa fn (frB n (HandSHeadRun.getT s)), ex (frB n (HandSHeadRun.getT s)))
theorem obB_eq (n : Nat) (fa : List He.Fa) (fn : List He.DefD) (ex : PySem.W.Frag → Bool) (s : PySem.W.SharedT) : obB n fa fn ex s = (hookB n fa fn ex).obs s.abs := by
  have e : HandSHeadRun.getT s = s.abs.heap.get? := funext (HandSHeadRun.getT_eq s)
  unfold obB
  rw [e]
  rfl
theorem fun_of {K : PySem.W.Frag} {x q : Str} {st : Stmt} {f : Addr} {fd : FuncData} (F : FunD K x q (defArgs st) (defBody st) (defScope st) [] [] f fd) : Fun K x q st f fd := by
  obtain ⟨oc, od, dV, kV, doc, pm, an, cd, ct, sl, e, look, code, df, _⟩ := F.ex
  rcases df with ⟨_, rfl⟩ | ⟨no, _⟩
  · exact ⟨⟨oc, od, kV, doc, pm, an, cd, ct, sl, e, look, code⟩, F.kp⟩
  · exact absurd rfl no
/-- v as an option's option -/
def isB (a : Option (Option Value)) (v : Option Value) : Bool := decide (a = some v)
theorem isB_ok {a : Option (Option Value)} {v : Option Value} (h : isB a v = true) : a = some v := of_decide_eq_true h
end OQ

open RD in
local macro_rules | `(tactic| walk_at "rd1") => `(tactic| with_reducible first
  | refine d_seq ?_ | refine d_asg ?_ | refine d_op ?_ | refine d_c ?_ | refine d_gname ?_ | refine d_ifS ?_ | refine d_test ?_ | refine d_bl ?_ | refine d_ret ?_ | refine d_next ?_ | refine d_drop ?_
  | refine d_and ?_ | refine d_or ?_ | refine d_not ?_ | refine d_andV ?_ | refine d_orV ?_ | refine d_notV ?_ | refine d_if ?_ | refine d_tB ?_
  | refine d_rI0 ?_ | refine d_rU ?_ | refine d_eqI ?_ | refine d_neI ?_ | refine d_eqS ?_ | refine d_neS ?_ | refine d_eqB ?_ | refine d_isN ?_ | refine d_notN ?_ | refine d_intB ?_ | refine d_un ?_ | refine d_cb ?_ | refine d_cons ?_ | refine d_nil ?_ | refine d_lst ?_ | refine d_tup ?_ | refine d_call ?_
  | refine d_iList ?_ | refine d_rng1 ?_ | refine d_lc ?_ | refine d_yes ?_ | refine d_iteT ?_ | refine d_iteF ?_ | refine d_sl ?_ | refine d_noPart ?_ | refine d_part ?_ | refine d_exI ?_ | refine d_fld ?_ | refine d_iteNF ?_ | refine d_iteNT ?_ | refine d_gcd ?_ | refine d_sfld ?_ | refine d_for ?_ | refine OQ.d_makeS ?_ | refine OQ.d_make ?_ | refine OQ.d_methS ?_ | refine OQ.d_meth ?_ | refine d_gsub ?_ | refine d_par ?_ | refine d_int ?_ | refine d_abs ?_)
local macro_rules | `(tactic| walk_at "rdH") => `(tactic| first | assumption | exact L2.upd_same | (simp only [L2.upd_same, L2.upd_ne, ne_eq, not_false_eq_true, *]; done))
local macro_rules | `(tactic| walk_at "rdC") => `(tactic| first | assumption | (refine Or.inr ⟨?_, ?_⟩ <;> first | decide | omega) | (refine Or.inl ⟨?_, ?_⟩ <;> first | decide | omega) | (show (0 : Int) < _; first | assumption | decide | omega) | exact ⟨by decide, by decide +kernel⟩ | exact ⟨by decide, by decide, by decide +kernel⟩ | exact ⟨by assumption, by assumption⟩)
local macro_rules | `(tactic| walk_at "rd2") => `(tactic| first
  | refine RD.d_var rfl ?_
  | ((with_reducible (refine' RD.d_ixL ?hs ?e ?k)); (case hs => exact L2.SqL.of (by walk_at "rdH")); (case e => rfl))
  | ((with_reducible (refine' RD.d_ixT ?hs ?e ?k)); (case hs => exact L2.SqT.of (by walk_at "rdH")); (case e => rfl))
  | ((with_reducible (refine' RD.d_lenL ?hs ?k)); (case hs => exact L2.SqL.of (by walk_at "rdH")))
  | ((with_reducible (refine' RD.d_wipe ?e ?k)); (case e => rfl))
  | ((with_reducible (refine' RD.d_refL ?hs ?k)); (case hs => exact L2.SqL.of (by walk_at "rdH")))
  | ((with_reducible (refine' RD.d_lenT ?hs ?k)); (case hs => exact L2.SqT.of (by walk_at "rdH")))
  | ((with_reducible (refine' RD.d_lenS ?hs ?k)); (case hs => first | assumption | omega))
  | ((with_reducible (refine' RD.d_rI ?c ?k)); (case c => walk_at "rdC"))
  | ((with_reducible (refine' RD.d_setL ?hs ?e ?k)); (case hs => walk_at "rdH"); (case e => rfl)))
local macro_rules | `(tactic| walk_at "rd") => `(tactic| repeat (first | walk_at "rd1" | walk_at "rd2"))

/-! ### words, watches, links, floods -/
namespace WW
abbrev Wd := List Nat
def piece (W : Wd) (i j : Nat) : Wd := (W.drop i).take (j - i)
/-- the watch w stands at spot l of W -/
def Hit (W : Wd) (l : Nat) (w : Wd) : Prop := piece W l (l + w.length) = w
def Link (ws : List Wd) (W : Wd) (i j : Nat) : Prop := ∃ w ∈ ws, (Hit W i w ∧ j = i + w.length) ∨ (Hit W j w ∧ i = j + w.length)
instance {W : Wd} {l : Nat} {w : Wd} : Decidable (Hit W l w) := inferInstanceAs (Decidable (_ = _))
theorem Link.symm {ws : List Wd} {W : Wd} {i j : Nat} (h : Link ws W i j) : Link ws W j i := by
  obtain ⟨w, m, h⟩ := h
  exact ⟨w, m, h.symm⟩
theorem piece_length (W : Wd) (i j : Nat) : (piece W i j).length = min (j - i) (W.length - i) := by simp [piece]
theorem Hit.bound {W : Wd} {l : Nat} {w : Wd} (h : Hit W l w) (n : w ≠ []) : l + w.length ≤ W.length := by
  have e := congrArg List.length h
  rw [piece_length] at e
  have : 0 < w.length := List.length_pos_iff.mpr n
  omega
theorem Link.le {ws : List Wd} {W : Wd} {i j : Nat} (hw : ∀ w ∈ ws, w ≠ []) (h : Link ws W i j) : i ≤ W.length ∧ j ≤ W.length ∧ i ≠ j := by
  obtain ⟨w, m, ⟨h, e⟩ | ⟨h, e⟩⟩ := h
  · have := h.bound (hw w m)
    have : 0 < w.length := List.length_pos_iff.mpr (hw w m)
    omega
  · have := h.bound (hw w m)
    have : 0 < w.length := List.length_pos_iff.mpr (hw w m)
    omega
theorem Link.mono {ws vs : List Wd} {W : Wd} {i j : Nat} (s : ∀ w ∈ ws, w ∈ vs) (h : Link ws W i j) : Link vs W i j := by
  obtain ⟨w, m, h⟩ := h
  exact ⟨w, s w m, h⟩
/-- r steps lead from g to v -/
def Wk (E : Nat → Nat → Prop) (g : Nat) : Nat → Nat → Prop
  | 0, v => v = g
  | r + 1, v => ∃ u, Wk E g r u ∧ E u v
/-- r steps and no fewer -/
def Ds (E : Nat → Nat → Prop) (g r v : Nat) : Prop := Wk E g r v ∧ ∀ s, s < r → ¬ Wk E g s v
def Rc (E : Nat → Nat → Prop) (g v : Nat) : Prop := ∃ r, Wk E g r v
theorem Rc.ds {E : Nat → Nat → Prop} {g v : Nat} (h : Rc E g v) : ∃ r, Ds E g r v := by
  obtain ⟨r, h⟩ := h
  induction r using Nat.strongRecOn with
  | ind r ih =>
    by_cases c : ∃ s, s < r ∧ Wk E g s v
    · obtain ⟨s, hs, k⟩ := c
      exact ih s hs k
    · exact ⟨r, h, fun s hs k => c ⟨s, hs, k⟩⟩
theorem Ds.uniq {E : Nat → Nat → Prop} {g r s v : Nat} (h : Ds E g r v) (k : Ds E g s v) : r = s := by
  rcases Nat.lt_trichotomy r s with c | c | c
  · exact (k.2 r c h.1).elim
  · exact c
  · exact (h.2 s c k.1).elim
/-- a step further than r leads to r + 1, or to what is nearer -/
theorem Ds.step {E : Nat → Nat → Prop} {g r u v : Nat} (h : Ds E g r u) (e : E u v) : Ds E g (r + 1) v ∨ ∃ s, s ≤ r ∧ Ds E g s v := by
  obtain ⟨s, k⟩ := Rc.ds ⟨r + 1, u, h.1, e⟩
  by_cases c : s ≤ r
  · exact .inr ⟨s, c, k⟩
  · by_cases c2 : s = r + 1
    · subst c2; exact .inl k
    · exact (k.2 (r + 1) (by omega) ⟨u, h.1, e⟩).elim
theorem Ds.back {E : Nat → Nat → Prop} {g r v : Nat} (h : Ds E g (r + 1) v) : ∃ u, Ds E g r u ∧ E u v := by
  obtain ⟨⟨u, k, e⟩, n⟩ := h
  exact ⟨u, ⟨k, fun s hs z => n (s + 1) (by omega) ⟨u, z, e⟩⟩, e⟩
theorem Ds.down {E : Nat → Nat → Prop} {g : Nat} : ∀ {r v : Nat}, Ds E g r v → ∀ s, s ≤ r → ∃ u, Ds E g s u
  | r, v, h, s, hs => by
    by_cases c : s = r
    · subst c; exact ⟨v, h⟩
    · cases r with
      | zero => omega
      | succ r =>
        obtain ⟨u, k, _⟩ := h.back
        exact k.down s (by omega)
theorem Wk.trans {E : Nat → Nat → Prop} {g u : Nat} {r : Nat} (h : Wk E g r u) : ∀ {s v : Nat}, Wk E u s v → Wk E g (r + s) v
  | 0, v, k => by cases k; exact h
  | s + 1, v, ⟨x, k, e⟩ => ⟨x, h.trans k, e⟩
theorem Rc.trans {E : Nat → Nat → Prop} {g u v : Nat} (h : Rc E g u) (k : Rc E u v) : Rc E g v := by
  obtain ⟨r, h⟩ := h
  obtain ⟨s, k⟩ := k
  exact ⟨r + s, h.trans k⟩
theorem Rc.one {E : Nat → Nat → Prop} {u v : Nat} (e : E u v) : Rc E u v := ⟨1, u, rfl, e⟩
theorem Rc.refl {E : Nat → Nat → Prop} {u : Nat} : Rc E u u := ⟨0, rfl⟩
theorem Rc.symm {E : Nat → Nat → Prop} (sy : ∀ u v, E u v → E v u) {u v : Nat} (h : Rc E u v) : Rc E v u := by
  obtain ⟨r, h⟩ := h
  induction r generalizing v with
  | zero => cases h; exact .refl
  | succ r ih =>
    obtain ⟨x, k, e⟩ := h
    exact (Rc.one (sy _ _ e)).trans (ih k)
theorem Rc.mono {E F : Nat → Nat → Prop} (m : ∀ u v, E u v → F u v) {u v : Nat} (h : Rc E u v) : Rc F u v := by
  obtain ⟨r, h⟩ := h
  induction r generalizing v with
  | zero => cases h; exact .refl
  | succ r ih =>
    obtain ⟨x, k, e⟩ := h
    exact (ih k).trans (.one (m _ _ e))
/-- the book of ws tells W -/
def Told (ws : List Wd) (W : Wd) : Prop := Rc (Link ws W) 0 W.length
end WW
namespace WW
/-! the marks: spots with one mark are led to one another -/
structure Cls (m : Nat → Int) (n : Nat) (F : Nat → Nat → Prop) : Prop where
  snd : ∀ i j, i ≤ n → j ≤ n → m i = m j → Rc F i j
  cmp : ∀ i j, F i j → m i = m j
def addE (F : Nat → Nat → Prop) (a b : Nat) : Nat → Nat → Prop := fun u v => F u v ∨ (u = a ∧ v = b) ∨ (v = a ∧ u = b)
theorem Cls.same {m : Nat → Int} {n a b : Nat} {F : Nat → Nat → Prop} (h : Cls m n F) (e : m a = m b) : Cls m n (addE F a b) :=
  ⟨fun i j hi hj z => (h.snd i j hi hj z).mono fun _ _ => .inl, fun i j z => by
    rcases z with z | ⟨rfl, rfl⟩ | ⟨rfl, rfl⟩
    · exact h.cmp _ _ z
    · exact e
    · exact e.symm⟩
def relab (m : Nat → Int) (a b : Nat) : Nat → Int := fun i => if m i = m b then m a else m i
theorem Cls.join {m : Nat → Int} {n a b : Nat} {F : Nat → Nat → Prop} (h : Cls m n F) (ha : a ≤ n) (hb : b ≤ n) (e : m a ≠ m b) : Cls (relab m a b) n (addE F a b) := by
  have up : ∀ u v, Rc F u v → Rc (addE F a b) u v := fun u v k => k.mono fun _ _ => .inl
  have ab : Rc (addE F a b) a b := .one (.inr (.inl ⟨rfl, rfl⟩))
  have ba : Rc (addE F a b) b a := .one (.inr (.inr ⟨rfl, rfl⟩))
  refine ⟨fun i j hi hj z => ?_, fun i j z => ?_⟩
  · unfold relab at z
    split at z <;> split at z
    · rename_i c d
      exact up _ _ (h.snd i j hi hj (c.trans d.symm))
    · rename_i c d
      exact ((up _ _ (h.snd i b hi hb c)).trans ba).trans (up _ _ (h.snd a j ha hj z))
    · rename_i c d
      exact ((up _ _ (h.snd i a hi ha z)).trans ab).trans (up _ _ (h.snd b j hb hj d.symm))
    · exact up _ _ (h.snd i j hi hj z)
  · unfold relab
    rcases z with z | ⟨rfl, rfl⟩ | ⟨rfl, rfl⟩
    · rw [h.cmp _ _ z]
    · rw [if_neg e, if_pos rfl]
    · rw [if_neg e, if_pos rfl]
theorem Cls.told {m : Nat → Int} {n : Nat} {F : Nat → Nat → Prop} (h : Cls m n F) {i j : Nat} (hi : i ≤ n) (hj : j ≤ n) : m i = m j ↔ Rc F i j := by
  refine ⟨h.snd i j hi hj, fun k => ?_⟩
  obtain ⟨r, k⟩ := k
  clear hi hj
  induction r generalizing j with
  | zero => cases k; rfl
  | succ r ih =>
    obtain ⟨x, k, e⟩ := k
    exact (ih k).trans (h.cmp _ _ e)
/-! the links, as they are found -/
/-- those found ahead of the watch kk at spot low -/
def LkF (ws : List Wd) (W : Wd) (low kk : Nat) (i j : Nat) : Prop := ∃ l k w, ws[k]? = some w ∧ Hit W l w ∧ (l < low ∨ (l = low ∧ k < kk)) ∧ ((i = l ∧ j = l + w.length) ∨ (j = l ∧ i = l + w.length))
theorem LkF.zero {ws : List Wd} {W : Wd} {i j : Nat} : ¬ LkF ws W 0 0 i j := by
  rintro ⟨l, k, w, _, _, c, _⟩
  omega
theorem LkF.next {ws : List Wd} {W : Wd} {low i j : Nat} : LkF ws W low ws.length i j ↔ LkF ws W (low + 1) 0 i j := by
  refine ⟨fun ⟨l, k, w, h1, h2, c, h3⟩ => ⟨l, k, w, h1, h2, by omega, h3⟩, fun ⟨l, k, w, h1, h2, c, h3⟩ => ⟨l, k, w, h1, h2, ?_, h3⟩⟩
  have := (List.getElem?_eq_some_iff.mp h1).1
  omega
theorem LkF.all {ws : List Wd} {W : Wd} {i j : Nat} (n : ∀ w ∈ ws, w ≠ []) : LkF ws W W.length 0 i j ↔ Link ws W i j := by
  constructor
  · rintro ⟨l, k, w, h1, h2, c, h3⟩
    refine ⟨w, List.mem_of_getElem? h1, ?_⟩
    rcases h3 with ⟨rfl, e⟩ | ⟨rfl, e⟩
    · exact .inl ⟨h2, e⟩
    · exact .inr ⟨h2, e⟩
  · rintro ⟨w, m, h⟩
    obtain ⟨k, hk⟩ := List.getElem?_of_mem m
    have l0 : 0 < w.length := List.length_pos_iff.mpr (n w m)
    rcases h with ⟨h, e⟩ | ⟨h, e⟩
    · exact ⟨i, k, w, hk, h, by have := h.bound (n w m); omega, .inl ⟨rfl, e⟩⟩
    · exact ⟨j, k, w, hk, h, by have := h.bound (n w m); omega, .inr ⟨rfl, e⟩⟩
theorem LkF.miss {ws : List Wd} {W : Wd} {low kk : Nat} {w : Wd} (hk : ws[kk]? = some w) (h : ¬ Hit W low w) (i j : Nat) : LkF ws W low (kk + 1) i j ↔ LkF ws W low kk i j := by
  refine ⟨fun ⟨l, k, v, h1, h2, c, h3⟩ => ⟨l, k, v, h1, h2, ?_, h3⟩, fun ⟨l, k, v, h1, h2, c, h3⟩ => ⟨l, k, v, h1, h2, by omega, h3⟩⟩
  rcases c with c | ⟨rfl, c⟩
  · exact .inl c
  · by_cases e : k = kk
    · subst e
      rw [hk] at h1
      cases h1
      exact (h h2).elim
    · exact .inr ⟨rfl, by omega⟩
theorem LkF.hit {ws : List Wd} {W : Wd} {low kk : Nat} {w : Wd} (hk : ws[kk]? = some w) (h : Hit W low w) (i j : Nat) : LkF ws W low (kk + 1) i j ↔ addE (LkF ws W low kk) low (low + w.length) i j := by
  constructor
  · rintro ⟨l, k, v, h1, h2, c, h3⟩
    by_cases e : l = low ∧ k = kk
    · obtain ⟨rfl, rfl⟩ := e
      rw [hk] at h1
      cases h1
      rcases h3 with ⟨rfl, rfl⟩ | ⟨rfl, rfl⟩
      · exact .inr (.inl ⟨rfl, rfl⟩)
      · exact .inr (.inr ⟨rfl, rfl⟩)
    · exact .inl ⟨l, k, v, h1, h2, by omega, h3⟩
  · rintro (⟨l, k, v, h1, h2, c, h3⟩ | h3)
    · exact ⟨l, k, v, h1, h2, by omega, h3⟩
    · refine ⟨low, kk, w, hk, h, by omega, ?_⟩
      rcases h3 with ⟨rfl, rfl⟩ | ⟨rfl, rfl⟩
      · exact .inl ⟨rfl, rfl⟩
      · exact .inr ⟨rfl, rfl⟩
theorem LkF.new {ws : List Wd} {W : Wd} {low kk : Nat} {w : Wd} (nd : ws.Nodup) (n : ∀ w ∈ ws, w ≠ []) (hk : ws[kk]? = some w) (h : Hit W low w) : ¬ LkF ws W low kk low (low + w.length) ∧ ¬ LkF ws W low kk (low + w.length) low := by
  have l0 : 0 < w.length := List.length_pos_iff.mpr (n w (List.mem_of_getElem? hk))
  have key : ∀ l k v, ws[k]? = some v → Hit W l v → (l < low ∨ (l = low ∧ k < kk)) → l = low → v.length = w.length → False := by
    rintro l k v h1 h2 c rfl e
    have e2 : v = w := by
      unfold Hit at h2 h
      rw [← h2, ← h, e]
    subst e2
    have lt : k < kk := by omega
    have := (List.getElem?_inj (List.getElem?_eq_some_iff.mp h1).1 nd).mp (h1.trans hk.symm)
    omega
  refine ⟨fun ⟨l, k, v, h1, h2, c, h3⟩ => ?_, fun ⟨l, k, v, h1, h2, c, h3⟩ => ?_⟩ <;>
  · have l1 : 0 < v.length := List.length_pos_iff.mpr (n v (List.mem_of_getElem? h1))
    exact key l k v h1 h2 c (by omega) (by omega)
/-- rows of links -/
structure LkI (rows : Nat → List Nat) (F : Nat → Nat → Prop) : Prop where
  mem : ∀ i j, j ∈ rows i ↔ F i j
  nd : ∀ i, (rows i).Nodup
def push (rows : Nat → List Nat) (a b : Nat) : Nat → List Nat := fun i => if i = a then rows i ++ [b] else rows i
theorem LkI.add {rows : Nat → List Nat} {F : Nat → Nat → Prop} {a b : Nat} (h : LkI rows F) (ne : a ≠ b) (n1 : ¬ F a b) (n2 : ¬ F b a) : LkI (push (push rows a b) b a) (addE F a b) := by
  have e : ∀ i, push (push rows a b) b a i = if i = a then rows i ++ [b] else if i = b then rows i ++ [a] else rows i := by
    intro i
    unfold push
    by_cases c : i = a
    · subst c; rw [if_neg ne, if_pos rfl, if_pos rfl]
    · simp only [if_neg c]
  refine ⟨fun i j => ?_, fun i => ?_⟩
  · rw [e]
    split
    · rename_i c
      subst c
      rw [List.mem_append, h.mem, List.mem_singleton]
      unfold addE
      constructor
      · rintro (z | z)
        · exact .inl z
        · exact .inr (.inl ⟨rfl, z⟩)
      · rintro (z | ⟨_, z⟩ | ⟨_, z⟩)
        · exact .inl z
        · exact .inr z
        · exact (ne z).elim
    · rename_i c
      split
      · rename_i d
        subst d
        rw [List.mem_append, h.mem, List.mem_singleton]
        unfold addE
        constructor
        · rintro (z | z)
          · exact .inl z
          · exact .inr (.inr ⟨z, rfl⟩)
        · rintro (z | ⟨z, _⟩ | ⟨z, _⟩)
          · exact .inl z
          · exact (c z).elim
          · exact .inr z
      · rename_i d
        rw [h.mem]
        unfold addE
        constructor
        · exact .inl
        · rintro (z | ⟨z, _⟩ | ⟨_, z⟩)
          · exact z
          · exact (c z).elim
          · exact (d z).elim
  · rw [e]
    have app : ∀ (l : List Nat) (x : Nat), l.Nodup → x ∉ l → (l ++ [x]).Nodup := by
      intro l x nl nx
      rw [List.nodup_append]
      refine ⟨nl, by simp, fun y hy z hz q => ?_⟩
      rw [List.mem_singleton] at hz
      subst hz; subst q
      exact nx hy
    split
    · rename_i c
      subst c
      exact app _ _ (h.nd _) fun z => n1 ((h.mem _ _).mp z)
    · split
      · rename_i c d
        subst d
        exact app _ _ (h.nd _) fun z => n2 ((h.mem _ _).mp z)
      · exact h.nd _
theorem LkI.iff {rows : Nat → List Nat} {F G : Nat → Nat → Prop} (h : LkI rows F) (e : ∀ i j, G i j ↔ F i j) : LkI rows G := ⟨fun i j => (h.mem i j).trans (e i j).symm, h.nd⟩
theorem LkI.zero {ws : List Wd} {W : Wd} : LkI (fun _ => []) (LkF ws W 0 0) := ⟨fun i j => ⟨fun z => (nomatch z), fun z => (LkF.zero z).elim⟩, fun _ => List.nodup_nil⟩
end WW
namespace WW
theorem nodup_len : ∀ (n : Nat) (l : List Nat), l.Nodup → (∀ x ∈ l, x < n) → l.length ≤ n
  | 0, l, _, h => by
    cases l with
    | nil => exact Nat.le_refl _
    | cons a r => exact absurd (h a (List.mem_cons_self ..)) (Nat.not_lt_zero _)
  | n + 1, l, nd, h => by
    by_cases m : n ∈ l
    · have e := List.length_erase_of_mem m
      have ih := nodup_len n (l.erase n) (nd.erase n) (fun x hx => by
        have := h x (List.mem_of_mem_erase hx)
        have : x ≠ n := fun z => by subst z; exact (nd.not_mem_erase hx)
        omega)
      omega
    · exact Nat.le_succ_of_le (nodup_len n l nd fun x hx => by
        have := h x hx
        have : x ≠ n := fun z => m (z ▸ hx)
        omega)
theorem LkF.le {ws : List Wd} {W : Wd} {low kk i j : Nat} (n : ∀ w ∈ ws, w ≠ []) (h : LkF ws W low kk i j) : i ≤ W.length ∧ j ≤ W.length := by
  obtain ⟨l, k, w, h1, h2, c, h3⟩ := h
  have := h2.bound (n w (List.mem_of_getElem? h1))
  omega
theorem LkI.len {rows : Nat → List Nat} {F : Nat → Nat → Prop} {n : Nat} (h : LkI rows F) (b : ∀ i j, F i j → j ≤ n) (i : Nat) : (rows i).length ≤ n + 1 :=
  nodup_len _ _ (h.nd i) fun x m => Nat.lt_succ_of_le (b _ _ ((h.mem i x).mp m))
theorem addE.le {F : Nat → Nat → Prop} {a b n : Nat} (h : ∀ i j, F i j → j ≤ n) (ha : a ≤ n) (hb : b ≤ n) (i j : Nat) (k : addE F a b i j) : j ≤ n := by
  rcases k with k | ⟨_, rfl⟩ | ⟨rfl, _⟩
  · exact h _ _ k
  · exact hb
  · exact ha
/-- ints sorted, as numbers -/
theorem sorted_nats {r : List Nat} {ns : List Int} (p : ns.Perm (r.map fun (j : Nat) => (j : Int))) (s : ns.Pairwise (· ≤ ·)) (nd : r.Nodup) : ∃ q : List Nat, ns = q.map (fun (j : Nat) => (j : Int)) ∧ (∀ x, x ∈ q ↔ x ∈ r) ∧ q.Pairwise (· < ·) := by
  refine ⟨ns.map Int.toNat, ?_, fun x => ?_, ?_⟩
  · rw [List.map_map]
    have : ∀ z ∈ ns, ((fun (j : Nat) => (j : Int)) ∘ Int.toNat) z = z := fun z m => by
      obtain ⟨j, _, rfl⟩ := List.mem_map.mp (p.mem_iff.mp m)
      simp
    rw [List.map_congr_left this, List.map_id']
  · rw [List.mem_map]
    constructor
    · rintro ⟨z, m, rfl⟩
      obtain ⟨j, mj, rfl⟩ := List.mem_map.mp (p.mem_iff.mp m)
      simpa using mj
    · intro m
      exact ⟨(x : Int), p.mem_iff.mpr (List.mem_map.mpr ⟨x, m, rfl⟩), by simp⟩
  · have nd' : ns.Nodup := p.nodup_iff.mpr (List.Pairwise.map _ (fun a b (h : a ≠ b) => (fun z => h (by omega) : (a : Int) ≠ (b : Int))) nd)
    rw [List.pairwise_map]
    have both := s.and nd'
    refine both.imp_of_mem ?_
    rintro a b ma mb ⟨h1, h2⟩
    obtain ⟨x, _, rfl⟩ := List.mem_map.mp (p.mem_iff.mp ma)
    obtain ⟨y, _, rfl⟩ := List.mem_map.mp (p.mem_iff.mp mb)
    simp at *
    omega
end WW

/-! ### texts as lists of letters -/
namespace WW
open PySem L2
/-- the text of these letters -/
def S (l : Wd) : Str := ⟨l.toArray⟩
theorem S_len (l : Wd) : (S l).length = l.length := by show l.toArray.size = _; simp
theorem S_cps (l : Wd) : (S l).cps.toList = l := rfl
theorem S_of (z : Str) : z = S z.cps.toList := by cases z; rfl
theorem S_inj {l m : Wd} : S l = S m ↔ l = m := by
  constructor
  · intro h
    have := congrArg (fun z : Str => z.cps.toList) h
    exact this
  · exact congrArg S
theorem S_app (l m : Wd) : S l ++ S m = S (l ++ m) := by
  show Str.mk _ = Str.mk _
  simp [S]
theorem take_all {α : Type} (l : List α) {n m : Nat} (h : l.length ≤ n) (k : l.length ≤ m) : l.take n = l.take m := by
  rw [List.take_of_length_le h, List.take_of_length_le k]
theorem cut_nat {α : Type} (l : List α) (a b : Nat) : (l.drop (min a l.length)).take (min b l.length - min a l.length) = (l.drop a).take (b - a) := by
  rcases Nat.le_total a l.length with ha | ha
  · have e : min a l.length = a := by omega
    rw [e]
    rcases Nat.le_total b l.length with hb | hb
    · have e : min b l.length = b := by omega
      rw [e]
    · exact take_all _ (by rw [List.length_drop]; omega) (by rw [List.length_drop]; omega)
  · have e : min a l.length = l.length := by omega
    rw [e, List.drop_of_length_le (Nat.le_refl l.length), List.drop_of_length_le ha]
    simp
theorem S_cut (l : Wd) (a b : Nat) : cutS (S l) (some (a : Int)) (some (b : Int)) = S (piece l a b) := by
  unfold cutS piece
  rw [S_len, HT.sIx_nat, HT.sIx_nat, S_cps, cut_nat]
  rfl
theorem S_cutLo (l : Wd) (a : Nat) : cutS (S l) (some (a : Int)) none = S (l.drop a) := by
  have e : cutS (S l) (some (a : Int)) none = cutS (S l) (some (a : Int)) (some ((l.length : Nat) : Int)) := by
    unfold cutS
    rw [S_len, HT.sIx_nat, HT.sIx_nat, HT.sIx_none, Nat.min_self]
  rw [e, S_cut]
  show S _ = S _
  congr 1
  exact List.take_of_length_le (by rw [List.length_drop]; omega)
theorem S_cutHi (l : Wd) (b : Nat) : cutS (S l) none (some (b : Int)) = S (l.take b) := by
  have e : cutS (S l) none (some (b : Int)) = cutS (S l) (some ((0 : Nat) : Int)) (some (b : Int)) := by
    unfold cutS
    have z : ∀ n : Nat, HT.sIx n 0 (some ((0 : Nat) : Int)) = 0 := fun n => by rw [HT.sIx_nat, Nat.zero_min]
    rw [z, HT.sIx_none]
  rw [e, S_cut]
  rfl
/-- a row of texts -/
def Ss (ws : List Wd) : List V := ws.map fun w => V.str (S w)
theorem Ss_get {ws : List Wd} {i : Nat} {x : V} (h : (Ss ws)[i]? = some x) : ∃ w, ws[i]? = some w ∧ x = .str (S w) := by
  unfold Ss at h
  rw [List.getElem?_map] at h
  cases e : ws[i]? with
  | none => rw [e] at h; cases h
  | some w => rw [e] at h; cases h; exact ⟨w, rfl, rfl⟩
theorem Ss_len (ws : List Wd) : (Ss ws).length = ws.length := List.length_map ..
def Lt (c : Nat) : Prop := 97 ≤ c ∧ c ≤ 122
instance {c : Nat} : Decidable (Lt c) := inferInstanceAs (Decidable (_ ∧ _))
/-- all of its signs are letters -/
def Lw (l : Wd) : Prop := ∀ c ∈ l, Lt c
theorem Lw.piece {l : Wd} (h : Lw l) (a b : Nat) : Lw (piece l a b) := fun c m => h c (List.mem_of_mem_drop (List.mem_of_mem_take m))
theorem Lw.drop {l : Wd} (h : Lw l) (a : Nat) : Lw (l.drop a) := fun c m => h c (List.mem_of_mem_drop m)
theorem Lw.take {l : Wd} (h : Lw l) (a : Nat) : Lw (l.take a) := fun c m => h c (List.mem_of_mem_take m)
theorem Lw.app {l m : Wd} (h : Lw l) (k : Lw m) : Lw (l ++ m) := fun c z => (List.mem_append.mp z).elim (h c) (k c)
theorem Lw.nil : Lw [] := fun _ m => nomatch m
theorem Lw.one {c : Nat} (h : Lt c) : Lw [c] := fun x m => by rw [List.mem_singleton.mp m]; exact h
def alpha : Str := "abcdefghijklmnopqrstuvwxyz"
theorem alpha_S : alpha = S (List.range' 97 26) := by decide +kernel
theorem alpha_in (c : Nat) : decide (c ∈ alpha.cps.toList) = decide (Lt c) := by
  rw [alpha_S, S_cps]
  rw [decide_eq_decide]
  unfold Lt
  rw [List.mem_range'_1]
  omega
theorem alpha_at {i : Nat} (h : i < 26) : (List.range' 97 26)[i]? = some (97 + i) := by
  rw [List.getElem?_range' h]; simp
end WW
/-! ### readings of texts -/
namespace RD
open PySem L2
section
variable {σ : L2.St} {H : Hp} {Q : VK} {K : PySem.W.Frag} {l m : WW.Wd} {a b : Nat} {i j : Int}
def rAddS : R2 := fun x y H Q => ∃ i j, x = .str i ∧ y = .str j ∧ i.length + j.length ≤ sizeLine ∧ Q (.str (i ++ j)) H
theorem o_addS {X : Cx} : OpR X (binaryOp .Add) rAddS := op_add_str
theorem d_addS (n : l.length + m.length ≤ sizeLine) (h : Q (.str (WW.S (l ++ m))) H) : rAddS (.str (WW.S l)) (.str (WW.S m)) H Q :=
  ⟨_, _, rfl, rfl, by rw [WW.S_len, WW.S_len]; exact n, by rw [WW.S_app]; exact h⟩
def rSign : R2 := fun x y H Q => ∃ (c : Nat) (z : Str), x = .str ⟨#[c]⟩ ∧ y = .str z ∧ Q (.bl (decide (c ∈ z.cps.toList))) H
theorem o_sign {X : Cx} : OpR X (compareOp .In) rSign := op_in_sign
theorem d_alpha {c : Nat} (h : Q (.bl (decide (WW.Lt c))) H) : rSign (.str ⟨#[c]⟩) (.str "abcdefghijklmnopqrstuvwxyz") H Q :=
  ⟨c, _, rfl, rfl, by rw [show decide (c ∈ (("abcdefghijklmnopqrstuvwxyz" : Str)).cps.toList) = decide (WW.Lt c) from WW.alpha_in c]; exact h⟩
theorem d_cutS {i j : Int} (hi : i = a) (hj : j = b) (n : l.length ≤ sizeLine) (h : Q (.str (WW.S (WW.piece l a b))) H) : rSlS (.str (WW.S l)) (some i) (some j) H Q := by
  subst hi hj
  exact ⟨_, rfl, by rw [WW.S_len]; exact n, by rw [WW.S_cut]; exact h⟩
theorem d_cutSLo {i : Int} (hi : i = a) (n : l.length ≤ sizeLine) (h : Q (.str (WW.S (l.drop a))) H) : rSlS (.str (WW.S l)) (some i) none H Q := by
  subst hi
  exact ⟨_, rfl, by rw [WW.S_len]; exact n, by rw [WW.S_cutLo]; exact h⟩
theorem d_cutSHi {i : Int} (hi : i = b) (n : l.length ≤ sizeLine) (h : Q (.str (WW.S (l.take b))) H) : rSlS (.str (WW.S l)) none (some i) H Q := by
  subst hi
  exact ⟨_, rfl, by rw [WW.S_len]; exact n, by rw [WW.S_cutHi]; exact h⟩
theorem d_lenW (n : l.length ≤ sizeLine) (h : Q (.int l.length) H) : rLen K [.str (WW.S l)] H Q := ⟨_, _, rfl, ⟨by rw [WW.S_len]; exact n, rfl⟩, by rw [WW.S_len]; exact h⟩
theorem d_ixS {i : Int} {c : Nat} (hi : i = a) (n : l.length ≤ sizeLine) (e : l[a]? = some c) (h : Q (.str (WW.S [c])) H) : rIxS (.str (WW.S l)) (.int i) H Q := by
  subst hi
  exact ⟨_, _, c, rfl, rfl, by rw [WW.S_len]; exact n, by rw [WW.S_cps]; exact atI_nat e, h⟩
theorem d_eqW (h : Q (.bl (decide (l = m))) H) : rEq (.str (WW.S l)) (.str (WW.S m)) H Q := ⟨rfl, by
  have e : decide (V.str (WW.S l) = V.str (WW.S m)) = decide (l = m) := by rw [decide_eq_decide]; exact ⟨fun z => WW.S_inj.mp (V.str.inj z), fun z => by rw [z]⟩
  rw [e]; exact h⟩
theorem d_neW (h : Q (.bl (!decide (l = m))) H) : rNe (.str (WW.S l)) (.str (WW.S m)) H Q := ⟨rfl, by
  have e : decide (V.str (WW.S l) = V.str (WW.S m)) = decide (l = m) := by rw [decide_eq_decide]; exact ⟨fun z => WW.S_inj.mp (V.str.inj z), fun z => by rw [z]⟩
  rw [e]; exact h⟩
end
end RD

/-! ### enumerate over a tuple -/
namespace OQ
open PySem L2 PySem.Spec PyProof.Rows
theorem meets_enumV {v : Value} {o : Obj} {B : Heap → Prop} (b : Begins v o B) :
    Meets (Builtin.«enumerate.__new__» ⟨[.type "enumerate", v], []⟩) (fun _ R z => B z.heap ∧
      R (.ok (.ret (.ref (z.heap.push o).objs.size))) { z with heap := (z.heap.push o).push { cls := .type "enumerate", data := .fields #[.none, .bool false, .ref z.heap.objs.size, rawInt 0, .none, .none] } }) :=
  .of_wp fun P W A R z q => by
    obtain ⟨hp, g, d, tk, os⟩ := z; obtain ⟨b0, q⟩ := q
    have know := sub_enumerate
    have begin_ : ∀ {A' : Around} {E Q : Value → Shared → Prop}, Q (.ref hp.objs.size) ⟨hp.push o, g, d, tk, os⟩ → wpAny (model P W) A' (pyIter v) Q E ⟨hp, g, d, tk, os⟩ :=
      fun r => b.iter P W _ _ ⟨hp, g, d, tk, os⟩ _ b0 r
    wp_walk using begin_
    refine wpAny_stack_any fun _ => wpAny_pure ?_
    split
    · rename_i c _ _ _ _ _
      cases (c == Value.type "enumerate") <;> (wp_walk using begin_; exact ⟨_, rfl, q⟩)
    · (wp_walk using begin_; exact ⟨_, rfl, q⟩)
theorem call_enumV {P : Program} {W : World} {A : Around} {E Q : Value → Shared → Prop} {z : Shared} {v : Value} {o : Obj} {B : Heap → Prop} (b : Begins v o B) (b0 : B z.heap)
    (q : ∀ h', IsEnum h' (z.heap.objs.size + 1) z.heap.objs.size 0 .none → h'.get? z.heap.objs.size = some o → (∀ c u, z.heap.get? c = some u → h'.get? c = some u) → Q (.ref (z.heap.objs.size + 1)) { z with heap := h' }) :
    wpAny (model P W) A (call (.type "enumerate") [v]) Q E z := by
  refine callType_new F.called_enumerate (by decide) (F.typeCall_enumerate_1 _) (F.newCall_enumerate_1 _) (fun _ => F.args_object_init_2 _ _) F.entry_enumerate_new (meets_enumV b) ⟨b0, ?_⟩
  have n1 : (z.heap.push o).objs.size = z.heap.objs.size + 1 := Heap.size_push ..
  have e1 := Heap.get?_push_size (z.heap.push o) (o := { cls := .type "enumerate", data := .fields #[.none, .bool false, .ref z.heap.objs.size, rawInt 0, .none, .none] }) rfl
  rw [n1] at e1
  show _ ∧ _
  rw [n1]
  exact ⟨⟨_, e1, rfl⟩, q _ e1 (Heap.get?_push_of_some _ (Heap.get?_push_size _ b.free)) fun c u x => Heap.get?_push_of_some _ (Heap.get?_push_of_some _ x)⟩
/-- the tuple at a, each item in a new pair behind its number -/
def IteT (K : PySem.W.Frag) (a : Addr) : It where
  go i H := ∃ xs x, SqT K H a xs ∧ xs[i]? = some x
  yld i H v H' := ∃ T x, v = .ref T ∧ H T = none ∧ H' = upd H T (.tup [.int (i : Nat), x]) ∧ ∀ xs, SqT K H a xs → xs[i]? = some x
  stop i H := ∃ xs, SqT K H a xs ∧ xs.length ≤ i
theorem two_mem {b e it : Addr} (h : b ∈ [e, it]) : b = e ∨ b = it := by simpa using h
theorem turn_enumT {P : Program} {w : World} {K : PySem.W.Frag} {elts : List Expr} {kk : Nat} {tpos : Pos} (a e it : Addr) :
    Turn P w K (.Tuple elts kk tpos) (IteT K a) [e, it] e (fun i h => (∃ old, IsEnum h e it ((i : Nat) : Int) old) ∧ h.IsTupleIter it a i ∧ e ≠ it) where
  mem := List.mem_cons_self ..
  obj := fun i h st b hb => by
    obtain ⟨⟨old, x1⟩, ⟨o, x2, _, x3⟩, _⟩ := st
    rcases two_mem hb with rfl | rfl
    · exact ⟨_, x1, fun _ z => nomatch z⟩
    · exact ⟨o, x2, fun _ z => by rw [x3] at z; cases z⟩
  keep := fun i h h' st k => ⟨st.1.imp fun _ y => k e (List.mem_cons_self ..) _ y, st.2.1.at fun o y => k it (by simp) o y, st.2.2⟩
  item := by
    intro X hP hw hK hc i pins s σ H E I hf st hg
    subst hP hw hK
    obtain ⟨⟨old, x1⟩, x2, ne⟩ := st
    obtain ⟨xs, x, sq, hx⟩ := hg
    obtain ⟨its, rv, pt, _⟩ := I.tuple sq
    obtain ⟨u, hu, ru⟩ := rv.get hx
    have pt' : s.heap.IsTuple a its.toArray := pt
    have na : a ≠ it := fun z => by
      subst z
      obtain ⟨o1, y1, c1, _⟩ := x2
      obtain ⟨o2, y2, c2, _⟩ := pt'
      rw [y1] at y2
      cases y2
      rw [c1] at c2
      simp at c2
    have le : e < s.heap.objs.size := Heap.lt_size x1
    have li : it < s.heap.objs.size := let ⟨_, y, _⟩ := x2; Heap.lt_size y
    have la : a < s.heap.objs.size := let ⟨_, y, _⟩ := pt'; Heap.lt_size y
    have nea : e ≠ a := fun z => by
      subst z
      obtain ⟨o2, y2, c2, _⟩ := pt'
      have y1 : s.heap.get? e = _ := x1
      rw [y1] at y2
      cases y2
      simp at c2
    have lt : i < its.toArray.size := by
      have := rv.length
      have := (List.getElem?_eq_some_iff.mp hx).1
      rw [List.size_toArray]; omega
    refine wpAny_pyNext_enum_itemD (Draws.tuple (A := X.A.in1) (show X.A.in1.handled = none from I.ok.hd hc) it a na its.toArray) x1 ⟨x2, pt'⟩ lt ne (by intro z; rcases two_mem z with z | z; exact ne z; exact nea z) fun y h1 tk hy out st1 hT _ hk => ?_
    have ey : y = u := by
      have : its.toArray[i]? = some u := by simpa using hu
      rw [this] at hy
      exact (Option.some.inj hy).symm
    subst ey
    refine ⟨_, rfl, wpAny_letOwnedTupleGo_enum (s := { s with heap := h1, toks := tk + 1 }) out fun h2 x3 sb => ?_⟩
    have hT2 := (sb.2 _ (Nat.ne_of_gt le)).trans hT
    have new : ObjOk X.prog X.w (upd H s.heap.objs.size (.tup [.int (i : Nat), x])) h2 s.heap.objs.size (.tup [.int (i : Nat), x]) :=
      ⟨by show 2 ≤ sizeLine; decide, [.int i tk, y], .cons ⟨_, rfl⟩ (.cons ru .nil), ⟨_, hT2, rfl, _, rfl⟩⟩
    have I2 : Inv X pins σ (upd H s.heap.objs.size (.tup [.int (i : Nat), x])) { s with heap := h2, toks := tk + 1 } :=
      I.turnedNew (ch := [e, it]) (fun b o nb q => (sb.2 b (fun z => nb (by simp [z]))).trans (hk b o (fun z => nb (by simp [z])) (fun z => nb (by simp [z])) q)) hf (Nat.le_refl _) new
    refine ⟨.ref s.heap.objs.size, _, I2, rfl, ⟨_, x, rfl, I.hok.fresh (Nat.le_refl _), rfl, fun ys hy => by rw [I.tuple_inj hy sq]; exact hx⟩, ⟨⟨y, ?_⟩, st1.1.at fun o q => (sb.2 it (Ne.symm ne)).trans q, ne⟩, fun b hb => ?_⟩
    · rw [Int.natCast_succ]; exact x3
    · have lb : b < s.heap.objs.size := (two_mem hb).elim (fun z => z ▸ le) (fun z => z ▸ li)
      rw [upd_ne (Nat.ne_of_lt lb)]
      exact (hf b hb).1
  done := by
    intro X hP hw hK hc i pins s σ H E I hf st hg
    subst hP hw hK
    obtain ⟨⟨old, x1⟩, x2, ne⟩ := st
    obtain ⟨xs, sq, lx⟩ := hg
    obtain ⟨its, rv, pt, _⟩ := I.tuple sq
    obtain ⟨f0, f1, f2, f3, f4, f5⟩ := hf it (by simp)
    have pt' : s.heap.IsTuple a its.toArray := pt
    have len := rv.length
    have hT : s.TypeIs (.ref e) "enumerate" := ⟨_, x1, rfl⟩
    unfold pyNext
    refine wpAny_bind (wpAny_attempt (wpAny_callSpecial?_slot (name := Str.ofString "__next__") hT F.slot_enumerate_next
      (wpAny_call_entry F.slot_enumerate_next hT F.entry_enumerate_next ?_ (F.args_enumerate_next_1 _))))
    show wpAny _ _ (field (.ref e) 2 >>= _) _ _ _
    refine wpAny_bind (wpAny_field x1 rfl (x := .ref it) rfl ?_)
    refine wpAny_bind (wpAny_nextOf_tuple_end (I.ok.hd hc) x2 pt' (by simp; omega) fun h' x he' hx' => ?_)
    obtain ⟨o, ho, c⟩ := hx'
    exact wpAny_bind (wpAny_isInstance (T := "StopIteration") (b := true) ⟨o, ho, c⟩ isSubtype_stop (wpAny_pure ⟨rfl, I.turned (t' := s.toks) (fun b u nb q => he' b u nb q) f0 f1 f3 f4 f5⟩))
  self := fun A i s Q E st h => let ⟨⟨_, x1⟩, _⟩ := st; wpAny_pyIter_enum x1 h
def iEnumT (K : PySem.W.Frag) (ta : TA) : TI := fun σ H R => ta σ H fun vs H1 => ∃ a xs, vs = [.ref a] ∧ SqT K H1 a xs ∧ R (IteT K a) H1
theorem pi_enumT {X : Cx} {arg : Expr} {ta : TA} {p q tp : Pos} {elts : List Expr} {kk : Nat} (hg : Gl X "enumerate") (hm : X.mg "enumerate" = none) (ha : PA X [arg] ta) (hs : starEach [arg] X.env = [(false, eval arg X.env)] := by rfl) :
    PI X (.Tuple elts kk tp) (.Call (.Name "enumerate" p) [arg] [] q) (iEnumT X.K ta) := by
  refine ⟨fun pins s σ H R I asked => Call_ (ld_blt I hg hm boot_enumerate (callWith_type1 (thn (ha.run q pins s σ H _ I asked) fun us s1 ⟨vs, H1, I1, rel, a, xs, evs, sq, go⟩ => ?_) hs rfl))⟩
  subst evs
  cases rel with
  | cons one rest =>
    cases rest
    cases one
    obtain ⟨its, rv, pt, _⟩ := I1.tuple sq
    have pt' : s1.heap.IsTuple a its.toArray := pt
    refine call_enumV (begins_tuple a its.toArray) pt' fun h' x1 x2 hk => wpAny_pyIter_enum x1 ?_
    refine ⟨s1.heap.objs.size + 1, [s1.heap.objs.size + 1, s1.heap.objs.size], _, _, H1, rfl, I1.kept (t' := s1.toks) hk, turn_enumT a (s1.heap.objs.size + 1) s1.heap.objs.size, ⟨⟨.none, x1⟩, ⟨_, x2, rfl, rfl⟩, Nat.succ_ne_self _⟩, fun b hb => ?_, go⟩
    have lb : s1.heap.objs.size ≤ b := by
      rcases two_mem hb with z | z
      · exact z ▸ Nat.le_succ _
      · exact z ▸ Nat.le_refl _
    exact I1.fpOk lb (I1.hok.fresh lb)
/-- enumerate of a list or of a tuple -/
theorem walk_enumT {K : PySem.W.Frag} {a : Addr} {xs : List V} : Walk (IteT K a) xs.length (fun H => SqT K H a xs) (YPair (fun i => some (.int (i : Nat))) (fun i => xs[i]?)) where
  goes i _ hi q := ⟨xs, xs[i], q, List.getElem?_eq_getElem hi⟩
  stops _ q := ⟨xs, q, Nat.le_refl _⟩
  yields i H v H' _ q y := let ⟨T, x, h1, h2, h3, h4⟩ := y; ⟨T, .int (i : Nat), x, h1, h2, h3, rfl, h4 xs q⟩
end OQ

/-! ### rows: lists or tuples -/
namespace OQ
open PySem L2 PySem.Spec PyProof.Rows
def SeqAt (K : PySem.W.Frag) (H : Hp) (a : Addr) (xs : List V) : Prop := SqL K H a xs ∨ SqT K H a xs
theorem sqT_same {K : PySem.W.Frag} {H H' : Hp} {a : Addr} {xs : List V} (h : SqT K H a xs) (e : Same H H') : SqT K H' a xs :=
  h.imp (fun h => h.imp (e _ _) fun ⟨o, h⟩ => ⟨o, e _ _ h⟩) id
theorem SeqAt.same {K : PySem.W.Frag} {H H' : Hp} {a : Addr} {xs : List V} (h : SeqAt K H a xs) (e : Same H H') : SeqAt K H' a xs :=
  h.imp e.seq fun h => sqT_same h e
theorem SeqAt.len {K : PySem.W.Frag} {H : Hp} {a : Addr} {xs : List V} {Q : VK} (h : SeqAt K H a xs) (k : Q (.int xs.length) H) : RD.rLen K [.ref a] H Q :=
  h.elim (fun h => RD.d_lenL h k) fun h => RD.d_lenT h k
/-- the one way of walking or the other -/
def iOr (u w : TI) : TI := fun σ H R => u σ H R ∨ w σ H R
theorem pi_or {X : Cx} {tg e : Expr} {u w : TI} (h : PI X tg e u) (k : PI X tg e w) : PI X tg e (iOr u w) :=
  ⟨fun pins s σ H R I z => z.elim (h.run pins s σ H R I) (k.run pins s σ H R I)⟩
theorem pi_seq {X : Cx} {tg e : Expr} {te : TE} (he : PE X e te) : PI X tg e (iOr (iList X.K te) (iTup X.K te)) := pi_or (pi_list he) (pi_tup he)
theorem d_seqVar {K : PySem.W.Frag} {σ : L2.St} {H : Hp} {R : It → Hp → Prop} {n : Nat} {a : Addr} {xs : List V} (e : σ[n]? = some (some (.ref a))) (h : SeqAt K H a xs)
    (k : ∀ J G, Walk J xs.length G (YAt xs) → (∀ H', Same H H' → G H') → R J H) : iOr (iList K (tVar n)) (iTup K (tVar n)) σ H R := by
  rcases h with h | h
  · exact .inl ⟨_, e, a, rfl, ⟨xs, h⟩, k _ _ walk_list fun H' s => s.seq h⟩
  · exact .inr ⟨_, e, a, rfl, ⟨xs, h⟩, k _ _ walk_tup fun H' s => sqT_same h s⟩
theorem d_enumVar {K : PySem.W.Frag} {σ : L2.St} {H : Hp} {R : It → Hp → Prop} {n : Nat} {a : Addr} {xs : List V} (e : σ[n]? = some (some (.ref a))) (h : SeqAt K H a xs)
    (k : ∀ J G, Walk J xs.length G (YPair (fun i => some (.int (i : Nat))) (fun i => xs[i]?)) → (∀ H', Same H H' → G H') → R J H) :
    iOr (iEnum K (tCons (tVar n) tNil)) (iEnumT K (tCons (tVar n) tNil)) σ H R := by
  rcases h with h | h
  · exact .inl ⟨_, e, a, xs, rfl, h, k _ _ walk_enum fun H' s => s.seq h⟩
  · exact .inr ⟨_, e, a, xs, rfl, h, k _ _ walk_enumT fun H' s => sqT_same h s⟩
theorem eqV_str {z y : Str} : eqV (.str z) (.str y) = (z == y) := rfl
theorem inV_Ss (w : WW.Wd) (ws : List WW.Wd) : inV (.str (WW.S w)) (WW.Ss ws) = decide (w ∈ ws) := by
  unfold inV WW.Ss
  rw [Bool.eq_iff_iff]
  simp only [List.any_map, List.any_eq_true, Function.comp, decide_eq_true_eq, eqV_str, beq_iff_eq, WW.S_inj]
  constructor
  · rintro ⟨x, m, rfl⟩; exact m
  · intro m; exact ⟨w, m, rfl⟩
theorem flat_Ss (ws : List WW.Wd) : (WW.Ss ws).all flatV = true := by
  unfold WW.Ss
  rw [List.all_map]
  exact List.all_eq_true.mpr fun _ _ => rfl
theorem d_inSs {K : PySem.W.Frag} {H : Hp} {Q : VK} {a : Addr} {w : WW.Wd} {ws : List WW.Wd} (h : SeqAt K H a (WW.Ss ws)) (k : Q (.bl (decide (w ∈ ws))) H) : rIn K false (.str (WW.S w)) (.ref a) H Q :=
  ⟨a, _, rfl, h, rfl, flat_Ss ws, by rw [inV_Ss]; exact k⟩
theorem d_notInSs {K : PySem.W.Frag} {H : Hp} {Q : VK} {a : Addr} {w : WW.Wd} {ws : List WW.Wd} (h : SeqAt K H a (WW.Ss ws)) (k : Q (.bl (!decide (w ∈ ws))) H) : rIn K true (.str (WW.S w)) (.ref a) H Q :=
  ⟨a, _, rfl, h, rfl, flat_Ss ws, by rw [inV_Ss]; exact k⟩
end OQ
namespace OQ
open PySem L2 PySem.Spec PyProof.Rows
theorem sortK {X : Cx} (K : PySem.W.Frag) (h : X.K = K := by rfl) : CallR X (.builtin "sorted") (rSortedI K) := h ▸ cr_sortedI
theorem lenK {X : Cx} (K : PySem.W.Frag) (h : X.K = K := by rfl) : CallR X (.builtin "len") (RD.rLen K) := h ▸ RD.c_len
theorem inK {X : Cx} (K : PySem.W.Frag) (h : X.K = K := by rfl) : OpR X (compareOp .In) (rIn K false) := h ▸ op_in_seq
theorem notInK {X : Cx} (K : PySem.W.Frag) (h : X.K = K := by rfl) : OpR X (compareOp .NotIn) (rIn K true) := h ▸ op_notIn_seq
end OQ

/-! ### any for, step by step -/
namespace RD
open PySem L2
theorem f_it {J : It} {n : Nat} {G : Hp → Prop} {Y : Nat → Hp → V → Hp → Prop} {σ : L2.St} {H : Hp} {g : TG} {tb : TS} {nx : L2.St → Hp → Prop} {rt : VK} (w : Walk J n G Y) (Pv : Nat → L2.St → Hp → Prop) (h0 : Pv 0 σ H) (hG : ∀ i σ H, i ≤ n → Pv i σ H → G H)
    (hs : ∀ i x σ H H', i < n → Pv i σ H → Y i H x H' → g x σ H' fun σ2 H2 => tb ⟨Pv (i + 1), rt, nx, Pv (i + 1)⟩ σ2 H2) (hd : ∀ σ H, Pv n σ H → nx σ H) :
    ∃ W : Nat → Nat → L2.St → Hp → Prop, (∃ m, W 0 m σ H) ∧ ∀ i m σ H, W i m σ H → (J.stop i H ∧ nx σ H) ∨ (J.go i H ∧ ∃ N : L2.St → Hp → Prop, (∀ σ' H', N σ' H' → ∃ m', m' < m ∧ W (i + 1) m' σ' H') ∧
      ∀ x H', J.yld i H x H' → g x σ H' fun σ2 H2 => tb ⟨N, rt, nx, N⟩ σ2 H2) := for_it (D := ⟨nx, rt, fun _ _ => False, fun _ _ => False⟩) w Pv h0 hG hs hd
/-- a pair taken apart by two names -/
theorem d_two {K : PySem.W.Frag} {n i j : Nat} {a : Addr} {x y : V} {σ : L2.St} {H : Hp} {R : L2.St → Hp → Prop} (en : n = 2) (e : SqT K H a [x, y]) (k : R ((σ.set i (some x)).set j (some y)) H) :
    gTup K n (gCons (gName i) (gCons (gName j) gNil)) (.ref a) σ H R := ⟨a, [x, y], rfl, e, en.symm, x, [y], rfl, y, [], rfl, rfl, k⟩
end RD
namespace OQ
open PySem L2
theorem d_tupSeq {K : PySem.W.Frag} {H : Hp} {a : Addr} {xs : List V} {Q : VK} (h : SeqAt K H a xs) (k : ∀ H' t, Same H H' → SqT K H' t xs → Q (.ref t) H') : rTupK K [.ref a] H Q := by
  rcases h with h | h
  · exact ⟨a, xs, rfl, .inl ⟨h, fun l hl => k _ l (fun b u e => by rw [upd_ne (ne_of_none e hl)]; exact e) (SqT.of upd_same)⟩⟩
  · exact ⟨a, xs, rfl, .inr ⟨h, k _ a (Same.refl _) h⟩⟩
end OQ
namespace RD
open PySem L2
theorem d_bm {K : PySem.W.Frag} {T : String} {r : V → List V → Hp → VK → Prop} {to : TE} {t : TA} {σ : L2.St} {H : Hp} {Q : VK} (h : to σ H fun x H1 => tyV K T x H1 ∧ t σ H1 fun xs H2 => r x xs H2 Q) : tBM K T r to t σ H Q := h
theorem tyL {K : PySem.W.Frag} {H : Hp} {p : Addr} {xs : List V} (e : H p = some (.lst xs)) : tyV K "list" (.ref p) H := .inl ⟨rfl, xs, SqL.of e⟩
theorem d_app {H : Hp} {Q : VK} {p : Addr} {xs : List V} {y : V} (e : H p = some (.lst xs)) (n : xs.length < sizeLine) (h : Q .non (upd H p (.lst (xs ++ [y])))) : rAppend (.ref p) [y] H Q := ⟨p, xs, y, rfl, rfl, e, n, h⟩
end RD
namespace WW
open PySem L2
def Ns (r : List Nat) : List V := r.map fun (j : Nat) => V.int j
theorem Ns_len (r : List Nat) : (Ns r).length = r.length := List.length_map ..
theorem Ns_app (r : List Nat) (j : Nat) : Ns r ++ [V.int j] = Ns (r ++ [j]) := by unfold Ns; rw [List.map_append]; rfl
theorem Ns_get {r : List Nat} {i : Nat} {x : V} (h : (Ns r)[i]? = some x) : ∃ j, r[i]? = some j ∧ x = .int (j : Nat) := by
  unfold Ns at h
  rw [List.getElem?_map] at h
  cases e : r[i]? with
  | none => rw [e] at h; cases h
  | some w => rw [e] at h; cases h; exact ⟨w, rfl, rfl⟩
end WW
namespace RD
open PySem L2
theorem d_dput {td ty tv : TE} {σ : L2.St} {H : Hp} {nx bk ct : L2.St → Hp → Prop} {rt : VK} (h : tv σ H fun v H1 => td σ H1 fun x H2 => ty σ H2 fun y H3 => ∃ a H4, x = .ref a ∧ DPut H3 a y v H4 ∧ nx σ H4) : sDPut td ty tv ⟨nx, rt, bk, ct⟩ σ H := h
theorem d_dget {td ty : TE} {σ : L2.St} {H : Hp} {Q : VK} (h : td σ H fun x H1 => ty σ H1 fun y H2 => ∃ a v, x = .ref a ∧ DGet H2 a y (some v) ∧ Q v H2) : tDGet td ty σ H Q := h
end RD
namespace RD
open PySem L2
theorem d_din {ty td : TE} {σ : L2.St} {H : Hp} {Q : VK} (h : ty σ H fun y H1 => td σ H1 fun x H2 => ∃ a o, x = .ref a ∧ DGet H2 a y o ∧ Q (.bl o.isSome) H2) : tDIn ty td σ H Q := h
theorem d_dnotin {ty td : TE} {σ : L2.St} {H : Hp} {Q : VK} (h : ty σ H fun y H1 => td σ H1 fun x H2 => ∃ a o, x = .ref a ∧ DGet H2 a y o ∧ Q (.bl (!o.isSome)) H2) : tDNotIn ty td σ H Q := h
end RD
namespace RD
open PySem L2
theorem d_break {nx bk ct : L2.St → Hp → Prop} {rt : VK} {σ : L2.St} {H : Hp} (h : bk σ H) : tBreak ⟨nx, rt, bk, ct⟩ σ H := h
end RD
namespace WW
open PySem L2
theorem Ss_app (ws : List Wd) (w : Wd) : Ss ws ++ [V.str (S w)] = Ss (ws ++ [w]) := by unfold Ss; rw [List.map_append]; rfl
theorem nodup_snoc {α : Type} {l : List α} {x : α} (h : l.Nodup) (n : x ∉ l) : (l ++ [x]).Nodup := by
  rw [List.nodup_append]
  refine ⟨h, by simp, fun a ha b hb q => ?_⟩
  rw [List.mem_singleton] at hb
  subst hb; subst q
  exact n ha
end WW
namespace RD
open PySem L2
theorem d_lstRg {ta : TE} {σ : L2.St} {H : Hp} {Q : VK} (h : ta σ H fun x H1 => ∃ n, x = .int n ∧ RgOk 0 n ∧ ∀ q, H1 q = none → Q (.ref q) (upd H1 q (.lst (rgV 0 n)))) : tLstRg (tRg1 ta) σ H Q := h
end RD

/-! ### breadth first -/
namespace WW
open PySem L2
def Dk (ps : List (Nat × Nat)) : List (Key × V) := ps.map fun p => (Sum.inl (p.1 : Int), V.int p.2)
def look (ps : List (Nat × Nat)) (v : Nat) : Option Nat := (ps.find? fun p => p.1 == v).map (·.2)
theorem valV_Dk (ps : List (Nat × Nat)) (v : Nat) : valV (Dk ps) (Sum.inl (v : Int)) = (look ps v).map fun (d : Nat) => V.int d := by
  induction ps with
  | nil => rfl
  | cons p ps ih =>
    unfold Dk look at *
    rw [List.map_cons, List.find?_cons]
    by_cases c : p.1 = v
    · rw [valV_pos (by rw [c])]
      simp [c]
    · rw [valV_neg (fun z => c (by have := Sum.inl.inj z; omega)), ih]
      have e : (p.1 == v) = false := by simpa using c
      rw [e]
theorem look_none {ps : List (Nat × Nat)} {v : Nat} : look ps v = none ↔ v ∉ ps.map (·.1) := by
  unfold look
  rw [Option.map_eq_none_iff, List.find?_eq_none, List.mem_map]
  constructor
  · rintro h ⟨p, m, e⟩
    exact h p m (by simpa using e)
  · intro h p m e
    exact h ⟨p, m, by simpa using e⟩
theorem look_snoc {ps : List (Nat × Nat)} {v r : Nat} (h : look ps v = none) (w : Nat) : look (ps ++ [(v, r)]) w = if w = v then some r else look ps w := by
  by_cases c : w = v
  · subst c
    rw [if_pos rfl]
    unfold look at *
    rw [List.find?_append]
    rw [Option.map_eq_none_iff] at h
    simp [h]
  · rw [if_neg c]
    unfold look
    rw [List.find?_append]
    have : ((v, r) :: []).find? (fun p : Nat × Nat => p.1 == w) = none := by simp; exact fun z => c z.symm
    rw [this]
    simp
theorem Dk_put {ps : List (Nat × Nat)} {v r : Nat} (h : look ps v = none) : putK (Dk ps) (Sum.inl (v : Int)) (.int r) = Dk (ps ++ [(v, r)]) := by
  rw [putK_new]
  · unfold Dk; rw [List.map_append]; rfl
  · rw [valV_Dk, h]; rfl
/-- what is found while the ring of those r steps away is gone through: Sn was seen -/
structure Bf (E : Nat → Nat → Prop) (g n r : Nat) (ps : List (Nat × Nat)) (far : List Nat) (Sn : Nat → Prop) : Prop where
  st : ∀ v d, look ps v = some d ↔ (Ds E g d v ∧ d ≤ r) ∨ (d = r + 1 ∧ Ds E g (r + 1) v ∧ Sn v)
  far : ∀ v, v ∈ far ↔ Ds E g (r + 1) v ∧ Sn v
  nd : (ps.map (·.1)).Nodup
  lt : ∀ p ∈ ps, p.1 < n
theorem Bf.iff {E : Nat → Nat → Prop} {g n r : Nat} {ps : List (Nat × Nat)} {far : List Nat} {Sn Sm : Nat → Prop} (h : Bf E g n r ps far Sn) (e : ∀ v, Sm v ↔ Sn v) : Bf E g n r ps far Sm :=
  ⟨fun v d => by rw [h.st, e], fun v => by rw [h.far, e], h.nd, h.lt⟩
theorem Bf.len {E : Nat → Nat → Prop} {g n r : Nat} {ps : List (Nat × Nat)} {far : List Nat} {Sn : Nat → Prop} (h : Bf E g n r ps far Sn) : ps.length ≤ n := by
  have := nodup_len n _ h.nd (fun x m => by obtain ⟨p, mp, rfl⟩ := List.mem_map.mp m; exact h.lt p mp)
  rwa [List.length_map] at this
theorem Bf.here {E : Nat → Nat → Prop} {g n r : Nat} {ps : List (Nat × Nat)} {far : List Nat} {Sn : Nat → Prop} (h : Bf E g n r ps far Sn) {u : Nat} (hu : Ds E g r u) : look ps u = some r := (h.st u r).mpr (.inl ⟨hu, Nat.le_refl _⟩)
theorem Bf.old {E : Nat → Nat → Prop} {g n r : Nat} {ps : List (Nat × Nat)} {far : List Nat} {Sn : Nat → Prop} (h : Bf E g n r ps far Sn) {v : Nat} (hv : look ps v ≠ none) : Bf E g n r ps far (fun w => Sn w ∨ w = v) := by
  have key : Ds E g (r + 1) v → Sn v := fun k => by
    cases e : look ps v with
    | none => exact absurd e hv
    | some d =>
      rcases (h.st v d).mp e with ⟨k2, le⟩ | ⟨_, _, s⟩
      · have := k.uniq k2; omega
      · exact s
  have same : ∀ w, (Ds E g (r + 1) w ∧ (Sn w ∨ w = v)) ↔ (Ds E g (r + 1) w ∧ Sn w) := fun w => by
    constructor
    · rintro ⟨a, b | rfl⟩
      · exact ⟨a, b⟩
      · exact ⟨a, key a⟩
    · rintro ⟨a, b⟩; exact ⟨a, .inl b⟩
  exact ⟨fun w d => by rw [h.st, same], fun w => by rw [h.far, same], h.nd, h.lt⟩
theorem Bf.new {E : Nat → Nat → Prop} {g n r : Nat} {ps : List (Nat × Nat)} {far : List Nat} {Sn : Nat → Prop} (h : Bf E g n r ps far Sn) {u v : Nat} (hu : Ds E g r u) (e : E u v) (hn : v < n) (hv : look ps v = none) : Bf E g n r (ps ++ [(v, r + 1)]) (far ++ [v]) (fun w => Sn w ∨ w = v) := by
  have dv : Ds E g (r + 1) v := by
    rcases hu.step e with k | ⟨s, hs, k⟩
    · exact k
    · have := (h.st v s).mpr (.inl ⟨k, hs⟩)
      rw [hv] at this; cases this
  refine ⟨fun w d => ?_, fun w => ?_, ?_, ?_⟩
  · rw [look_snoc hv]
    by_cases c : w = v
    · subst c
      rw [if_pos rfl]
      constructor
      · intro z; cases z; exact .inr ⟨rfl, dv, .inr rfl⟩
      · rintro (⟨k, le⟩ | ⟨rfl, _, _⟩)
        · have := k.uniq dv; omega
        · rfl
    · rw [if_neg c, h.st]
      constructor
      · rintro (k | ⟨a, b, s⟩)
        · exact .inl k
        · exact .inr ⟨a, b, .inl s⟩
      · rintro (k | ⟨a, b, s | s⟩)
        · exact .inl k
        · exact .inr ⟨a, b, s⟩
        · exact (c s).elim
  · rw [List.mem_append, h.far, List.mem_singleton]
    constructor
    · rintro (⟨a, s⟩ | rfl)
      · exact ⟨a, .inl s⟩
      · exact ⟨dv, .inr rfl⟩
    · rintro ⟨a, s | s⟩
      · exact .inl ⟨a, s⟩
      · exact .inr s
  · rw [List.map_append, List.nodup_append]
    refine ⟨h.nd, by simp, fun a ha b hb q => ?_⟩
    simp at hb
    subst hb; subst q
    exact (look_none.mp hv) ha
  · intro p m
    rcases List.mem_append.mp m with m | m
    · exact h.lt p m
    · rw [List.mem_singleton.mp m]; exact hn
/-- between the rounds -/
structure Bo (E : Nat → Nat → Prop) (g n r : Nat) (ps : List (Nat × Nat)) (ring : List Nat) : Prop where
  st : ∀ v d, look ps v = some d ↔ Ds E g d v ∧ d ≤ r
  ring : ∀ v, v ∈ ring ↔ Ds E g r v
  nd : (ps.map (·.1)).Nodup
  lt : ∀ p ∈ ps, p.1 < n
theorem Bo.zero {E : Nat → Nat → Prop} {g n : Nat} (hg : g < n) : Bo E g n 0 [(g, 0)] [g] := by
  have z : ∀ v, Ds E g 0 v ↔ v = g := fun v => ⟨fun h => h.1, fun h => ⟨h, fun _ k => absurd k (Nat.not_lt_zero _)⟩⟩
  refine ⟨fun v d => ?_, fun v => by rw [z, List.mem_singleton], by simp, by simp; exact hg⟩
  unfold look
  by_cases c : g = v
  · subst c
    simp
    constructor
    · rintro rfl; exact ⟨(z _).mpr rfl, rfl⟩
    · rintro ⟨_, h⟩; exact h.symm
  · simp [c]
    intro k
    intro q
    subst q
    exact c ((z _).mp k).symm
theorem Bo.begin {E : Nat → Nat → Prop} {g n r : Nat} {ps : List (Nat × Nat)} {ring : List Nat} (h : Bo E g n r ps ring) : Bf E g n r ps [] (fun _ => False) :=
  ⟨fun v d => by rw [h.st]; simp, fun v => by simp, h.nd, h.lt⟩
theorem Bf.done {E : Nat → Nat → Prop} {g n r : Nat} {ps : List (Nat × Nat)} {ring far : List Nat} {Sn : Nat → Prop} (h : Bf E g n r ps far Sn) (hr : ∀ v, v ∈ ring ↔ Ds E g r v) (hs : ∀ u v, u ∈ ring → E u v → Sn v) : Bo E g n (r + 1) ps far := by
  have se : ∀ v, Ds E g (r + 1) v → Sn v := fun v k => by
    obtain ⟨u, ku, e⟩ := k.back
    exact hs u v ((hr u).mpr ku) e
  refine ⟨fun v d => ?_, fun v => ?_, h.nd, h.lt⟩
  · rw [h.st]
    constructor
    · rintro (⟨k, le⟩ | ⟨rfl, k, _⟩)
      · exact ⟨k, by omega⟩
      · exact ⟨k, Nat.le_refl _⟩
    · rintro ⟨k, le⟩
      by_cases c : d ≤ r
      · exact .inl ⟨k, c⟩
      · have : d = r + 1 := by omega
        subst this
        exact .inr ⟨rfl, k, se v k⟩
  · rw [h.far]
    exact ⟨fun k => k.1, fun k => ⟨k, se v k⟩⟩
theorem Bo.end_ {E : Nat → Nat → Prop} {g n r : Nat} {ps : List (Nat × Nat)} (h : Bo E g n r ps []) (v d : Nat) : look ps v = some d ↔ Ds E g d v := by
  rw [h.st]
  refine ⟨fun k => k.1, fun k => ⟨k, ?_⟩⟩
  by_cases c : d ≤ r
  · exact c
  · obtain ⟨u, ku⟩ := k.down r (by omega)
    exact nomatch (h.ring u).mpr ku
end WW

/-! ### the law's marks -/
namespace WW
open PySem L2
def Ms (n : Nat) (m : Nat → Int) : List V := (List.range n).map fun i => V.int (m i)
theorem Ms_len (n : Nat) (m : Nat → Int) : (Ms n m).length = n := by unfold Ms; rw [List.length_map, List.length_range]
theorem Ms_get {n i : Nat} (m : Nat → Int) (h : i < n) : (Ms n m)[i]? = some (.int (m i)) := by unfold Ms; rw [List.getElem?_map, List.getElem?_range h]; rfl
theorem Ms_set {n i : Nat} (m : Nat → Int) (v : Int) : (Ms n m).set i (.int v) = Ms n (fun j => if j = i then v else m j) := by
  apply List.ext_getElem?
  intro j
  by_cases hj : j < n
  · rw [Ms_get _ hj, List.getElem?_set]
    by_cases c : i = j
    · subst c
      rw [if_pos rfl, Ms_len, if_pos hj, if_pos rfl]
    · rw [if_neg c, if_neg (fun z => c z.symm), Ms_get _ hj]
  · rw [List.getElem?_eq_none (by rw [List.length_set, Ms_len]; omega), List.getElem?_eq_none (by rw [Ms_len]; omega)]
theorem rgV_Ms (n : Nat) : rgV 0 (n : Int) = Ms n (fun i => (i : Int)) := by
  unfold rgV Ms
  rw [show ((n : Int) - 0).toNat = n from by omega]
  refine List.map_congr_left fun i _ => ?_
  rw [Int.zero_add]
/-- the links ahead of spot sp of the watch kk -/
def MkF (ws : List Wd) (W : Wd) (kk sp : Nat) (i j : Nat) : Prop := ∃ l k w, ws[k]? = some w ∧ Hit W l w ∧ (k < kk ∨ (k = kk ∧ l < sp)) ∧ ((i = l ∧ j = l + w.length) ∨ (j = l ∧ i = l + w.length))
theorem MkF.zero {ws : List Wd} {W : Wd} {i j : Nat} : ¬ MkF ws W 0 0 i j := by
  rintro ⟨l, k, w, _, _, c, _⟩
  omega
theorem MkF.next {ws : List Wd} {W w : Wd} {kk sp i j : Nat} (hk : ws[kk]? = some w) (n : w ≠ []) (hs : W.length < sp + w.length) : MkF ws W kk sp i j ↔ MkF ws W (kk + 1) 0 i j := by
  refine ⟨fun ⟨l, k, v, h1, h2, c, h3⟩ => ⟨l, k, v, h1, h2, by omega, h3⟩, fun ⟨l, k, v, h1, h2, c, h3⟩ => ⟨l, k, v, h1, h2, ?_, h3⟩⟩
  by_cases e : k = kk
  · subst e
    rw [hk] at h1; cases h1
    have := h2.bound n
    omega
  · omega
theorem MkF.all {ws : List Wd} {W : Wd} {i j : Nat} : MkF ws W ws.length 0 i j ↔ Link ws W i j := by
  constructor
  · rintro ⟨l, k, w, h1, h2, c, h3⟩
    refine ⟨w, List.mem_of_getElem? h1, ?_⟩
    rcases h3 with ⟨rfl, e⟩ | ⟨rfl, e⟩
    · exact .inl ⟨h2, e⟩
    · exact .inr ⟨h2, e⟩
  · rintro ⟨w, m, h⟩
    obtain ⟨k, hk⟩ := List.getElem?_of_mem m
    have := (List.getElem?_eq_some_iff.mp hk).1
    rcases h with ⟨h, e⟩ | ⟨h, e⟩
    · exact ⟨i, k, w, hk, h, by omega, .inl ⟨rfl, e⟩⟩
    · exact ⟨j, k, w, hk, h, by omega, .inr ⟨rfl, e⟩⟩
theorem MkF.miss {ws : List Wd} {W : Wd} {kk sp : Nat} {w : Wd} (hk : ws[kk]? = some w) (h : ¬ Hit W sp w) (i j : Nat) : MkF ws W kk (sp + 1) i j ↔ MkF ws W kk sp i j := by
  refine ⟨fun ⟨l, k, v, h1, h2, c, h3⟩ => ⟨l, k, v, h1, h2, ?_, h3⟩, fun ⟨l, k, v, h1, h2, c, h3⟩ => ⟨l, k, v, h1, h2, by omega, h3⟩⟩
  rcases c with c | ⟨rfl, c⟩
  · exact .inl c
  · by_cases e : l = sp
    · subst e
      rw [hk] at h1
      cases h1
      exact (h h2).elim
    · exact .inr ⟨rfl, by omega⟩
theorem MkF.hit {ws : List Wd} {W : Wd} {kk sp : Nat} {w : Wd} (hk : ws[kk]? = some w) (h : Hit W sp w) (i j : Nat) : MkF ws W kk (sp + 1) i j ↔ addE (MkF ws W kk sp) sp (sp + w.length) i j := by
  constructor
  · rintro ⟨l, k, v, h1, h2, c, h3⟩
    by_cases e : l = sp ∧ k = kk
    · obtain ⟨rfl, rfl⟩ := e
      rw [hk] at h1
      cases h1
      rcases h3 with ⟨rfl, rfl⟩ | ⟨rfl, rfl⟩
      · exact .inr (.inl ⟨rfl, rfl⟩)
      · exact .inr (.inr ⟨rfl, rfl⟩)
    · exact .inl ⟨l, k, v, h1, h2, by omega, h3⟩
  · rintro (⟨l, k, v, h1, h2, c, h3⟩ | h3)
    · exact ⟨l, k, v, h1, h2, by omega, h3⟩
    · refine ⟨sp, kk, w, hk, h, by omega, ?_⟩
      rcases h3 with ⟨rfl, rfl⟩ | ⟨rfl, rfl⟩
      · exact .inl ⟨rfl, rfl⟩
      · exact .inr ⟨rfl, rfl⟩
theorem Cls.iff {m : Nat → Int} {n : Nat} {F G : Nat → Nat → Prop} (h : Cls m n F) (e : ∀ i j, G i j ↔ F i j) : Cls m n G :=
  ⟨fun i j hi hj z => (h.snd i j hi hj z).mono fun u v k => (e u v).mpr k, fun i j z => h.cmp i j ((e i j).mp z)⟩
theorem Cls.zero {ws : List Wd} {W : Wd} {n : Nat} : Cls (fun i => (i : Int)) n (MkF ws W 0 0) :=
  ⟨fun i j _ _ z => by have : i = j := by omega
                       subst this; exact .refl, fun i j z => (MkF.zero z).elim⟩
/-- marks of the first at spots set anew -/
def relabTo (m : Nat → Int) (a b at_ : Nat) : Nat → Int := fun i => if i < at_ ∧ m i = m b then m a else m i
theorem relabTo_zero (m : Nat → Int) (a b : Nat) : relabTo m a b 0 = m := by funext i; unfold relabTo; rw [if_neg (by omega)]
theorem relabTo_a {m : Nat → Int} {a b t : Nat} : relabTo m a b t a = m a := by unfold relabTo; split <;> rfl
theorem relabTo_at {m : Nat → Int} {a b t : Nat} : relabTo m a b t t = m t := by unfold relabTo; rw [if_neg (by omega)]
theorem relabTo_hit {m : Nat → Int} {a b t : Nat} (h : m t = m b) : (fun j => if j = t then m a else relabTo m a b t j) = relabTo m a b (t + 1) := by
  funext j
  unfold relabTo
  by_cases c : j = t
  · subst c; rw [if_pos rfl, if_pos ⟨by omega, h⟩]
  · rw [if_neg c]
    by_cases d : j < t ∧ m j = m b
    · rw [if_pos d, if_pos ⟨by omega, d.2⟩]
    · rw [if_neg d, if_neg (fun z => d ⟨by omega, z.2⟩)]
theorem relabTo_miss {m : Nat → Int} {a b t : Nat} (h : m t ≠ m b) : relabTo m a b (t + 1) = relabTo m a b t := by
  funext j
  unfold relabTo
  by_cases d : j < t ∧ m j = m b
  · rw [if_pos d, if_pos ⟨by omega, d.2⟩]
  · rw [if_neg d, if_neg (fun z => d ⟨by
      rcases Nat.lt_or_ge j t with q | q
      · exact q
      · have : j = t := by omega
        subst this; exact (h z.2).elim, z.2⟩)]
theorem Ms_congr {n : Nat} {m m' : Nat → Int} (h : ∀ i, i < n → m i = m' i) : Ms n m = Ms n m' := by
  unfold Ms
  exact List.map_congr_left fun i hi => by rw [h i (List.mem_range.mp hi)]
end WW

/-! ### rows of texts, compared -/
namespace OQ
open PySem L2 PySem.Spec PyProof.Rows
def Td (ls : List WW.Wd) : List PyData := ls.map fun l => .str (WW.S l)
theorem Td_all {K : PySem.W.Frag} {H : Hp} : ∀ ls : List WW.Wd, DpAll K H (WW.Ss ls) (Td ls)
  | [] => .nil
  | l :: ls => .cons (.str _) (Td_all ls)
theorem Td_lay : ∀ ls : List WW.Wd, (∀ l ∈ ls, WW.Lw l) → PyData.canLayAll0 (Td ls) = true ∧ PyData.depthAll (Td ls) = 0
  | [], _ => ⟨by rw [Td, List.map_nil, PyData.canLayAll0], by rw [Td, List.map_nil, PyData.depthAll]⟩
  | l :: ls, h => by
    obtain ⟨h1, h2⟩ := Td_lay ls fun x m => h x (List.mem_cons_of_mem _ m)
    have hl := h l (List.mem_cons_self ..)
    have e : Td (l :: ls) = .str (WW.S l) :: Td ls := rfl
    rw [e, PyData.canLayAll0, PyData.canLay0, PyData.depthAll, PyData.depth, h1, h2]
    refine ⟨?_, rfl⟩
    rw [Bool.and_true]
    show (WW.S l).cps.all (· < 0x110000) = true
    have : ∀ c ∈ l, c < 0x110000 := fun c m => by have := hl c m; unfold WW.Lt at this; omega
    simpa [WW.S] using this
theorem Td_shaped (ls : List WW.Wd) (h : ∀ l ∈ ls, WW.Lw l) : SeqAt.shaped (.list (Td ls)) = true ∧ SeqAt.shaped (.tuple (Td ls)) = true := by
  obtain ⟨h1, h2⟩ := Td_lay ls h
  constructor <;> (unfold SeqAt.shaped; rw [PyData.canLay0, PyData.depth, h1, h2]; rfl)
theorem Td_eqv : ∀ ls ms : List WW.Wd, PyData.eqvAll (Td ls) (Td ms) = decide (ls = ms)
  | [], [] => by rw [Td, List.map_nil, PyData.eqvAll]; rfl
  | [], m :: ms => by rw [Td, Td, List.map_nil, List.map_cons, PyData.eqvAll]; rfl
  | l :: ls, [] => by rw [Td, Td, List.map_nil, List.map_cons, PyData.eqvAll]; rfl
  | l :: ls, m :: ms => by
    have e1 : Td (l :: ls) = .str (WW.S l) :: Td ls := rfl
    have e2 : Td (m :: ms) = .str (WW.S m) :: Td ms := rfl
    rw [e1, e2, PyData.eqvAll, PyData.eqv, Td_eqv ls ms, Bool.eq_iff_iff]
    simp only [Bool.and_eq_true, beq_iff_eq, decide_eq_true_eq, List.cons.injEq, WW.S_inj]
theorem d_neSs {K : PySem.W.Frag} {H : Hp} {Q : VK} {a b : Addr} {ls ms : List WW.Wd} (ha : SqL K H a (WW.Ss ls)) (hb : SqL K H b (WW.Ss ms)) (la : ∀ l ∈ ls, WW.Lw l) (lb : ∀ l ∈ ms, WW.Lw l) (k : Q (.bl (!decide (ls = ms))) H) : rNeD K (.ref a) (.ref b) H Q :=
  ⟨_, _, .lst ha (Td_all ls), .lst hb (Td_all ms), (Td_shaped ls la).1, (Td_shaped ms lb).1, by rw [PyData.eqv, Td_eqv]; exact k⟩
theorem d_eqSs {K : PySem.W.Frag} {H : Hp} {Q : VK} {a b : Addr} {ls ms : List WW.Wd} (ha : SqL K H a (WW.Ss ls)) (hb : SqL K H b (WW.Ss ms)) (la : ∀ l ∈ ls, WW.Lw l) (lb : ∀ l ∈ ms, WW.Lw l) (k : Q (.bl (decide (ls = ms))) H) : rEqD K (.ref a) (.ref b) H Q :=
  ⟨_, _, .lst ha (Td_all ls), .lst hb (Td_all ms), (Td_shaped ls la).1, (Td_shaped ms lb).1, by rw [PyData.eqv, Td_eqv]; exact k⟩
theorem d_eqSsT {K : PySem.W.Frag} {H : Hp} {Q : VK} {a b : Addr} {ls ms : List WW.Wd} (ha : SqT K H a (WW.Ss ls)) (hb : SqT K H b (WW.Ss ms)) (la : ∀ l ∈ ls, WW.Lw l) (lb : ∀ l ∈ ms, WW.Lw l) (k : Q (.bl (decide (ls = ms))) H) : rEqD K (.ref a) (.ref b) H Q :=
  ⟨_, _, .tup ha (Td_all ls), .tup hb (Td_all ms), (Td_shaped ls la).2, (Td_shaped ms lb).2, by rw [PyData.eqv, Td_eqv]; exact k⟩
theorem d_neSsT {K : PySem.W.Frag} {H : Hp} {Q : VK} {a b : Addr} {ls ms : List WW.Wd} (ha : SqT K H a (WW.Ss ls)) (hb : SqT K H b (WW.Ss ms)) (la : ∀ l ∈ ls, WW.Lw l) (lb : ∀ l ∈ ms, WW.Lw l) (k : Q (.bl (!decide (ls = ms))) H) : rNeD K (.ref a) (.ref b) H Q :=
  ⟨_, _, .tup ha (Td_all ls), .tup hb (Td_all ms), (Td_shaped ls la).2, (Td_shaped ms lb).2, by rw [PyData.eqv, Td_eqv]; exact k⟩
end OQ

/-! ### a piece found in a word -/
namespace WW
open PySem L2
theorem Hit.of_sub {W w : Wd} {i : Nat} : Builtin.Str.subAt (S W) (S w) i = true ↔ Hit W i w := by
  rw [StrLaws.subAt_eq, beq_iff_eq, S_cps, S_cps, S_len]
  unfold Hit piece
  rw [Nat.add_sub_cancel_left]
theorem occ_full (s sub : Str) (hi : Nat) : ∀ (l : List Nat) (a f : Nat), (forIn l (#[a], f) (StrLaws.occBody s sub hi 1)).run.fst = #[a]
  | [], a, f => rfl
  | x :: l, a, f => by
    rw [List.forIn_cons]
    unfold StrLaws.occBody
    rw [if_neg (by intro h; have := h.1.1.1; simp at this)]
    exact occ_full s sub hi l a f
theorem occ_first (s sub : Str) (hi : Nat) : ∀ (n lo free : Nat), free ≤ lo →
    (∃ i, lo ≤ i ∧ i < lo + n ∧ i + sub.length ≤ hi ∧ Builtin.Str.subAt s sub i = true ∧ (∀ j, lo ≤ j → j < i → ¬ (j + sub.length ≤ hi ∧ Builtin.Str.subAt s sub j = true)) ∧ (forIn (List.range' lo n) ((#[] : Array Nat), free) (StrLaws.occBody s sub hi 1)).run.fst = #[i]) ∨
    ((∀ j, lo ≤ j → j < lo + n → ¬ (j + sub.length ≤ hi ∧ Builtin.Str.subAt s sub j = true)) ∧ (forIn (List.range' lo n) ((#[] : Array Nat), free) (StrLaws.occBody s sub hi 1)).run.fst = #[])
  | 0, lo, free, _ => .inr ⟨fun j h1 h2 => by omega, rfl⟩
  | n + 1, lo, free, hf => by
    rw [List.range'_succ, List.forIn_cons]
    by_cases hc : lo + sub.length ≤ hi ∧ Builtin.Str.subAt s sub lo = true
    · refine .inl ⟨lo, Nat.le_refl _, by omega, hc.1, hc.2, fun j h1 h2 => by omega, ?_⟩
      have c1 : (((#[] : Array Nat), free).fst.size < 1 ∧ ((#[] : Array Nat), free).snd ≤ lo) ∧ lo + sub.length ≤ hi := ⟨⟨by simp, hf⟩, hc.1⟩
      have e : StrLaws.occBody s sub hi 1 lo ((#[] : Array Nat), free) = pure (ForInStep.yield (#[lo], lo + sub.length)) := by
        unfold StrLaws.occBody
        rw [if_pos ⟨c1, hc.2⟩]
        rfl
      rw [e]
      exact occ_full s sub hi _ lo _
    · have e : StrLaws.occBody s sub hi 1 lo ((#[] : Array Nat), free) = pure (ForInStep.yield ((#[] : Array Nat), free)) := by
        unfold StrLaws.occBody
        rw [if_neg (fun h => hc ⟨h.1.2, h.2⟩)]
      rw [e]
      rcases occ_first s sub hi n (lo + 1) free (by omega) with ⟨i, h1, h2, h3, h4, h5, h6⟩ | ⟨h1, h2⟩
      · refine .inl ⟨i, by omega, by omega, h3, h4, fun j j1 j2 => ?_, h6⟩
        by_cases c : j = lo
        · subst c; exact hc
        · exact h5 j (by omega) j2
      · refine .inr ⟨fun j j1 j2 => ?_, h2⟩
        by_cases c : j = lo
        · subst c; exact hc
        · exact h1 j (by omega) (by omega)
/-- what a search for w from spot lo on tells: the next spot where it stands, or -1 -/
def Nx (W w : Wd) (lo : Nat) (v : Int) : Prop := (∃ i : Nat, v = i ∧ lo ≤ i ∧ Hit W i w ∧ ∀ j, lo ≤ j → j < i → ¬ Hit W j w) ∨ (v = -1 ∧ ∀ j, lo ≤ j → ¬ Hit W j w)
theorem occ_nx {W w : Wd} {lo : Nat} (n : w ≠ []) : Nx W w lo (match Builtin.Str.occurrences (S W) (S w) lo (S W).length 1 with | i :: _ => (i : Int) | [] => -1) := by
  rw [StrLaws.occ_eq]
  rcases occ_first (S W) (S w) (S W).length ((S W).length + 1 - lo) lo lo (Nat.le_refl _) with ⟨i, h1, h2, h3, h4, h5, h6⟩ | ⟨h1, h2⟩
  · rw [h6]
    refine .inl ⟨i, rfl, h1, Hit.of_sub.mp h4, fun j j1 j2 z => h5 j j1 j2 ⟨?_, Hit.of_sub.mpr z⟩⟩
    rw [S_len, S_len]; exact z.bound n
  · rw [h2]
    refine .inr ⟨rfl, fun j j1 z => ?_⟩
    have b := z.bound n
    have l0 : 0 < w.length := List.length_pos_iff.mpr n
    refine h1 j j1 ?_ ⟨by rw [S_len, S_len]; exact b, Hit.of_sub.mpr z⟩
    rw [S_len]; omega
theorem find_nx {W w : Wd} (n : w ≠ []) : Nx W w 0 (Txt.find (S W) (S w)) := occ_nx n
theorem find3_nx {W w : Wd} {lo : Nat} {i : Int} (n : w ≠ []) (e : i = lo) : Nx W w lo (Txt.find3 (S W) (S w) i) := by
  subst e
  have e : PySem.fromIndex (S W).length (lo : Int) = lo := by
    unfold PySem.fromIndex
    split <;> omega
  have h := occ_nx (W := W) (w := w) (lo := lo) n
  unfold Txt.find3
  rw [e]
  exact h
/-! the links, as they are found piece by piece -/
/-- those found ahead of spot low with the piece kk -/
def LkG (ws : List Wd) (W : Wd) (kk low : Nat) (i j : Nat) : Prop := ∃ l k w, ws[k]? = some w ∧ Hit W l w ∧ (k < kk ∨ (k = kk ∧ l < low)) ∧ ((i = l ∧ j = l + w.length) ∨ (j = l ∧ i = l + w.length))
theorem LkG.zero {ws : List Wd} {W : Wd} {i j : Nat} : ¬ LkG ws W 0 0 i j := by
  rintro ⟨l, k, w, _, _, c, _⟩
  omega
theorem LkG.skip {ws : List Wd} {W w : Wd} {kk lo hi : Nat} (hk : ws[kk]? = some w) (le : lo ≤ hi) (n : ∀ j, lo ≤ j → j < hi → ¬ Hit W j w) (i j : Nat) : LkG ws W kk hi i j ↔ LkG ws W kk lo i j := by
  refine ⟨fun ⟨l, k, v, h1, h2, c, h3⟩ => ⟨l, k, v, h1, h2, ?_, h3⟩, fun ⟨l, k, v, h1, h2, c, h3⟩ => ⟨l, k, v, h1, h2, by omega, h3⟩⟩
  rcases c with c | ⟨rfl, c⟩
  · exact .inl c
  · rw [hk] at h1
    cases h1
    refine .inr ⟨rfl, ?_⟩
    apply Nat.lt_of_not_le
    intro z
    exact n l z c h2
theorem LkG.next {ws : List Wd} {W w : Wd} {kk lo i j : Nat} (hk : ws[kk]? = some w) (n : ∀ j, lo ≤ j → ¬ Hit W j w) : LkG ws W (kk + 1) 0 i j ↔ LkG ws W kk lo i j := by
  refine ⟨fun ⟨l, k, v, h1, h2, c, h3⟩ => ⟨l, k, v, h1, h2, ?_, h3⟩, fun ⟨l, k, v, h1, h2, c, h3⟩ => ⟨l, k, v, h1, h2, by omega, h3⟩⟩
  by_cases e : k = kk
  · subst e
    rw [hk] at h1
    cases h1
    refine .inr ⟨rfl, ?_⟩
    apply Nat.lt_of_not_le
    intro z
    exact n l z h2
  · omega
theorem LkG.all {ws : List Wd} {W : Wd} {i j : Nat} : LkG ws W ws.length 0 i j ↔ Link ws W i j := by
  constructor
  · rintro ⟨l, k, w, h1, h2, c, h3⟩
    refine ⟨w, List.mem_of_getElem? h1, ?_⟩
    rcases h3 with ⟨rfl, e⟩ | ⟨rfl, e⟩
    · exact .inl ⟨h2, e⟩
    · exact .inr ⟨h2, e⟩
  · rintro ⟨w, m, h⟩
    obtain ⟨k, hk⟩ := List.getElem?_of_mem m
    have kl := (List.getElem?_eq_some_iff.mp hk).1
    rcases h with ⟨h, e⟩ | ⟨h, e⟩
    · exact ⟨i, k, w, hk, h, .inl kl, .inl ⟨rfl, e⟩⟩
    · exact ⟨j, k, w, hk, h, .inl kl, .inr ⟨rfl, e⟩⟩
theorem LkG.hit {ws : List Wd} {W : Wd} {low kk : Nat} {w : Wd} (hk : ws[kk]? = some w) (h : Hit W low w) (i j : Nat) : LkG ws W kk (low + 1) i j ↔ addE (LkG ws W kk low) low (low + w.length) i j := by
  constructor
  · rintro ⟨l, k, v, h1, h2, c, h3⟩
    by_cases e : l = low ∧ k = kk
    · obtain ⟨rfl, rfl⟩ := e
      rw [hk] at h1
      cases h1
      rcases h3 with ⟨rfl, rfl⟩ | ⟨rfl, rfl⟩
      · exact .inr (.inl ⟨rfl, rfl⟩)
      · exact .inr (.inr ⟨rfl, rfl⟩)
    · exact .inl ⟨l, k, v, h1, h2, by omega, h3⟩
  · rintro (⟨l, k, v, h1, h2, c, h3⟩ | h3)
    · exact ⟨l, k, v, h1, h2, by omega, h3⟩
    · refine ⟨low, kk, w, hk, h, by omega, ?_⟩
      rcases h3 with ⟨rfl, rfl⟩ | ⟨rfl, rfl⟩
      · exact .inl ⟨rfl, rfl⟩
      · exact .inr ⟨rfl, rfl⟩
theorem LkG.new {ws : List Wd} {W : Wd} {low kk : Nat} {w : Wd} (nd : ws.Nodup) (n : ∀ w ∈ ws, w ≠ []) (hk : ws[kk]? = some w) (h : Hit W low w) : ¬ LkG ws W kk low low (low + w.length) ∧ ¬ LkG ws W kk low (low + w.length) low := by
  have l0 : 0 < w.length := List.length_pos_iff.mpr (n w (List.mem_of_getElem? hk))
  have key : ∀ l k v, ws[k]? = some v → Hit W l v → (k < kk ∨ (k = kk ∧ l < low)) → l = low → v.length = w.length → False := by
    rintro l k v h1 h2 c rfl e
    have e2 : v = w := by
      unfold Hit at h2 h
      rw [← h2, ← h, e]
    subst e2
    have := (List.getElem?_inj (List.getElem?_eq_some_iff.mp h1).1 nd).mp (h1.trans hk.symm)
    omega
  refine ⟨fun ⟨l, k, v, h1, h2, c, h3⟩ => ?_, fun ⟨l, k, v, h1, h2, c, h3⟩ => ?_⟩ <;>
  · have l1 : 0 < v.length := List.length_pos_iff.mpr (n v (List.mem_of_getElem? h1))
    exact key l k v h1 h2 c (by omega) (by omega)
theorem LkG.le {ws : List Wd} {W : Wd} {low kk i j : Nat} (n : ∀ w ∈ ws, w ≠ []) (h : LkG ws W low kk i j) : i ≤ W.length ∧ j ≤ W.length := by
  obtain ⟨l, k, w, h1, h2, c, h3⟩ := h
  have := h2.bound (n w (List.mem_of_getElem? h1))
  omega
/-- rows of links, of pieces that may be alike -/
structure LkJ (rows : Nat → List Nat) (F : Nat → Nat → Prop) (u : Prop) (m : Nat) : Prop where
  mem : ∀ i j, j ∈ rows i ↔ F i j
  nd : u → ∀ i, (rows i).Nodup
  len : ∀ i, (rows i).length ≤ m
theorem push2 (rows : Nat → List Nat) {a b : Nat} (ne : a ≠ b) (i : Nat) : push (push rows a b) b a i = if i = a then rows i ++ [b] else if i = b then rows i ++ [a] else rows i := by
  unfold push
  by_cases c : i = a
  · subst c; rw [if_neg ne, if_pos rfl, if_pos rfl]
  · simp only [if_neg c]
theorem LkJ.add {rows : Nat → List Nat} {F : Nat → Nat → Prop} {u : Prop} {m a b : Nat} (h : LkJ rows F u m) (ne : a ≠ b) (n1 : u → ¬ F a b) (n2 : u → ¬ F b a) : LkJ (push (push rows a b) b a) (addE F a b) u (m + 1) := by
  refine ⟨fun i j => ?_, fun hu => ?_, fun i => ?_⟩
  · rw [push2 rows ne]
    split
    · rename_i c
      subst c
      rw [List.mem_append, h.mem, List.mem_singleton]
      unfold addE
      constructor
      · rintro (z | z)
        · exact .inl z
        · exact .inr (.inl ⟨rfl, z⟩)
      · rintro (z | ⟨_, z⟩ | ⟨_, z⟩)
        · exact .inl z
        · exact .inr z
        · exact (ne z).elim
    · rename_i c
      split
      · rename_i d
        subst d
        rw [List.mem_append, h.mem, List.mem_singleton]
        unfold addE
        constructor
        · rintro (z | z)
          · exact .inl z
          · exact .inr (.inr ⟨z, rfl⟩)
        · rintro (z | ⟨z, _⟩ | ⟨z, _⟩)
          · exact .inl z
          · exact (c z).elim
          · exact .inr z
      · rename_i d
        rw [h.mem]
        unfold addE
        constructor
        · exact .inl
        · rintro (z | ⟨z, _⟩ | ⟨_, z⟩)
          · exact z
          · exact (c z).elim
          · exact (d z).elim
  · exact (LkI.add ⟨h.mem, h.nd hu⟩ ne (n1 hu) (n2 hu)).nd
  · rw [push2 rows ne]
    have := h.len i
    split
    · rw [List.length_append, List.length_singleton]; omega
    · split
      · rw [List.length_append, List.length_singleton]; omega
      · omega
theorem LkJ.iff {rows : Nat → List Nat} {F G : Nat → Nat → Prop} {u : Prop} {m n : Nat} (h : LkJ rows F u m) (e : ∀ i j, G i j ↔ F i j) (le : m ≤ n) : LkJ rows G u n := ⟨fun i j => (h.mem i j).trans (e i j).symm, h.nd, fun i => Nat.le_trans (h.len i) le⟩
theorem LkJ.zero {ws : List Wd} {W : Wd} {u : Prop} : LkJ (fun _ => []) (LkG ws W 0 0) u 0 := ⟨fun i j => ⟨fun z => (nomatch z), fun z => (LkG.zero z).elim⟩, fun _ _ => List.nodup_nil, fun _ => Nat.le_refl _⟩
/-- ints sorted, as numbers, some alike -/
theorem sorted_natsG {r : List Nat} {ns : List Int} (p : ns.Perm (r.map fun (j : Nat) => (j : Int))) (s : ns.Pairwise (· ≤ ·)) : ∃ q : List Nat, ns = q.map (fun (j : Nat) => (j : Int)) ∧ q.Perm r ∧ q.Pairwise (· ≤ ·) := by
  refine ⟨ns.map Int.toNat, ?_, ?_, ?_⟩
  · rw [List.map_map]
    have : ∀ z ∈ ns, ((fun (j : Nat) => (j : Int)) ∘ Int.toNat) z = z := fun z m => by
      obtain ⟨j, _, rfl⟩ := List.mem_map.mp (p.mem_iff.mp m)
      simp
    rw [List.map_congr_left this, List.map_id']
  · have := p.map Int.toNat
    rw [List.map_map] at this
    have e : (Int.toNat ∘ fun (j : Nat) => (j : Int)) = id := by funext x; simp
    rw [e, List.map_id] at this
    exact this
  · rw [List.pairwise_map]
    exact s.imp fun h => by omega
theorem strict_of {q : List Nat} (s : q.Pairwise (· ≤ ·)) (nd : q.Nodup) : q.Pairwise (· < ·) := by
  have := s.and nd
  exact this.imp fun ⟨h1, h2⟩ => by omega
end WW
namespace RD
open PySem L2
theorem tyS {K : PySem.W.Frag} {H : Hp} {z : Str} : tyV K "str" (.str z) H := rfl
def rFind1 : V → List V → Hp → VK → Prop := fun x xs H Q => ∃ a b, x = .str a ∧ xs = [.str b] ∧ Q (.int (Txt.find a b)) H
def rFind2 : V → List V → Hp → VK → Prop := fun x xs H Q => ∃ (a b : Str) (i : Int), x = .str a ∧ xs = [.str b, .int i] ∧ Q (.int (Txt.find3 a b i)) H
theorem m_find1 {X : Cx} : MtR X "str.find" rFind1 := mt_find
theorem m_find2 {X : Cx} : MtR X "str.find" rFind2 := mt_find3
theorem d_find1 {W w : WW.Wd} {H : Hp} {Q : VK} (n : w ≠ []) (h : ∀ v, WW.Nx W w 0 v → Q (.int v) H) : rFind1 (.str (WW.S W)) [.str (WW.S w)] H Q := ⟨_, _, rfl, rfl, h _ (WW.find_nx n)⟩
theorem d_find2 {W w : WW.Wd} {lo : Nat} {i : Int} {H : Hp} {Q : VK} (n : w ≠ []) (e : i = lo) (h : ∀ v, WW.Nx W w lo v → Q (.int v) H) : rFind2 (.str (WW.S W)) [.str (WW.S w), .int i] H Q := ⟨_, _, _, rfl, rfl, h _ (WW.find3_nx n e)⟩
end RD
namespace OQ
open PySem L2
theorem d_seqVar2 {K : PySem.W.Frag} {σ : L2.St} {H0 H : Hp} {R : It → Hp → Prop} {n : Nat} {a : Addr} {xs : List V} (e : σ[n]? = some (some (.ref a))) (h : SeqAt K H0 a xs) (s : Same H0 H)
    (k : ∀ J G, Walk J xs.length G (YAt xs) → (∀ H', Same H0 H' → G H') → R J H) : iOr (iList K (tVar n)) (iTup K (tVar n)) σ H R := by
  rcases h with h | h
  · exact .inl ⟨_, e, a, rfl, ⟨xs, s.seq h⟩, k _ _ walk_list fun H' s => s.seq h⟩
  · exact .inr ⟨_, e, a, rfl, ⟨xs, sqT_same h s⟩, k _ _ walk_tup fun H' s => sqT_same h s⟩
end OQ

/-! ### rows of numbers, compared -/
namespace OQ
open PySem L2 PySem.Spec PyProof.Rows
def Tn (p : List Nat) : List PyData := p.map fun (j : Nat) => .int (j : Int)
theorem Tn_all {K : PySem.W.Frag} {H : Hp} : ∀ p : List Nat, DpAll K H (WW.Ns p) (Tn p)
  | [] => .nil
  | j :: p => .cons (.int _) (Tn_all p)
theorem Tn_lay : ∀ p : List Nat, PyData.canLayAll0 (Tn p) = true ∧ PyData.depthAll (Tn p) = 0
  | [] => ⟨by rw [Tn, List.map_nil, PyData.canLayAll0], by rw [Tn, List.map_nil, PyData.depthAll]⟩
  | j :: p => by
    obtain ⟨h1, h2⟩ := Tn_lay p
    have e : Tn (j :: p) = .int (j : Int) :: Tn p := rfl
    rw [e, PyData.canLayAll0, PyData.canLay0, PyData.depthAll, PyData.depth, h1, h2]
    exact ⟨rfl, rfl⟩
theorem Tn_shaped (p : List Nat) : SeqAt.shaped (.tuple (Tn p)) = true := by
  obtain ⟨h1, h2⟩ := Tn_lay p
  unfold SeqAt.shaped; rw [PyData.canLay0, PyData.depth, h1, h2]; rfl
theorem Tn_eqv : ∀ p : List Nat, PyData.eqvAll (Tn p) (Tn p) = true
  | [] => by rw [Tn, List.map_nil, PyData.eqvAll]
  | j :: p => by
    have e : Tn (j :: p) = .int (j : Int) :: Tn p := rfl
    rw [e, PyData.eqvAll, PyData.eqv, Tn_eqv p]
    simp
/-- nothing, or the same way -/
def SameW (H : Hp) (v u : V) : Prop := (v = .non ∧ u = .non) ∨ ∃ t s p, v = .ref t ∧ u = .ref s ∧ H t = some (.tup (WW.Ns p)) ∧ H s = some (.tup (WW.Ns p))
theorem SameW.eq {K : PySem.W.Frag} {H : Hp} {Q : VK} {v u : V} (h : SameW H v u) (k : Q (.bl true) H) : rEqD K v u H Q := by
  rcases h with ⟨rfl, rfl⟩ | ⟨t, s, p, rfl, rfl, et, es⟩
  · exact ⟨_, _, .non, .non, rfl, rfl, by rw [PyData.eqv]; exact k⟩
  · exact ⟨_, _, .tup (SqT.of et) (Tn_all p), .tup (SqT.of es) (Tn_all p), Tn_shaped p, Tn_shaped p, by rw [PyData.eqv, Tn_eqv]; exact k⟩
theorem SameW.ne {K : PySem.W.Frag} {H : Hp} {Q : VK} {v u : V} (h : SameW H v u) (k : Q (.bl false) H) : rNeD K v u H Q := by
  rcases h with ⟨rfl, rfl⟩ | ⟨t, s, p, rfl, rfl, et, es⟩
  · exact ⟨_, _, .non, .non, rfl, rfl, by rw [PyData.eqv]; exact k⟩
  · exact ⟨_, _, .tup (SqT.of et) (Tn_all p), .tup (SqT.of es) (Tn_all p), Tn_shaped p, Tn_shaped p, by rw [PyData.eqv, Tn_eqv]; exact k⟩
end OQ

/-! ### the faults of tables, as functions -/
namespace RK
open PySem L2
abbrev Fl := Option (Str × Int × Int × Int)
def fnd {α : Type} (n : Nat) (f : Nat → Option α) : Option α := (List.range n).findSome? f
theorem fnd_succ {α : Type} (n : Nat) (f : Nat → Option α) : fnd (n + 1) f = (fnd n f).or (f n) := by
  unfold fnd
  rw [List.range_succ, List.findSome?_append]
  congr 1
  simp [List.findSome?]
  cases f n <;> rfl
theorem fnd_none {α : Type} {n : Nat} {f : Nat → Option α} (h : ∀ i, i < n → f i = none) : fnd n f = none := by
  unfold fnd
  rw [List.findSome?_eq_none_iff]
  exact fun i m => h i (List.mem_range.mp m)
theorem fnd_all {α : Type} {n : Nat} {f : Nat → Option α} (h : fnd n f = none) : ∀ i, i < n → f i = none := fun i hi => by
  unfold fnd at h
  rw [List.findSome?_eq_none_iff] at h
  exact h i (List.mem_range.mpr hi)
theorem fnd_at {α : Type} {n t : Nat} {f : Nat → Option α} {v : α} (h : ∀ i, i < t → f i = none) (ht : t < n) (e : f t = some v) : fnd n f = some v := by
  induction n with
  | zero => omega
  | succ n ih =>
    rw [fnd_succ]
    by_cases c : t = n
    · subst c
      rw [fnd_none h, e]; rfl
    · rw [ih (by omega)]; rfl
theorem fnd_congr {α : Type} {n : Nat} {f g : Nat → Option α} (h : ∀ i, i < n → f i = g i) : fnd n f = fnd n g := by
  induction n with
  | zero => rfl
  | succ n ih => rw [fnd_succ, fnd_succ, ih fun i hi => h i (by omega), h n (by omega)]
def noneF (n : Nat) (J M : Nat → Nat → Nat) (z : Nat) : Fl := fnd n fun a => if J z a = a ∧ J a z = a ∧ M z a = z ∧ M a z = z then none else some ("none", a, -1, -1)
def oneF (n : Nat) (M : Nat → Nat → Nat) (o : Nat) : Fl := fnd n fun a => if M o a = a ∧ M a o = a then none else some ("one", a, -1, -1)
def idleF (n : Nat) (J : Nat → Nat → Nat) : Fl := fnd n fun a => if J a a = a then none else some ("idle", a, -1, -1)
def swapF (n : Nat) (J : Nat → Nat → Nat) : Fl := fnd n fun a => fnd n fun b => if J a b = J b a then none else some ("swap", a, b, -1)
def groupF (w : Str) (n : Nat) (J : Nat → Nat → Nat) : Fl := fnd n fun a => fnd n fun b => fnd n fun c => if J (J a b) c = J a (J b c) then none else some (w, a, b, c)
def overF (n : Nat) (J M : Nat → Nat → Nat) : Fl := fnd n fun a => fnd n fun b => fnd n fun c => if M a (J b c) = J (M a b) (M a c) ∧ M (J b c) a = J (M b a) (M c a) then none else some ("over", a, b, c)
def sameF (z o : Nat) : Fl := if z = o then some ("same", -1, -1, -1) else none
def restF (n : Nat) (J M : Nat → Nat → Nat) (z o : Nat) : Fl :=
  (noneF n J M z).or ((oneF n M o).or ((idleF n J).or ((swapF n J).or ((groupF "join" n J).or ((groupF "product" n M).or ((overF n J M).or (sameF z o)))))))
/-- the fault F as a value -/
def FltAt (H : Hp) (v : V) : Fl → Prop
  | none => v = .non
  | some (w, a, b, c) => ∃ p, v = .ref p ∧ H p = some (.tup [.str w, .int a, .int b, .int c])
theorem FltAt.same {H H' : Hp} {v : V} : ∀ {F : Fl}, FltAt H v F → Same H H' → FltAt H' v F
  | none, h, _ => h
  | some (_, _, _, _), ⟨p, h1, h2⟩, s => ⟨p, h1, s _ _ h2⟩
/-! things, as data -/
def rowsOf : PyData → Option (List PyData)
  | .list ds => some ds
  | .tuple ds => some ds
  | _ => none
def intB : PyData → Bool
  | .int _ => true
  | _ => false
def belowB (n : Nat) : PyData → Bool
  | .int i => decide (0 ≤ i ∧ i < n)
  | _ => false
def sideB (n : Nat) (d : PyData) : Bool := match rowsOf d with
  | some ds => decide (ds.length = n) && ds.all (belowB n)
  | none => false
def squareB (n : Nat) (d : PyData) : Bool := match rowsOf d with
  | some ds => decide (ds.length = n) && ds.all (sideB n)
  | none => false
def natOf : PyData → Nat
  | .int i => i.toNat
  | _ => 0
def cellsOf (d : PyData) : List PyData := (rowsOf d).getD []
def tabf (d : PyData) (i j : Nat) : Nat := natOf ((cellsOf ((cellsOf d)[i]?.getD .none))[j]?.getD .none)
/-- whether sizes and places are as they must be -/
def sizeB (dj dp dz dn : PyData) : Bool := match rowsOf dj with
  | some ds => decide (2 ≤ ds.length ∧ ds.length ≤ 16) && (squareB ds.length dj && (squareB ds.length dp && (belowB ds.length dz && belowB ds.length dn)))
  | none => false
end RK
/-! ### tables of rows that are lists or tuples -/
namespace OQ
open PySem L2 PySem.Spec PyProof.Rows
def Ints (ns : List Nat) : List V := ns.map fun (j : Nat) => V.int j
def RowX (K : PySem.W.Frag) (H : Hp) (r : Addr) (n : Nat) (g : Nat → Nat) : Prop := SeqAt K H r ((List.range n).map fun j => V.int (g j : Nat))
def TabX (K : PySem.W.Frag) (H : Hp) (a : Addr) (n : Nat) (f : Nat → Nat → Nat) : Prop := ∃ rs : List Addr, rs.length = n ∧ SeqAt K H a (rs.map V.ref) ∧ ∀ (i : Nat) (r : Addr), rs[i]? = some r → RowX K H r n (f i)
theorem TabX.same {K : PySem.W.Frag} {H H' : Hp} {a : Addr} {n : Nat} {f : Nat → Nat → Nat} (h : TabX K H a n f) (s : Same H H') : TabX K H' a n f := by
  obtain ⟨rs, l, e, q⟩ := h
  exact ⟨rs, l, e.same s, fun i r z => (q i r z).same s⟩
def rIxA (K : PySem.W.Frag) : R2 := fun x y H Q => ∃ p xs i v, x = .ref p ∧ y = .int i ∧ SeqAt K H p xs ∧ atI xs i = some v ∧ Q v H
theorem ix_seq {X : Cx} : IxR X (rIxA X.K) := by
  intro value slice pins s σ H x y v u Q I rx ry h hs
  obtain ⟨p, xs, i, z, e1, e2, hq | hq, he, q⟩ := h
  · exact ix_list value slice pins s σ H x y v u Q I rx ry ⟨p, xs, i, z, e1, e2, hq, he, q⟩ hs
  · exact ix_tup value slice pins s σ H x y v u Q I rx ry ⟨p, xs, i, z, e1, e2, hq, he, q⟩ hs
theorem ixA {X : Cx} (K : PySem.W.Frag) (h : X.K = K := by rfl) : IxR X (rIxA K) := h ▸ ix_seq
section
variable {K : PySem.W.Frag} {H : Hp} {a : Addr} {n : Nat} {Q : VK}
theorem d_ixA {p : Addr} {xs : List V} {i : Int} {v : V} (hs : SeqAt K H p xs) (e : atI xs i = some v) (h : Q v H) : rIxA K (.ref p) (.int i) H Q := ⟨p, xs, i, v, rfl, rfl, hs, e, h⟩
theorem xT {f : Nat → Nat → Nat} {i : Int} {m : Nat} (h : TabX K H a n f) (e : i = m) (hn : m < n) (k : ∀ r, RowX K H r n (f m) → Q (.ref r) H) : rIxA K (.ref a) (.int i) H Q := by
  obtain ⟨rs, len, ea, rows⟩ := h
  have hm : m < rs.length := by rw [len]; exact hn
  subst e
  exact d_ixA ea (atI_nat (by rw [List.getElem?_map, List.getElem?_eq_getElem hm]; rfl)) (k _ (rows m _ (List.getElem?_eq_getElem hm)))
theorem xR {g : Nat → Nat} {i : Int} {m : Nat} (h : RowX K H a n g) (e : i = m) (hn : m < n) (k : Q (.int (g m : Nat)) H) : rIxA K (.ref a) (.int i) H Q := by
  subst e
  exact d_ixA h (atI_nat (by rw [List.getElem?_map, List.getElem?_range hn]; rfl)) k
theorem TabX.len {f : Nat → Nat → Nat} (h : TabX K H a n f) (k : Q (.int n) H) : RD.rLen K [.ref a] H Q := by
  obtain ⟨rs, len, ea, rows⟩ := h
  refine ea.len ?_
  rw [List.length_map, len]; exact k
theorem RowX.len {g : Nat → Nat} (h : RowX K H a n g) (k : Q (.int n) H) : RD.rLen K [.ref a] H Q := by
  refine SeqAt.len h ?_
  rw [List.length_map, List.length_range]; exact k
end
/-! the data of a thing -/
mutual
theorem Dp.same {K : PySem.W.Frag} {H H' : Hp} (s : Same H H') : ∀ (d : PyData) (v : V), Dp K H v d → Dp K H' v d
  | .none, _, h => by cases h; exact .non
  | .bool b, _, h => by cases h; exact .bl b
  | .int i, _, h => by cases h; exact .int i
  | .str x, _, h => by cases h; exact .str x
  | .list ds, _, h => by
    cases h with
    | lst h1 h2 => exact .lst (s.seq h1) (DpAll.same s ds _ h2)
  | .tuple ds, _, h => by
    cases h with
    | tup h1 h2 => exact .tup (sqT_same h1 s) (DpAll.same s ds _ h2)
  | .dict _, _, h => by cases h
theorem DpAll.same {K : PySem.W.Frag} {H H' : Hp} (s : Same H H') : ∀ (ds : List PyData) (vs : List V), DpAll K H vs ds → DpAll K H' vs ds
  | [], _, h => by cases h; exact .nil
  | d :: ds, _, h => by
    cases h with
    | cons h1 h2 => exact .cons (Dp.same s d _ h1) (DpAll.same s ds _ h2)
end
theorem dpAll_len {K : PySem.W.Frag} {H : Hp} : ∀ {ds : List PyData} {vs : List V}, DpAll K H vs ds → vs.length = ds.length
  | [], _, h => by cases h; rfl
  | _ :: ds, _, h => by
    cases h with
    | cons h1 h2 => rw [List.length_cons, List.length_cons, dpAll_len h2]
theorem dpAll_get {K : PySem.W.Frag} {H : Hp} : ∀ {ds : List PyData} {vs : List V}, DpAll K H vs ds → ∀ {i : Nat} {v : V}, vs[i]? = some v → ∃ d, ds[i]? = some d ∧ Dp K H v d
  | [], _, h, i, v, e => by cases h; simp at e
  | d :: ds, _, h, i, v, e => by
    cases h with
    | cons h1 h2 =>
      cases i with
      | zero => simp at e; subst e; exact ⟨d, rfl, h1⟩
      | succ i => simp at e; obtain ⟨d', q1, q2⟩ := dpAll_get h2 e; exact ⟨d', by simpa using q1, q2⟩
theorem dpAll_of {K : PySem.W.Frag} {H : Hp} : ∀ {vs : List V}, (∀ v ∈ vs, ∃ d, Dp K H v d) → ∃ ds, DpAll K H vs ds
  | [], _ => ⟨[], .nil⟩
  | v :: vs, h => by
    obtain ⟨d, h1⟩ := h v (List.mem_cons_self ..)
    obtain ⟨ds, h2⟩ := dpAll_of (vs := vs) fun x m => h x (List.mem_cons_of_mem _ m)
    exact ⟨d :: ds, .cons h1 h2⟩
theorem dp_row {K : PySem.W.Frag} {H : Hp} {d : PyData} {v : V} {ds : List PyData} (h : Dp K H v d) (e : RK.rowsOf d = some ds) : ∃ a xs, v = .ref a ∧ SeqAt K H a xs ∧ DpAll K H xs ds := by
  cases h with
  | lst h1 h2 => cases e; exact ⟨_, _, rfl, .inl h1, h2⟩
  | tup h1 h2 => cases e; exact ⟨_, _, rfl, .inr h1, h2⟩
  | _ => cases e
theorem SeqAt.ty {K : PySem.W.Frag} {H : Hp} {a : Addr} {xs : List V} (h : SeqAt K H a xs) : ∃ t, TyX K H (.ref a) t ∧ (t = .type "list" ∨ t = .type "tuple") := by
  rcases h with ((h | ⟨o, h⟩) | ⟨o, _, _, h, c, _⟩) | ((h | ⟨o, h⟩) | ⟨o, _, _, h, c, _⟩)
  · exact ⟨_, .base (.lst h), .inl rfl⟩
  · exact ⟨_, .base (.frz h), .inl rfl⟩
  · exact ⟨_, .kList h c, .inl rfl⟩
  · exact ⟨_, .base (.tup h), .inr rfl⟩
  · exact ⟨_, .fTuple h, .inr rfl⟩
  · exact ⟨_, .kTuple h c, .inr rfl⟩
/-- the type of a thing -/
theorem dp_ty {K : PySem.W.Frag} {H : Hp} {d : PyData} {v : V} (h : Dp K H v d) : ∃ t, TyX K H v (.type t) ∧ t ∈ ["NoneType", "bool", "int", "str", "list", "tuple"] ∧ (t = "list" ∨ t = "tuple" ↔ (RK.rowsOf d).isSome = true) ∧ (t = "int" ↔ RK.intB d = true) := by
  cases h with
  | non => exact ⟨_, .base .non, by simp, by simp [RK.rowsOf], by simp [RK.intB]⟩
  | bl b => exact ⟨_, .base (.bl b), by simp, by simp [RK.rowsOf], by simp [RK.intB]⟩
  | int i => exact ⟨_, .base (.int i), by simp, by simp [RK.rowsOf], by simp [RK.intB]⟩
  | str x => exact ⟨_, .base (.str x), by simp, by simp [RK.rowsOf], by simp [RK.intB]⟩
  | lst h1 h2 =>
    rcases h1 with (h | ⟨o, h⟩) | ⟨o, _, _, h, c, _⟩
    · exact ⟨_, .base (.lst h), by simp, by simp [RK.rowsOf], by simp [RK.intB]⟩
    · exact ⟨_, .base (.frz h), by simp, by simp [RK.rowsOf], by simp [RK.intB]⟩
    · exact ⟨_, .kList h c, by simp, by simp [RK.rowsOf], by simp [RK.intB]⟩
  | tup h1 h2 =>
    rcases h1 with (h | ⟨o, h⟩) | ⟨o, _, _, h, c, _⟩
    · exact ⟨_, .base (.tup h), by simp, by simp [RK.rowsOf], by simp [RK.intB]⟩
    · exact ⟨_, .fTuple h, by simp, by simp [RK.rowsOf], by simp [RK.intB]⟩
    · exact ⟨_, .kTuple h c, by simp, by simp [RK.rowsOf], by simp [RK.intB]⟩
theorem dp_isRow {K : PySem.W.Frag} {H : Hp} {d : PyData} {v : V} (h : Dp K H v d) : ∃ t, TyX K H v t ∧ PySem.W.kitAny K t [.type "list", .type "tuple"] = some (RK.rowsOf d).isSome := by
  obtain ⟨t, ty, m, e1, _⟩ := dp_ty h
  refine ⟨_, ty, ?_⟩
  simp only [List.mem_cons, List.not_mem_nil, or_false] at m
  have nl : ∀ {t : String}, ¬ (t = "list" ∨ t = "tuple") → (t = "list" ∨ t = "tuple" ↔ (RK.rowsOf d).isSome = true) → (RK.rowsOf d).isSome = false := fun n e => by
    cases q : (RK.rowsOf d).isSome with
    | false => rfl
    | true => exact (n (e.mpr q)).elim
  have no : ∀ {t : String} {b : Bool}, PySem.W.kitOne K (.type t) (.type "list") = some false → PySem.W.kitOne K (.type t) (.type "tuple") = some b → PySem.W.kitAny K (.type t) [.type "list", .type "tuple"] = some b := fun a c => by
    unfold PySem.W.kitAny
    rw [a]
    unfold PySem.W.kitAny
    simp only [c]
    split <;> simp_all [PySem.W.kitAny]
  rcases m with rfl | rfl | rfl | rfl | rfl | rfl
  · rw [nl (by decide) e1]; exact no (kit_ty (by decide +kernel)) (kit_ty (by decide +kernel))
  · rw [nl (by decide) e1]; exact no (kit_ty (by decide +kernel)) (kit_ty (by decide +kernel))
  · rw [nl (by decide) e1]; exact no (kit_ty (by decide +kernel)) (kit_ty (by decide +kernel))
  · rw [nl (by decide) e1]; exact no (kit_ty (by decide +kernel)) (kit_ty (by decide +kernel))
  · rw [e1.mp (.inl rfl)]
    unfold PySem.W.kitAny
    rw [kit_ty (r := true) (by decide +kernel)]
  · rw [e1.mp (.inr rfl)]; exact no (kit_ty (by decide +kernel)) (kit_ty (by decide +kernel))
theorem dp_isInt {K : PySem.W.Frag} {H : Hp} {d : PyData} {v : V} (h : Dp K H v d) : ∃ (t : Value) (b1 b2 : Bool), TyX K H v t ∧ PySem.W.kitOne K t (.type "int") = some b1 ∧ PySem.W.kitOne K t (.type "bool") = some b2 ∧ RK.intB d = (b1 && !b2) := by
  obtain ⟨t, ty, m, _, e2⟩ := dp_ty h
  simp only [List.mem_cons, List.not_mem_nil, or_false] at m
  have nl : ∀ {t : String}, ¬ t = "int" → (t = "int" ↔ RK.intB d = true) → RK.intB d = false := fun n e => by
    cases q : RK.intB d with
    | false => rfl
    | true => exact (n (e.mpr q)).elim
  rcases m with rfl | rfl | rfl | rfl | rfl | rfl
  · exact ⟨_, false, false, ty, kit_ty (by decide +kernel), kit_ty (by decide +kernel), by rw [nl (by decide) e2]; rfl⟩
  · exact ⟨_, true, true, ty, kit_ty (by decide +kernel), kit_ty (by decide +kernel), by rw [nl (by decide) e2]; rfl⟩
  · exact ⟨_, true, false, ty, kit_ty (by decide +kernel), kit_ty (by decide +kernel), by rw [e2.mp rfl]; rfl⟩
  · exact ⟨_, false, false, ty, kit_ty (by decide +kernel), kit_ty (by decide +kernel), by rw [nl (by decide) e2]; rfl⟩
  · exact ⟨_, false, false, ty, kit_ty (by decide +kernel), kit_ty (by decide +kernel), by rw [nl (by decide) e2]; rfl⟩
  · exact ⟨_, false, false, ty, kit_ty (by decide +kernel), kit_ty (by decide +kernel), by rw [nl (by decide) e2]; rfl⟩
theorem belowB_int {n : Nat} {d : PyData} (h : RK.belowB n d = true) : ∃ i : Int, d = .int i ∧ 0 ≤ i ∧ i < n := by
  unfold RK.belowB at h
  split at h
  · exact ⟨_, rfl, of_decide_eq_true h⟩
  · cases h
theorem sideB_rows {n : Nat} {d : PyData} (h : RK.sideB n d = true) : ∃ ds, RK.rowsOf d = some ds ∧ ds.length = n ∧ ∀ x ∈ ds, RK.belowB n x = true := by
  unfold RK.sideB at h
  split at h
  · rename_i ds e
    rw [Bool.and_eq_true, decide_eq_true_eq, List.all_eq_true] at h
    exact ⟨ds, e, h.1, h.2⟩
  · cases h
theorem squareB_rows {n : Nat} {d : PyData} (h : RK.squareB n d = true) : ∃ ds, RK.rowsOf d = some ds ∧ ds.length = n ∧ ∀ x ∈ ds, RK.sideB n x = true := by
  unfold RK.squareB at h
  split at h
  · rename_i ds e
    rw [Bool.and_eq_true, decide_eq_true_eq, List.all_eq_true] at h
    exact ⟨ds, e, h.1, h.2⟩
  · cases h
/-- a side as a row of numbers -/
theorem dp_side {K : PySem.W.Frag} {H : Hp} {d : PyData} {v : V} {n : Nat} (h : Dp K H v d) (e : RK.sideB n d = true) : ∃ a, v = .ref a ∧ RowX K H a n (fun j => RK.natOf ((RK.cellsOf d)[j]?.getD .none)) ∧ ∀ j, j < n → RK.natOf ((RK.cellsOf d)[j]?.getD .none) < n := by
  obtain ⟨ds, e1, e2, e3⟩ := sideB_rows e
  obtain ⟨a, xs, rfl, sa, da⟩ := dp_row h e1
  have ec : RK.cellsOf d = ds := by unfold RK.cellsOf; rw [e1]; rfl
  have key : ∀ j (hj : j < n), ∃ i : Int, 0 ≤ i ∧ i < n ∧ ds[j]? = some (.int i) ∧ xs[j]? = some (.int i) := fun j hj => by
    have jx : j < xs.length := by rw [dpAll_len da, e2]; exact hj
    obtain ⟨d', q1, q2⟩ := dpAll_get da (List.getElem?_eq_getElem jx)
    obtain ⟨i, rfl, h0, h1⟩ := belowB_int (e3 d' (List.mem_of_getElem? q1))
    refine ⟨i, h0, h1, q1, ?_⟩
    rw [List.getElem?_eq_getElem jx]
    generalize xs[j] = y at q2
    cases q2
    rfl
  refine ⟨a, rfl, ?_, fun j hj => ?_⟩
  · have : xs = (List.range n).map fun j => V.int (RK.natOf ((RK.cellsOf d)[j]?.getD .none) : Nat) := by
      apply List.ext_getElem?
      intro j
      by_cases hj : j < n
      · obtain ⟨i, h0, h1, q1, q2⟩ := key j hj
        rw [q2, List.getElem?_map, List.getElem?_range hj, ec]
        simp only [Option.map_some, q1, Option.getD_some, RK.natOf]
        congr 2
        omega
      · rw [List.getElem?_eq_none (by rw [dpAll_len da, e2]; omega), List.getElem?_eq_none (by simp; omega)]
    unfold RowX
    rw [← this]
    exact sa
  · obtain ⟨i, h0, h1, q1, q2⟩ := key j hj
    rw [ec, q1]
    simp only [Option.getD_some, RK.natOf]
    omega
/-- a square as a table -/
theorem dp_tab {K : PySem.W.Frag} {H : Hp} {d : PyData} {v : V} {n : Nat} (h : Dp K H v d) (e : RK.squareB n d = true) : ∃ a, v = .ref a ∧ TabX K H a n (RK.tabf d) ∧ ∀ i j, i < n → j < n → RK.tabf d i j < n := by
  obtain ⟨ds, e1, e2, e3⟩ := squareB_rows e
  obtain ⟨a, xs, rfl, sa, da⟩ := dp_row h e1
  have ec : RK.cellsOf d = ds := by unfold RK.cellsOf; rw [e1]; rfl
  have key : ∀ i (hi : i < n), ∃ r, xs[i]? = some (.ref r) ∧ RowX K H r n (RK.tabf d i) ∧ ∀ j, j < n → RK.tabf d i j < n := fun i hi => by
    have ix : i < xs.length := by rw [dpAll_len da, e2]; exact hi
    obtain ⟨d', q1, q2⟩ := dpAll_get da (List.getElem?_eq_getElem ix)
    obtain ⟨r, er, R, b⟩ := dp_side q2 (e3 d' (List.mem_of_getElem? q1))
    have tf : RK.tabf d i = fun j => RK.natOf ((RK.cellsOf d')[j]?.getD .none) := by
      funext j
      unfold RK.tabf
      rw [ec, q1]; rfl
    exact ⟨r, by rw [List.getElem?_eq_getElem ix, er], by rw [tf]; exact R, fun j hj => by rw [tf]; exact b j hj⟩
  obtain ⟨rs, ers⟩ : ∃ rs : List Addr, xs = rs.map V.ref := by
    have all : ∀ y ∈ xs, ∃ r, y = V.ref r := fun y m => by
      obtain ⟨i, hi⟩ := List.getElem?_of_mem m
      have : i < n := by have := (List.getElem?_eq_some_iff.mp hi).1; rw [dpAll_len da, e2] at this; exact this
      obtain ⟨r, er, _⟩ := key i this
      rw [er] at hi; cases hi; exact ⟨r, rfl⟩
    clear sa da key
    induction xs with
    | nil => exact ⟨[], rfl⟩
    | cons y ys ih =>
      obtain ⟨r, rfl⟩ := all y (List.mem_cons_self ..)
      obtain ⟨rs, rfl⟩ := ih fun z m => all z (List.mem_cons_of_mem _ m)
      exact ⟨r :: rs, rfl⟩
  subst ers
  have len := dpAll_len da
  rw [List.length_map, e2] at len
  refine ⟨a, rfl, ⟨rs, len, sa, fun i r hr => ?_⟩, fun i j hi hj => ?_⟩
  · have hi : i < n := by have := (List.getElem?_eq_some_iff.mp hr).1; omega
    obtain ⟨r', q, R, _⟩ := key i hi
    rw [List.getElem?_map, hr] at q
    cases q
    exact R
  · obtain ⟨r', q, R, b⟩ := key i hi
    exact b j hj
theorem rows_dp {K : PySem.W.Frag} {H : Hp} {r : Addr} {n : Nat} {g : Nat → Nat} (h : RowX K H r n g) (b : ∀ j, j < n → g j < n) : ∃ d, Dp K H (.ref r) d ∧ RK.sideB n d = true ∧ ∀ j, j < n → RK.natOf ((RK.cellsOf d)[j]?.getD .none) = g j := by
  have all : ∀ m : Nat, DpAll K H ((List.range m).map fun j => V.int (g j : Nat)) ((List.range m).map fun j => PyData.int (g j : Nat)) := fun m => by
    have : ∀ l : List Nat, DpAll K H (l.map fun j => V.int (g j : Nat)) (l.map fun j => PyData.int (g j : Nat)) := fun l => by
      induction l with
      | nil => exact .nil
      | cons x l ih => exact .cons (.int _) ih
    exact this _
  have sb : (decide (((List.range n).map fun j => PyData.int (g j : Nat)).length = n) && ((List.range n).map fun j => PyData.int (g j : Nat)).all (RK.belowB n)) = true := by
    rw [Bool.and_eq_true, decide_eq_true_eq, List.all_eq_true]
    refine ⟨by simp, fun x m => ?_⟩
    obtain ⟨j, mj, rfl⟩ := List.mem_map.mp m
    have := b j (List.mem_range.mp mj)
    exact decide_eq_true (by omega)
  have val : ∀ j, j < n → RK.natOf ((((List.range n).map fun j => PyData.int (g j : Nat))[j]?).getD .none) = g j := fun j hj => by
    rw [List.getElem?_map, List.getElem?_range hj]
    simp [RK.natOf]
  rcases h with h | h
  · exact ⟨_, .lst h (all n), by unfold RK.sideB; exact sb, val⟩
  · exact ⟨_, .tup h (all n), by unfold RK.sideB; exact sb, val⟩
theorem tab_dp {K : PySem.W.Frag} {H : Hp} {a : Addr} {n : Nat} {f : Nat → Nat → Nat} (h : TabX K H a n f) (b : ∀ i j, i < n → j < n → f i j < n) : ∃ d, Dp K H (.ref a) d ∧ RK.squareB n d = true ∧ (∀ i j, i < n → j < n → RK.tabf d i j = f i j) ∧ ∃ ds, RK.rowsOf d = some ds ∧ ds.length = n := by
  obtain ⟨rs, len, sa, rows⟩ := h
  have each : ∀ (i : Nat) (r : Addr), rs[i]? = some r → ∃ d, Dp K H (.ref r) d ∧ RK.sideB n d = true ∧ ∀ j, j < n → RK.natOf ((RK.cellsOf d)[j]?.getD .none) = f i j := fun i r hr => by
    have hi : i < n := by have := (List.getElem?_eq_some_iff.mp hr).1; omega
    exact rows_dp (rows i r hr) fun j hj => b i j hi hj
  obtain ⟨ds, all, dl, prop⟩ : ∃ ds, DpAll K H (rs.map V.ref) ds ∧ ds.length = n ∧ ∀ (i : Nat) (d : PyData), ds[i]? = some d → RK.sideB n d = true ∧ ∀ j, j < n → RK.natOf ((RK.cellsOf d)[j]?.getD .none) = f i j := by
    have gen : ∀ (ts : List Addr) (k : Nat), (∀ (i : Nat) (r : Addr), ts[i]? = some r → ∃ d, Dp K H (.ref r) d ∧ RK.sideB n d = true ∧ ∀ j, j < n → RK.natOf ((RK.cellsOf d)[j]?.getD .none) = f (k + i) j) →
        ∃ ds, DpAll K H (ts.map V.ref) ds ∧ ds.length = ts.length ∧ ∀ (i : Nat) (d : PyData), ds[i]? = some d → RK.sideB n d = true ∧ ∀ j, j < n → RK.natOf ((RK.cellsOf d)[j]?.getD .none) = f (k + i) j := by
      intro ts
      induction ts with
      | nil => intro k _; exact ⟨[], .nil, rfl, fun i d e => by simp at e⟩
      | cons t ts ih =>
        intro k h
        obtain ⟨d, h1, h2⟩ := h 0 t rfl
        obtain ⟨ds, q1, q2, q3⟩ := ih (k + 1) fun i r hr => by
          have := h (i + 1) r (by simpa using hr)
          rwa [show k + (i + 1) = k + 1 + i from by omega] at this
        refine ⟨d :: ds, .cons h1 q1, by rw [List.length_cons, List.length_cons, q2], fun i d' e => ?_⟩
        cases i with
        | zero => simp at e; subst e; exact h2
        | succ i =>
          have := q3 i d' (by simpa using e)
          rwa [show k + 1 + i = k + (i + 1) from by omega] at this
    obtain ⟨ds, q1, q2, q3⟩ := gen rs 0 (by simpa using each)
    exact ⟨ds, q1, by rw [q2, len], by simpa using q3⟩
  have sb : (decide (ds.length = n) && ds.all (RK.sideB n)) = true := by
    rw [Bool.and_eq_true, decide_eq_true_eq, List.all_eq_true]
    refine ⟨dl, fun x m => ?_⟩
    obtain ⟨i, hi⟩ := List.getElem?_of_mem m
    exact (prop i x hi).1
  have val : ∀ i j, i < n → j < n → RK.natOf ((RK.cellsOf ((ds[i]?).getD .none))[j]?.getD .none) = f i j := fun i j hi hj => by
    have il : i < ds.length := by omega
    rw [List.getElem?_eq_getElem il, Option.getD_some]
    exact (prop i _ (List.getElem?_eq_getElem il)).2 j hj
  rcases sa with sa | sa
  · exact ⟨_, .lst sa all, by unfold RK.squareB; exact sb, val, ds, rfl, dl⟩
  · exact ⟨_, .tup sa all, by unfold RK.squareB; exact sb, val, ds, rfl, dl⟩
/-- the data of a thing, a dict among them -/
def Dq (K : PySem.W.Frag) (H : Hp) (v : V) (d : PyData) : Prop := Dp K H v d ∨ (d = .dict [] ∧ ∃ a kvs, v = .ref a ∧ H a = some (.dK kvs))
theorem Dq.same {K : PySem.W.Frag} {H H' : Hp} {v : V} {d : PyData} (h : Dq K H v d) (s : Same H H') : Dq K H' v d := by
  rcases h with h | ⟨e, a, kvs, h1, h2⟩
  · exact .inl (Dp.same s d v h)
  · exact .inr ⟨e, a, kvs, h1, s _ _ h2⟩
theorem Dq.dp {K : PySem.W.Frag} {H : Hp} {v : V} {d : PyData} {ds : List PyData} (h : Dq K H v d) (e : RK.rowsOf d = some ds) : Dp K H v d := by
  rcases h with h | ⟨rfl, _⟩
  · exact h
  · cases e
theorem dq_isRow {K : PySem.W.Frag} {H : Hp} {d : PyData} {v : V} (h : Dq K H v d) : ∃ t, TyX K H v t ∧ PySem.W.kitAny K t [.type "list", .type "tuple"] = some (RK.rowsOf d).isSome := by
  rcases h with h | ⟨rfl, a, kvs, rfl, h2⟩
  · exact dp_isRow h
  · refine ⟨.type "dict", .base (.dK h2), ?_⟩
    unfold PySem.W.kitAny
    rw [kit_ty (r := false) (by decide +kernel)]
    unfold PySem.W.kitAny
    rw [kit_ty (r := false) (by decide +kernel)]
    rfl
theorem dq_tab {K : PySem.W.Frag} {H : Hp} {d : PyData} {v : V} {n : Nat} (h : Dq K H v d) (e : RK.squareB n d = true) : ∃ a, v = .ref a ∧ TabX K H a n (RK.tabf d) ∧ ∀ i j, i < n → j < n → RK.tabf d i j < n := by
  obtain ⟨ds, e1, _⟩ := squareB_rows e
  exact dp_tab (h.dp e1) e
theorem d_seqFld {K : PySem.W.Frag} {σ : L2.St} {H : Hp} {R : It → Hp → Prop} {n : Nat} {x C dx pt : Addr} {fs : List (Str × V)} {f : Str} {xs : List V} (ev : σ[n]? = some (some (.ref x))) (ex : H x = some (.ins C dx fs)) (cl : Cls K C) (na : NoAttr K C f) (lk : fs.lookup f = some (.ref pt)) (h : SeqAt K H pt xs)
    (k : ∀ J G, Walk J xs.length G (YAt xs) → (∀ H', Same H H' → G H') → R J H) : iOr (iList K (tFld K (tVar n) f)) (iTup K (tFld K (tVar n) f)) σ H R := by
  rcases h with h | h
  · exact .inl (RD.d_iList (RD.d_fld (RD.d_var ev ⟨x, C, dx, fs, _, rfl, ex, cl, na, lk, pt, rfl, ⟨xs, h⟩, k _ _ walk_list fun H' s => s.seq h⟩)))
  · exact .inr (RD.d_fld (RD.d_var ev ⟨x, C, dx, fs, _, rfl, ex, cl, na, lk, pt, rfl, ⟨xs, h⟩, k _ _ walk_tup fun H' s => sqT_same h s⟩))
end OQ
namespace RD
open PySem L2
/-- a list of two taken apart by two names -/
theorem d_twoL {K : PySem.W.Frag} {n i j : Nat} {a : Addr} {x y : V} {σ : L2.St} {H : Hp} {R : L2.St → Hp → Prop} (en : n = 2) (e : SqL K H a [x, y]) (k : R ((σ.set i (some x)).set j (some y)) H) :
    gLst K n (gCons (gName i) (gCons (gName j) gNil)) (.ref a) σ H R := ⟨a, [x, y], rfl, e, en.symm, x, [y], rfl, y, [], rfl, rfl, k⟩
end RD
namespace OQ
open PySem L2 PySem.Spec PyProof.Rows
def rListK (K : PySem.W.Frag) : List V → Hp → VK → Prop := fun xs H Q => ∃ p ys, xs = [.ref p] ∧ SeqAt K H p ys ∧ ∀ l, H l = none → Q (.ref l) (upd H l (.lst ys))
theorem listK {X : Cx} (K : PySem.W.Frag) (h : X.K = K := by rfl) : CallR X (.type "list") (rListK K) := h ▸ call_list_of
theorem dpAll_ofP {K : PySem.W.Frag} {H : Hp} {P : Nat → PyData → Prop} : ∀ {vs : List V} {k : Nat}, (∀ i v, vs[i]? = some v → ∃ d, Dp K H v d ∧ P (k + i) d) → ∃ ds, DpAll K H vs ds ∧ ∀ i d, ds[i]? = some d → P (k + i) d
  | [], _, _ => ⟨[], .nil, fun i d e => by simp at e⟩
  | v :: vs, k, h => by
    obtain ⟨d, h1, h2⟩ := h 0 v rfl
    obtain ⟨ds, q1, q2⟩ := dpAll_ofP (vs := vs) (k := k + 1) fun i x e => by
      have := h (i + 1) x (by simpa using e)
      rwa [show k + (i + 1) = k + 1 + i from by omega] at this
    refine ⟨d :: ds, .cons h1 q1, fun i d' e => ?_⟩
    cases i with
    | zero => simp at e; subst e; exact h2
    | succ i =>
      have := q2 i d' (by simpa using e)
      rwa [show k + 1 + i = k + (i + 1) from by omega] at this
end OQ

/-! ### reckonings that have none of the faults -/
namespace RK
open PySem L2
structure Gd (n : Nat) (J M : Nat → Nat → Nat) (z o : Nat) : Prop where
  zn : z < n
  on : o < n
  jn : ∀ a b, a < n → b < n → J a b < n
  mn : ∀ a b, a < n → b < n → M a b < n
  nj : ∀ a, a < n → J z a = a ∧ J a z = a ∧ M z a = z ∧ M a z = z
  om : ∀ a, a < n → M o a = a ∧ M a o = a
  id : ∀ a, a < n → J a a = a
  sw : ∀ a b, a < n → b < n → J a b = J b a
  ja : ∀ a b c, a < n → b < n → c < n → J (J a b) c = J a (J b c)
  ma : ∀ a b c, a < n → b < n → c < n → M (M a b) c = M a (M b c)
  ds : ∀ a b c, a < n → b < n → c < n → M a (J b c) = J (M a b) (M a c) ∧ M (J b c) a = J (M b a) (M c a)
  ne : z ≠ o
theorem Gd.rest {n : Nat} {J M : Nat → Nat → Nat} {z o : Nat} (h : Gd n J M z o) : restF n J M z o = none := by
  unfold restF
  have e1 : noneF n J M z = none := fnd_none fun a ha => if_pos (h.nj a ha)
  have e2 : oneF n M o = none := fnd_none fun a ha => if_pos (h.om a ha)
  have e3 : idleF n J = none := fnd_none fun a ha => if_pos (h.id a ha)
  have e4 : swapF n J = none := fnd_none fun a ha => fnd_none fun b hb => if_pos (h.sw a b ha hb)
  have e5 : groupF "join" n J = none := fnd_none fun a ha => fnd_none fun b hb => fnd_none fun c hc => if_pos (h.ja a b c ha hb hc)
  have e6 : groupF "product" n M = none := fnd_none fun a ha => fnd_none fun b hb => fnd_none fun c hc => if_pos (h.ma a b c ha hb hc)
  have e7 : overF n J M = none := fnd_none fun a ha => fnd_none fun b hb => fnd_none fun c hc => if_pos (h.ds a b c ha hb hc)
  have e8 : sameF z o = none := if_neg h.ne
  rw [e1, e2, e3, e4, e5, e6, e7, e8]; rfl
theorem of_ite {P : Prop} {inst : Decidable P} {x : Str × Int × Int × Int} (h : (if P then none else some x) = none) : P := by
  split at h
  · assumption
  · cases h
theorem Gd.of_rest {n : Nat} {J M : Nat → Nat → Nat} {z o : Nat} (zn : z < n) (on : o < n) (jn : ∀ a b, a < n → b < n → J a b < n) (mn : ∀ a b, a < n → b < n → M a b < n) (h : restF n J M z o = none) : Gd n J M z o := by
  unfold restF at h
  simp only [Option.or_eq_none_iff] at h
  obtain ⟨h1, h2, h3, h4, h5, h6, h7, h8⟩ := h
  refine ⟨zn, on, jn, mn, fun a ha => of_ite (fnd_all h1 a ha), fun a ha => of_ite (fnd_all h2 a ha), fun a ha => of_ite (fnd_all h3 a ha), fun a b ha hb => of_ite (fnd_all (fnd_all h4 a ha) b hb), fun a b c ha hb hc => of_ite (fnd_all (fnd_all (fnd_all h5 a ha) b hb) c hc), fun a b c ha hb hc => of_ite (fnd_all (fnd_all (fnd_all h6 a ha) b hb) c hc), fun a b c ha hb hc => of_ite (fnd_all (fnd_all (fnd_all h7 a ha) b hb) c hc), fun e => ?_⟩
  unfold sameF at h8
  rw [if_pos e] at h8
  cases h8
/-! chains -/
def cutP (n a b : Nat) : Nat := a + b - (n - 1)
def topP (n a b : Nat) : Nat := if a = n - 1 ∨ b = n - 1 then min a b else 0
def fourP (a b : Nat) : Nat := ([[0, 0, 0, 0], [0, 0, 1, 1], [0, 0, 2, 2], [0, 1, 2, 3]].getD a []).getD b 0
theorem gd_min {n : Nat} (h : 2 ≤ n) : Gd n max min 0 (n - 1) :=
  ⟨by omega, by omega, fun a b ha hb => by omega, fun a b ha hb => by omega, fun a ha => by omega, fun a ha => by omega, fun a ha => by omega, fun a b ha hb => by omega, fun a b c ha hb hc => by omega, fun a b c ha hb hc => by omega, fun a b c ha hb hc => by omega, by omega⟩
theorem gd_cut {n : Nat} (h : 2 ≤ n) : Gd n max (cutP n) 0 (n - 1) := by
  unfold cutP
  exact ⟨by omega, by omega, fun a b ha hb => by omega, fun a b ha hb => by omega, fun a ha => by omega, fun a ha => by omega, fun a ha => by omega, fun a b ha hb => by omega, fun a b c ha hb hc => by omega, fun a b c ha hb hc => by omega, fun a b c ha hb hc => by omega, by omega⟩
theorem top_l {n b : Nat} (hb : b < n) : topP n (n - 1) b = b := by unfold topP; rw [if_pos (.inl rfl)]; omega
theorem top_r {n a : Nat} (ha : a < n) : topP n a (n - 1) = a := by unfold topP; rw [if_pos (.inr rfl)]; omega
theorem top_0 {n a b : Nat} (ha : a ≠ n - 1) (hb : b ≠ n - 1) : topP n a b = 0 := by unfold topP; rw [if_neg (fun z => z.elim ha hb)]
theorem top_lt {n a b : Nat} (ha : a < n) : topP n a b < n := by unfold topP; split <;> omega
theorem top_max {n a b c : Nat} (ha : a < n) (hb : b < n) (hc : c < n) : topP n a (max b c) = max (topP n a b) (topP n a c) := by
  by_cases h1 : a = n - 1
  · subst h1; rw [top_l hb, top_l hc, top_l (by omega)]
  · by_cases h2 : b = n - 1
    · subst h2
      rw [show max (n - 1) c = n - 1 by omega, top_r ha]
      by_cases h3 : c = n - 1
      · subst h3; rw [top_r ha]; omega
      · rw [top_0 h1 h3]; omega
    · rw [top_0 h1 h2]
      by_cases h3 : c = n - 1
      · subst h3; rw [show max b (n - 1) = n - 1 by omega, top_r ha]; omega
      · rw [top_0 h1 h3, top_0 h1 (by omega)]; rfl
theorem top_comm {n a b : Nat} : topP n a b = topP n b a := by
  unfold topP
  by_cases h : a = n - 1 ∨ b = n - 1
  · rw [if_pos h, if_pos h.symm, Nat.min_comm]
  · rw [if_neg h, if_neg fun z => h z.symm]
theorem gd_top {n : Nat} (h : 2 ≤ n) : Gd n max (topP n) 0 (n - 1) := by
  have t0 : (0 : Nat) ≠ n - 1 := by omega
  have z0 : ∀ a, topP n 0 a = 0 := fun a => by unfold topP; split <;> omega
  have zr : ∀ a, topP n a 0 = 0 := fun a => by rw [top_comm]; exact z0 a
  refine ⟨by omega, by omega, fun a b ha hb => by omega, fun a b ha hb => top_lt ha, fun a ha => ⟨by omega, by omega, z0 a, zr a⟩, fun a ha => ⟨top_l ha, top_r ha⟩, fun a ha => by omega, fun a b ha hb => by omega, fun a b c ha hb hc => by omega, fun a b c ha hb hc => ?_, fun a b c ha hb hc => ⟨top_max ha hb hc, ?_⟩, by omega⟩
  · by_cases h1 : a = n - 1
    · subst h1; rw [top_l hb, top_l (top_lt hb)]
    · by_cases h2 : b = n - 1
      · subst h2; rw [top_r ha, top_l hc]
      · by_cases h3 : c = n - 1
        · subst h3; rw [top_r hb, top_r (top_lt ha)]
        · rw [top_0 h1 h2, top_0 h2 h3, z0, zr]
  · rw [top_comm, top_max ha hb hc, top_comm (a := a) (b := b), top_comm (a := a) (b := c)]
theorem gd_four : Gd 4 max fourP 0 3 :=
  .of_rest (by omega) (by omega) (fun a b ha hb => by omega) (fun a b ha hb => (by decide : ∀ a, a < 4 → ∀ b, b < 4 → fourP a b < 4) a ha b hb) (by decide +kernel)
/-! turned, named anew, beside -/
theorem Gd.turned {n : Nat} {J M : Nat → Nat → Nat} {z o : Nat} (h : Gd n J M z o) : Gd n J (fun a b => M b a) z o :=
  ⟨h.zn, h.on, h.jn, fun a b ha hb => h.mn b a hb ha, fun a ha => ⟨(h.nj a ha).1, (h.nj a ha).2.1, (h.nj a ha).2.2.2, (h.nj a ha).2.2.1⟩, fun a ha => ⟨(h.om a ha).2, (h.om a ha).1⟩, h.id, h.sw, h.ja,
    fun a b c ha hb hc => (h.ma c b a hc hb ha).symm, fun a b c ha hb hc => ⟨(h.ds a b c ha hb hc).2, (h.ds a b c ha hb hc).1⟩, h.ne⟩
/-- σ and τ are each other's way back -/
structure Bij (n : Nat) (σ τ : Nat → Nat) : Prop where
  sn : ∀ a, a < n → σ a < n
  tn : ∀ a, a < n → τ a < n
  ts : ∀ a, a < n → τ (σ a) = a
  st : ∀ a, a < n → σ (τ a) = a
def ren (σ τ : Nat → Nat) (J : Nat → Nat → Nat) (a b : Nat) : Nat := σ (J (τ a) (τ b))
theorem Gd.renamed {n : Nat} {J M : Nat → Nat → Nat} {z o : Nat} {σ τ : Nat → Nat} (h : Gd n J M z o) (b : Bij n σ τ) : Gd n (ren σ τ J) (ren σ τ M) (σ z) (σ o) := by
  have J' := fun a b' ha hb => b.ts (J a b') (h.jn a b' ha hb)
  have M' := fun a b' ha hb => b.ts (M a b') (h.mn a b' ha hb)
  unfold ren
  refine ⟨b.sn z h.zn, b.sn o h.on, fun x y hx hy => b.sn _ (h.jn _ _ (b.tn x hx) (b.tn y hy)), fun x y hx hy => b.sn _ (h.mn _ _ (b.tn x hx) (b.tn y hy)), fun x hx => ?_, fun x hx => ?_, fun x hx => ?_, fun x y hx hy => ?_, fun x y w hx hy hw => ?_, fun x y w hx hy hw => ?_, fun x y w hx hy hw => ?_, fun e => ?_⟩
  · obtain ⟨h1, h2, h3, h4⟩ := h.nj _ (b.tn x hx)
    rw [b.ts z h.zn, h1, h2, h3, h4]
    exact ⟨b.st x hx, b.st x hx, rfl, rfl⟩
  · obtain ⟨h1, h2⟩ := h.om _ (b.tn x hx)
    rw [b.ts o h.on, h1, h2]
    exact ⟨b.st x hx, b.st x hx⟩
  · rw [h.id _ (b.tn x hx), b.st x hx]
  · rw [h.sw _ _ (b.tn x hx) (b.tn y hy)]
  · rw [J' _ _ (b.tn x hx) (b.tn y hy), J' _ _ (b.tn y hy) (b.tn w hw), h.ja _ _ _ (b.tn x hx) (b.tn y hy) (b.tn w hw)]
  · rw [M' _ _ (b.tn x hx) (b.tn y hy), M' _ _ (b.tn y hy) (b.tn w hw), h.ma _ _ _ (b.tn x hx) (b.tn y hy) (b.tn w hw)]
  · obtain ⟨h1, h2⟩ := h.ds _ _ _ (b.tn x hx) (b.tn y hy) (b.tn w hw)
    rw [J' _ _ (b.tn y hy) (b.tn w hw), M' _ _ (b.tn x hx) (b.tn y hy), M' _ _ (b.tn x hx) (b.tn w hw), M' _ _ (b.tn y hy) (b.tn x hx), M' _ _ (b.tn w hw) (b.tn x hx), h1, h2]
    exact ⟨rfl, rfl⟩
  · have := congrArg τ e
    rw [b.ts z h.zn, b.ts o h.on] at this
    exact h.ne this
def bes (m : Nat) (f g : Nat → Nat → Nat) (a b : Nat) : Nat := f (a / m) (b / m) * m + g (a % m) (b % m)
theorem bes_lt {n m x y : Nat} (hx : x < n) (hy : y < m) : x * m + y < n * m := by
  have : (x + 1) * m ≤ n * m := Nat.mul_le_mul_right m hx
  rw [Nat.add_mul, Nat.one_mul] at this
  omega
theorem bes_div {m x y : Nat} (hy : y < m) : (x * m + y) / m = x := by
  rw [Nat.add_comm, Nat.add_mul_div_right _ _ (by omega), Nat.div_eq_of_lt hy, Nat.zero_add]
theorem bes_mod {m x y : Nat} (hy : y < m) : (x * m + y) % m = y := by
  rw [Nat.add_comm, Nat.add_mul_mod_self_right, Nat.mod_eq_of_lt hy]
theorem Gd.beside {n m : Nat} {J M J' M' : Nat → Nat → Nat} {z o z' o' : Nat} (h : Gd n J M z o) (g : Gd m J' M' z' o') : Gd (n * m) (bes m J J') (bes m M M') (z * m + z') (o * m + o') := by
  have m0 : 0 < m := Nat.lt_of_le_of_lt (Nat.zero_le _) g.zn
  have q : ∀ {a : Nat}, a < n * m → a / m < n := fun ha => Nat.div_lt_of_lt_mul (by rw [Nat.mul_comm]; exact ha)
  have r : ∀ {a : Nat}, a % m < m := Nat.mod_lt _ m0
  have back : ∀ {a : Nat}, a / m * m + a % m = a := fun {a} => Nat.div_add_mod' a m
  unfold bes
  refine ⟨bes_lt h.zn g.zn, bes_lt h.on g.on, fun a b ha hb => bes_lt (h.jn _ _ (q ha) (q hb)) (g.jn _ _ r r), fun a b ha hb => bes_lt (h.mn _ _ (q ha) (q hb)) (g.mn _ _ r r), fun a ha => ?_, fun a ha => ?_, fun a ha => ?_, fun a b ha hb => ?_, fun a b c ha hb hc => ?_, fun a b c ha hb hc => ?_, fun a b c ha hb hc => ?_, fun e => ?_⟩
  · obtain ⟨h1, h2, h3, h4⟩ := h.nj _ (q ha)
    obtain ⟨g1, g2, g3, g4⟩ := g.nj (a % m) r
    rw [bes_div g.zn, bes_mod g.zn, h1, h2, h3, h4, g1, g2, g3, g4]
    exact ⟨back, back, rfl, rfl⟩
  · obtain ⟨h1, h2⟩ := h.om _ (q ha)
    obtain ⟨g1, g2⟩ := g.om (a % m) r
    rw [bes_div g.on, bes_mod g.on, h1, h2, g1, g2]
    exact ⟨back, back⟩
  · rw [h.id _ (q ha), g.id (a % m) r]; exact back
  · rw [h.sw _ _ (q ha) (q hb), g.sw (a % m) (b % m) r r]
  · rw [bes_div (g.jn _ _ r r), bes_mod (g.jn _ _ r r), bes_div (g.jn _ _ r r), bes_mod (g.jn _ _ r r), h.ja _ _ _ (q ha) (q hb) (q hc), g.ja (a % m) (b % m) (c % m) r r r]
  · rw [bes_div (g.mn _ _ r r), bes_mod (g.mn _ _ r r), bes_div (g.mn _ _ r r), bes_mod (g.mn _ _ r r), h.ma _ _ _ (q ha) (q hb) (q hc), g.ma (a % m) (b % m) (c % m) r r r]
  · obtain ⟨h1, h2⟩ := h.ds _ _ _ (q ha) (q hb) (q hc)
    obtain ⟨g1, g2⟩ := g.ds (a % m) (b % m) (c % m) r r r
    rw [bes_div (g.jn _ _ r r), bes_mod (g.jn _ _ r r), bes_div (g.mn _ _ r r), bes_mod (g.mn _ _ r r), bes_div (g.mn _ _ r r), bes_mod (g.mn _ _ r r), bes_div (g.mn _ _ r r), bes_mod (g.mn _ _ r r), bes_div (g.mn _ _ r r), bes_mod (g.mn _ _ r r), h1, h2, g1, g2]
    exact ⟨rfl, rfl⟩
  · have := congrArg (· / m) e
    simp only [bes_div g.zn, bes_div g.on] at this
    exact h.ne this
/-! lots -/
def Lb (n : Nat) (P : Nat → Nat → Nat) (a b z : Nat) : Prop := ∃ x y, x < n ∧ y < n ∧ a.testBit x = true ∧ b.testBit y = true ∧ P x y = z
def lotP (n : Nat) (P : Nat → Nat → Nat) (a b : Nat) : Nat := ((List.range n).flatMap fun x => (List.range n).map fun y => (x, y)).foldl (fun f p => if a.testBit p.1 && b.testBit p.2 then f ||| 2 ^ P p.1 p.2 else f) 0
theorem fold_bit {l : List (Nat × Nat)} {a b z : Nat} {P : Nat → Nat → Nat} : ∀ {f : Nat}, (l.foldl (fun f p => if a.testBit p.1 && b.testBit p.2 then f ||| 2 ^ P p.1 p.2 else f) f).testBit z = true ↔ f.testBit z = true ∨ ∃ p ∈ l, a.testBit p.1 = true ∧ b.testBit p.2 = true ∧ P p.1 p.2 = z := by
  induction l with
  | nil => intro f; simp
  | cons p l ih =>
    intro f
    rw [List.foldl_cons, ih]
    by_cases c : (a.testBit p.1 && b.testBit p.2) = true
    · rw [if_pos c, Nat.testBit_or, Nat.testBit_two_pow, Bool.or_eq_true, decide_eq_true_eq]
      rw [Bool.and_eq_true] at c
      constructor
      · rintro ((h | h) | ⟨q, m, h⟩)
        · exact .inl h
        · exact .inr ⟨p, List.mem_cons_self .., c.1, c.2, h⟩
        · exact .inr ⟨q, List.mem_cons_of_mem _ m, h⟩
      · rintro (h | ⟨q, m, h⟩)
        · exact .inl (.inl h)
        · rcases List.mem_cons.mp m with rfl | m
          · exact .inl (.inr h.2.2)
          · exact .inr ⟨q, m, h⟩
    · rw [if_neg c]
      rw [Bool.and_eq_true] at c
      constructor
      · rintro (h | ⟨q, m, h⟩)
        · exact .inl h
        · exact .inr ⟨q, List.mem_cons_of_mem _ m, h⟩
      · rintro (h | ⟨q, m, h⟩)
        · exact .inl h
        · rcases List.mem_cons.mp m with rfl | m
          · exact absurd ⟨h.1, h.2.1⟩ c
          · exact .inr ⟨q, m, h⟩
theorem lot_bit {n : Nat} {P : Nat → Nat → Nat} {a b z : Nat} : (lotP n P a b).testBit z = true ↔ Lb n P a b z := by
  unfold lotP Lb
  rw [fold_bit]
  constructor
  · rintro (h | ⟨p, m, h⟩)
    · simp at h
    · obtain ⟨x, mx, m⟩ := List.mem_flatMap.mp m
      obtain ⟨y, my, rfl⟩ := List.mem_map.mp m
      exact ⟨x, y, List.mem_range.mp mx, List.mem_range.mp my, h⟩
  · rintro ⟨x, y, hx, hy, h⟩
    exact .inr ⟨(x, y), List.mem_flatMap.mpr ⟨x, List.mem_range.mpr hx, List.mem_map.mpr ⟨y, List.mem_range.mpr hy, rfl⟩⟩, h⟩
theorem bits_eq {a b : Nat} (h : ∀ z, a.testBit z = true ↔ b.testBit z = true) : a = b := Nat.eq_of_testBit_eq fun z => by
  have := h z
  cases ha : a.testBit z <;> cases hb : b.testBit z <;> rw [ha, hb] at this <;> simp at this ⊢
theorem bit_lt {a n x : Nat} (h : a < 2 ^ n) (e : a.testBit x = true) : x < n := Nat.lt_of_not_le fun c => by
  rw [Nat.testBit_lt_two_pow (Nat.lt_of_lt_of_le h (Nat.pow_le_pow_right (by omega) c))] at e
  cases e
theorem lt_bits {a n : Nat} (h : ∀ x, a.testBit x = true → x < n) : a < 2 ^ n := Nat.lt_pow_two_of_testBit a fun i hi => by
  cases e : a.testBit i with
  | false => rfl
  | true => have := h i e; omega
/-- products of things: one is neutral, brackets don't count -/
structure Mo (n : Nat) (P : Nat → Nat → Nat) (o : Nat) : Prop where
  on : o < n
  pn : ∀ a b, a < n → b < n → P a b < n
  om : ∀ a, a < n → P o a = a ∧ P a o = a
  as : ∀ a b c, a < n → b < n → c < n → P (P a b) c = P a (P b c)
theorem lot_lt {n : Nat} {P : Nat → Nat → Nat} {a b : Nat} (pn : ∀ a b, a < n → b < n → P a b < n) : lotP n P a b < 2 ^ n := lt_bits fun z h => by
  obtain ⟨x, y, hx, hy, _, _, rfl⟩ := lot_bit.mp h
  exact pn x y hx hy
theorem Mo.lots {n : Nat} {P : Nat → Nat → Nat} {o : Nat} (h : Mo n P o) : Gd (2 ^ n) (fun a b => a ||| b) (lotP n P) 0 (2 ^ o) := by
  have z0 : ∀ x, (0 : Nat).testBit x = true → False := fun x e => by simp at e
  have p0 : ∀ x, (2 ^ o).testBit x = true ↔ o = x := fun x => by rw [Nat.testBit_two_pow, decide_eq_true_eq]
  have o0 : ∀ {a b x : Nat}, (a ||| b).testBit x = true ↔ a.testBit x = true ∨ b.testBit x = true := fun {a b x} => by rw [Nat.testBit_or, Bool.or_eq_true]
  refine ⟨Nat.two_pow_pos _, Nat.pow_lt_pow_right (by omega) h.on, fun a b ha hb => Nat.or_lt_two_pow ha hb, fun a b _ _ => lot_lt h.pn, fun a ha => ⟨Nat.zero_or a, Nat.or_zero a, bits_eq fun z => ?_, bits_eq fun z => ?_⟩, fun a ha => ⟨bits_eq fun z => ?_, bits_eq fun z => ?_⟩, fun a _ => Nat.or_self a, fun a b _ _ => Nat.or_comm a b, fun a b c _ _ _ => Nat.or_assoc a b c, fun a b c ha hb hc => bits_eq fun z => ?_, fun a b c ha hb hc => ⟨bits_eq fun z => ?_, bits_eq fun z => ?_⟩, fun e => ?_⟩
  · exact ⟨fun e => by obtain ⟨x, y, _, _, e, _⟩ := lot_bit.mp e; exact (z0 _ e).elim, fun e => (z0 _ e).elim⟩
  · exact ⟨fun e => by obtain ⟨x, y, _, _, _, e, _⟩ := lot_bit.mp e; exact (z0 _ e).elim, fun e => (z0 _ e).elim⟩
  · rw [lot_bit]
    exact ⟨fun ⟨x, y, hx, hy, e1, e2, e3⟩ => by rw [← (p0 x).mp e1, (h.om y hy).1] at e3; rw [← e3]; exact e2, fun e => ⟨o, z, h.on, bit_lt ha e, (p0 o).mpr rfl, e, (h.om z (bit_lt ha e)).1⟩⟩
  · rw [lot_bit]
    exact ⟨fun ⟨x, y, hx, hy, e1, e2, e3⟩ => by rw [← (p0 y).mp e2, (h.om x hx).2] at e3; rw [← e3]; exact e1, fun e => ⟨z, o, bit_lt ha e, h.on, e, (p0 o).mpr rfl, (h.om z (bit_lt ha e)).2⟩⟩
  · rw [lot_bit, lot_bit]
    constructor
    · rintro ⟨xy, w, h1, h2, e1, e2, e3⟩
      obtain ⟨x, y, hx, hy, f1, f2, f3⟩ := lot_bit.mp e1
      exact ⟨x, P y w, hx, h.pn y w hy h2, f1, lot_bit.mpr ⟨y, w, hy, h2, f2, e2, rfl⟩, by rw [← h.as x y w hx hy h2, f3]; exact e3⟩
    · rintro ⟨x, yw, h1, h2, e1, e2, e3⟩
      obtain ⟨y, w, hy, hw, f1, f2, f3⟩ := lot_bit.mp e2
      exact ⟨P x y, w, h.pn x y h1 hy, hw, lot_bit.mpr ⟨x, y, h1, hy, e1, f1, rfl⟩, f2, by rw [h.as x y w h1 hy hw, f3]; exact e3⟩
  · rw [lot_bit, o0, lot_bit, lot_bit]
    constructor
    · rintro ⟨x, y, hx, hy, e1, e2, e3⟩
      exact (o0.mp e2).elim (fun e => .inl ⟨x, y, hx, hy, e1, e, e3⟩) fun e => .inr ⟨x, y, hx, hy, e1, e, e3⟩
    · rintro (⟨x, y, hx, hy, e1, e2, e3⟩ | ⟨x, y, hx, hy, e1, e2, e3⟩)
      · exact ⟨x, y, hx, hy, e1, o0.mpr (.inl e2), e3⟩
      · exact ⟨x, y, hx, hy, e1, o0.mpr (.inr e2), e3⟩
  · rw [lot_bit, o0, lot_bit, lot_bit]
    constructor
    · rintro ⟨x, y, hx, hy, e1, e2, e3⟩
      exact (o0.mp e1).elim (fun e => .inl ⟨x, y, hx, hy, e, e2, e3⟩) fun e => .inr ⟨x, y, hx, hy, e, e2, e3⟩
    · rintro (⟨x, y, hx, hy, e1, e2, e3⟩ | ⟨x, y, hx, hy, e1, e2, e3⟩)
      · exact ⟨x, y, hx, hy, o0.mpr (.inl e1), e2, e3⟩
      · exact ⟨x, y, hx, hy, o0.mpr (.inr e1), e2, e3⟩
  · have := Nat.two_pow_pos o
    omega
end RK

/-! ### a method of a list, inside a comprehension -/
namespace OQ
open PySem L2 PySem.Spec PyProof.Rows
theorem mt_indexK {X : Cx} (K : PySem.W.Frag) (h : X.K = K := by rfl) : MtR X "list.index" (rIndex K) := h ▸ mt_index
theorem bmK {X : Cx} (K : PySem.W.Frag) {e : Expr} {T : String} {r : V → List V → Hp → VK → Prop} {to : TE} {t : TA} (hp : PE X e (tBM X.K T r to t)) (h : X.K = K := by rfl) : PE X e (tBM K T r to t) := h ▸ hp
end OQ

/-! ### the data of a thing, dicts among them at any depth -/
namespace OQ
open PySem L2 PySem.Spec PyProof.Rows
mutual
inductive Dqd (K : PySem.W.Frag) (H : Hp) : V → PyData → Prop
  | non : Dqd K H .non .none
  | bl (b : Bool) : Dqd K H (.bl b) (.bool b)
  | int (i : Int) : Dqd K H (.int i) (.int i)
  | str (x : Str) : Dqd K H (.str x) (.str x)
  | lst {a : Addr} {xs : List V} {ds : List PyData} : SqL K H a xs → DqdAll K H xs ds → Dqd K H (.ref a) (.list ds)
  | tup {a : Addr} {xs : List V} {ds : List PyData} : SqT K H a xs → DqdAll K H xs ds → Dqd K H (.ref a) (.tuple ds)
  | dK {a : Addr} {kvs : List (Key × V)} : H a = some (.dK kvs) → Dqd K H (.ref a) (.dict [])
inductive DqdAll (K : PySem.W.Frag) (H : Hp) : List V → List PyData → Prop
  | nil : DqdAll K H [] []
  | cons {v : V} {vs : List V} {d : PyData} {ds : List PyData} : Dqd K H v d → DqdAll K H vs ds → DqdAll K H (v :: vs) (d :: ds)
end
mutual
theorem dqd_of {K : PySem.W.Frag} {H : Hp} : ∀ {v : V} {d : PyData}, Dp K H v d → Dqd K H v d
  | _, _, .non => .non
  | _, _, .bl b => .bl b
  | _, _, .int i => .int i
  | _, _, .str x => .str x
  | _, _, .lst s a => .lst s (dqdAll_of a)
  | _, _, .tup s a => .tup s (dqdAll_of a)
theorem dqdAll_of {K : PySem.W.Frag} {H : Hp} : ∀ {vs : List V} {ds : List PyData}, DpAll K H vs ds → DqdAll K H vs ds
  | _, _, .nil => .nil
  | _, _, .cons h t => .cons (dqd_of h) (dqdAll_of t)
end
mutual
theorem Dqd.same {K : PySem.W.Frag} {H H' : Hp} (s : Same H H') : ∀ {v : V} {d : PyData}, Dqd K H v d → Dqd K H' v d
  | _, _, .non => .non
  | _, _, .bl b => .bl b
  | _, _, .int i => .int i
  | _, _, .str x => .str x
  | _, _, .lst q a => .lst (Same.seq s q) (DqdAll.same s a)
  | _, _, .tup q a => .tup (sqT_same q s) (DqdAll.same s a)
  | _, _, .dK e => .dK (s _ _ e)
theorem DqdAll.same {K : PySem.W.Frag} {H H' : Hp} (s : Same H H') : ∀ {vs : List V} {ds : List PyData}, DqdAll K H vs ds → DqdAll K H' vs ds
  | _, _, .nil => .nil
  | _, _, .cons h t => .cons (Dqd.same s h) (DqdAll.same s t)
end
theorem dqd_row {K : PySem.W.Frag} {H : Hp} {v : V} {d : PyData} {ds : List PyData} (h : Dqd K H v d) (e : RK.rowsOf d = some ds) : ∃ a xs, v = .ref a ∧ SeqAt K H a xs ∧ DqdAll K H xs ds := by
  cases h with
  | lst q a => cases e; exact ⟨_, _, rfl, .inl q, a⟩
  | tup q a => cases e; exact ⟨_, _, rfl, .inr q, a⟩
  | non => cases e
  | bl b => cases e
  | int i => cases e
  | str x => cases e
  | dK q => cases e
theorem dqdAll_len {K : PySem.W.Frag} {H : Hp} : ∀ {vs : List V} {ds : List PyData}, DqdAll K H vs ds → vs.length = ds.length
  | _, _, .nil => rfl
  | _, _, .cons _ t => by rw [List.length_cons, List.length_cons, dqdAll_len t]
/-- rows of numbers below n are data without dicts -/
theorem dqd_below {K : PySem.W.Frag} {H : Hp} {n : Nat} {v : V} {d : PyData} (h : Dqd K H v d) (b : RK.belowB n d = true) : Dp K H v d := by
  cases h with
  | int i => exact .int i
  | non => cases b
  | bl c => cases b
  | str x => cases b
  | lst q a => cases b
  | tup q a => cases b
  | dK q => cases b
theorem dqdAll_dp {K : PySem.W.Frag} {H : Hp} {P : PyData → Bool} (step : ∀ {v d}, Dqd K H v d → P d = true → Dp K H v d) : ∀ {vs : List V} {ds : List PyData}, DqdAll K H vs ds → ds.all P = true → DpAll K H vs ds
  | _, _, .nil, _ => .nil
  | _, _, .cons h t, e => by
    rw [List.all_cons, Bool.and_eq_true] at e
    exact .cons (step h e.1) (dqdAll_dp step t e.2)
theorem dqd_rows {K : PySem.W.Frag} {H : Hp} {P : PyData → Bool} (step : ∀ {v d}, Dqd K H v d → P d = true → Dp K H v d) {v : V} {d : PyData} {ds : List PyData} (h : Dqd K H v d) (e : RK.rowsOf d = some ds) (a : ds.all P = true) : Dp K H v d := by
  cases h with
  | lst q t => cases e; exact .lst q (dqdAll_dp step t a)
  | tup q t => cases e; exact .tup q (dqdAll_dp step t a)
  | non => cases e
  | bl b => cases e
  | int i => cases e
  | str x => cases e
  | dK q => cases e
theorem dqd_side {K : PySem.W.Frag} {H : Hp} {n : Nat} {v : V} {d : PyData} (h : Dqd K H v d) (b : RK.sideB n d = true) : Dp K H v d := by
  unfold RK.sideB at b
  cases e : RK.rowsOf d with
  | none => rw [e] at b; cases b
  | some ds =>
    rw [e] at b
    dsimp only at b
    rw [Bool.and_eq_true] at b
    exact dqd_rows (fun h b => dqd_below h b) h e b.2
theorem dqd_square {K : PySem.W.Frag} {H : Hp} {n : Nat} {v : V} {d : PyData} (h : Dqd K H v d) (b : RK.squareB n d = true) : Dp K H v d := by
  unfold RK.squareB at b
  cases e : RK.rowsOf d with
  | none => rw [e] at b; cases b
  | some ds =>
    rw [e] at b
    dsimp only at b
    rw [Bool.and_eq_true] at b
    exact dqd_rows (fun h b => dqd_side h b) h e b.2
theorem dqdAll_get {K : PySem.W.Frag} {H : Hp} : ∀ {vs : List V} {ds : List PyData}, DqdAll K H vs ds → ∀ {i : Nat} {v : V}, vs[i]? = some v → ∃ d, ds[i]? = some d ∧ Dqd K H v d
  | _, _, .nil, i, v, e => by simp at e
  | _, _, .cons (d := d) h1 h2, i, v, e => by
    cases i with
    | zero => simp at e; subst e; exact ⟨d, rfl, h1⟩
    | succ i => simp at e; obtain ⟨d', q1, q2⟩ := dqdAll_get h2 e; exact ⟨d', by simpa using q1, q2⟩
theorem kitA_seq {K : PySem.W.Frag} {t : String} (h1 : PySem.W.kitOne K (.type t) (.type "list") = some false) (h2 : PySem.W.kitOne K (.type t) (.type "tuple") = some false) : PySem.W.kitAny K (.type t) [.type "list", .type "tuple"] = some false := by
  unfold PySem.W.kitAny
  rw [h1]
  unfold PySem.W.kitAny
  rw [h2]
  rfl
theorem kitAl {K : PySem.W.Frag} : PySem.W.kitAny K (.type "list") [.type "list", .type "tuple"] = some true := by
  unfold PySem.W.kitAny
  rw [kit_ty (r := true) (by decide +kernel)]
theorem kitAt {K : PySem.W.Frag} : PySem.W.kitAny K (.type "tuple") [.type "list", .type "tuple"] = some true := by
  unfold PySem.W.kitAny
  rw [kit_ty (r := false) (by decide +kernel)]
  unfold PySem.W.kitAny
  rw [kit_ty (r := true) (by decide +kernel)]
theorem dqd_isInt {K : PySem.W.Frag} {H : Hp} {d : PyData} {v : V} (h : Dqd K H v d) : ∃ (t : Value) (b1 b2 : Bool), TyX K H v t ∧ PySem.W.kitOne K t (.type "int") = some b1 ∧ PySem.W.kitOne K t (.type "bool") = some b2 ∧ RK.intB d = (b1 && !b2) := by
  have seq : ∀ {a : Addr} {xs : List V} {d : PyData}, SeqAt K H a xs → RK.intB d = false → ∃ (t : Value) (b1 b2 : Bool), TyX K H (.ref a) t ∧ PySem.W.kitOne K t (.type "int") = some b1 ∧ PySem.W.kitOne K t (.type "bool") = some b2 ∧ RK.intB d = (b1 && !b2) := fun q e => by
    obtain ⟨t, ty, z⟩ := SeqAt.ty q
    rcases z with rfl | rfl
    · exact ⟨_, false, false, ty, kit_ty (by decide +kernel), kit_ty (by decide +kernel), e⟩
    · exact ⟨_, false, false, ty, kit_ty (by decide +kernel), kit_ty (by decide +kernel), e⟩
  cases h with
  | non => exact dp_isInt (d := .none) .non
  | bl b => exact dp_isInt (d := .bool b) (.bl b)
  | int i => exact dp_isInt (d := .int i) (.int i)
  | str x => exact dp_isInt (d := .str x) (.str x)
  | lst q a => exact seq (.inl q) rfl
  | tup q a => exact seq (.inr q) rfl
  | dK q => exact ⟨_, false, false, .base (.dK q), kit_ty (by decide +kernel), kit_ty (by decide +kernel), rfl⟩
theorem dqd_isRow {K : PySem.W.Frag} {H : Hp} {d : PyData} {v : V} (h : Dqd K H v d) : ∃ t, TyX K H v t ∧ PySem.W.kitAny K t [.type "list", .type "tuple"] = some (RK.rowsOf d).isSome := by
  cases h with
  | non => exact dp_isRow (d := .none) .non
  | bl b => exact dp_isRow (d := .bool b) (.bl b)
  | int i => exact dp_isRow (d := .int i) (.int i)
  | str x => exact dp_isRow (d := .str x) (.str x)
  | lst q a =>
    obtain ⟨t, ty, z⟩ := SeqAt.ty (.inl q)
    refine ⟨t, ty, ?_⟩
    rcases z with rfl | rfl
    · exact kitAl
    · exact kitAt
  | tup q a =>
    obtain ⟨t, ty, z⟩ := SeqAt.ty (.inr q)
    refine ⟨t, ty, ?_⟩
    rcases z with rfl | rfl
    · exact kitAl
    · exact kitAt
  | dK q => exact dq_isRow (d := .dict []) (.inr ⟨rfl, _, _, rfl, q⟩)
theorem dqd_tab {K : PySem.W.Frag} {H : Hp} {d : PyData} {v : V} {n : Nat} (h : Dqd K H v d) (e : RK.squareB n d = true) : ∃ a, v = .ref a ∧ TabX K H a n (RK.tabf d) ∧ ∀ i j, i < n → j < n → RK.tabf d i j < n :=
  dp_tab (dqd_square h e) e
end OQ

/-! ### what is no square -/
namespace RK
open PySem L2 PySem.Spec
def NoSq (d : PyData) : Prop := ∀ m, 2 ≤ m → squareB m d = false
def tb (xss : List (List PyData)) : PyData := .list (xss.map .list)
theorem sq_tb {m : Nat} {xss : List (List PyData)} (h : squareB m (tb xss) = true) : xss.length = m ∧ ∀ xs ∈ xss, xs.length = m ∧ ∀ x ∈ xs, belowB m x = true := by
  unfold squareB tb rowsOf at h
  dsimp only at h
  rw [Bool.and_eq_true, decide_eq_true_eq, List.length_map, List.all_eq_true] at h
  refine ⟨h.1, fun xs m1 => ?_⟩
  have g := h.2 _ (List.mem_map.mpr ⟨xs, m1, rfl⟩)
  unfold sideB rowsOf at g
  dsimp only at g
  rw [Bool.and_eq_true, decide_eq_true_eq, List.all_eq_true] at g
  exact g
theorem noSq_of {xss : List (List PyData)} (h : ∀ m, 2 ≤ m → xss.length = m → (∀ xs ∈ xss, xs.length = m ∧ ∀ x ∈ xs, belowB m x = true) → False) : NoSq (tb xss) := fun m m2 => by
  cases e : squareB m (tb xss) with
  | false => rfl
  | true => exact (h m m2 (sq_tb e).1 (sq_tb e).2).elim
/-- rows of n cells each, one more or one fewer than n of them -/
theorem noSq_rows {n : Nat} {xss : List (List PyData)} (l : xss.length ≠ n) (n1 : 1 ≤ xss.length) (all : ∀ xs ∈ xss, xs.length = n) : NoSq (tb xss) := noSq_of fun m _ e h => by
  match xss, n1 with
  | xs :: xss, _ =>
    have h1 := (h xs (List.mem_cons_self ..)).1
    have h2 := all xs (List.mem_cons_self ..)
    exact l (by rw [e, ← h1, h2])
/-- a row of another length than the number of rows -/
theorem noSq_len {xss : List (List PyData)} {xs : List PyData} (m1 : xs ∈ xss) (l : xs.length ≠ xss.length) : NoSq (tb xss) := noSq_of fun _ _ e h => l (by rw [(h xs m1).1, e])
/-- a cell that is not below the number of rows -/
theorem noSq_cell {xss : List (List PyData)} {xs : List PyData} {x : PyData} (m1 : xs ∈ xss) (m2 : x ∈ xs) (b : belowB xss.length x = false) : NoSq (tb xss) := noSq_of fun m _ e h => by
  have := (h xs m1).2 x m2
  rw [← e, b] at this
  cases this
theorem noSq_few {d : PyData} (h : ∀ ds, rowsOf d = some ds → ds.length ≤ 1) : NoSq d := fun m m2 => by
  unfold squareB
  cases e : rowsOf d with
  | none => rfl
  | some ds =>
    have := h ds e
    dsimp only
    rw [decide_eq_false (by omega), Bool.false_and]
theorem size_no0 {a b c d : PyData} (h : NoSq a) : sizeB a b c d = false := by
  unfold sizeB
  cases e : rowsOf a with
  | none => rfl
  | some ds =>
    dsimp only
    by_cases c2 : 2 ≤ ds.length
    · rw [h _ c2, Bool.false_and, Bool.and_false]
    · rw [decide_eq_false (fun z => c2 z.1), Bool.false_and]
theorem size_no1 {a b c d : PyData} (h : NoSq b) : sizeB a b c d = false := by
  unfold sizeB
  cases e : rowsOf a with
  | none => rfl
  | some ds =>
    dsimp only
    by_cases c2 : 2 ≤ ds.length
    · rw [h _ c2, Bool.false_and, Bool.and_false, Bool.and_false]
    · rw [decide_eq_false (fun z => c2 z.1), Bool.false_and]
theorem size_no2 {a b c d : PyData} {ds : List PyData} (e : rowsOf a = some ds) (h : belowB ds.length c = false) : sizeB a b c d = false := by
  unfold sizeB
  rw [e]
  dsimp only
  rw [h, Bool.false_and, Bool.and_false, Bool.and_false, Bool.and_false]
theorem size_no3 {a b c d : PyData} {ds : List PyData} (e : rowsOf a = some ds) (h : belowB ds.length d = false) : sizeB a b c d = false := by
  unfold sizeB
  rw [e]
  dsimp only
  rw [h, Bool.and_false, Bool.and_false, Bool.and_false, Bool.and_false]
end RK

local macro_rules | `(tactic| walk_at "txN") => `(tactic| first | assumption | omega | (simp only [List.length_append, List.length_cons, List.length_nil, List.length_drop, List.length_take] at *; omega))
local macro_rules | `(tactic| walk_at "tx1") => `(tactic| first
  | (with_reducible refine RD.d_break ?_)
  | (with_reducible refine RD.d_eqW ?_)
  | (with_reducible refine RD.d_neW ?_)
  | ((with_reducible (refine' RD.d_lenW ?n ?k)); (case n => walk_at "txN"))
  | ((with_reducible (refine' RD.d_addS ?n ?k)); (case n => walk_at "txN")))
local macro_rules | `(tactic| walk_at "tx") => `(tactic| repeat (first | walk_at "tx1" | walk_at "rd1" | walk_at "rd2"))

namespace Toy
open PySem L2
def top (i : Nat) : Stmt := PySem.Challenge.pw_watchedways_k34_whole_lots_of_things.main.body.getD i (.Pass ⟨0, 0, 0, 0⟩)
abbrev s_WayError__init : Stmt := inClass (top 2) 0
theorem sc_WayError__init : FnScope ["self", "value"] ["self", "value"] (defScope s_WayError__init) := ⟨rfl, rfl, rfl, by decide +kernel, rfl, by decide +kernel, by decide +kernel⟩
abbrev s_is_integer : Stmt := top 6
theorem sc_is_integer : FnScope ["thing"] ["thing"] (defScope s_is_integer) := ⟨rfl, rfl, rfl, by decide +kernel, rfl, by decide +kernel, by decide +kernel⟩
abbrev s_is_row : Stmt := top 7
theorem sc_is_row : FnScope ["thing"] ["thing"] (defScope s_is_row) := ⟨rfl, rfl, rfl, by decide +kernel, rfl, by decide +kernel, by decide +kernel⟩
abbrev s_first_fault : Stmt := top 11
theorem sc_first_fault : FnScope ["joins", "products", "none", "one"] ["joins", "products", "none", "one"] (defScope s_first_fault) := ⟨rfl, rfl, rfl, by decide +kernel, rfl, by decide +kernel, by decide +kernel⟩
abbrev s_size_fault : Stmt := top 12
theorem sc_size_fault : FnScope ["joins", "products", "none", "one", "many"] ["joins", "products", "none", "one"] (defScope s_size_fault) := ⟨rfl, rfl, rfl, by decide +kernel, rfl, by decide +kernel, by decide +kernel⟩
abbrev s_is_square : Stmt := top 13
theorem sc_is_square : FnScope ["many", "thing", "row"] ["many", "thing"] (defScope s_is_square) := ⟨rfl, rfl, rfl, by decide +kernel, rfl, by decide +kernel, by decide +kernel⟩
abbrev s_is_side : Stmt := top 14
theorem sc_is_side : FnScope ["many", "thing", "item"] ["many", "thing"] (defScope s_is_side) := ⟨rfl, rfl, rfl, by decide +kernel, rfl, by decide +kernel, by decide +kernel⟩
abbrev s_is_below : Stmt := top 15
theorem sc_is_below : FnScope ["many", "thing"] ["many", "thing"] (defScope s_is_below) := ⟨rfl, rfl, rfl, by decide +kernel, rfl, by decide +kernel, by decide +kernel⟩
abbrev s_none_fault : Stmt := top 16
theorem sc_none_fault : FnScope ["joins", "products", "none", "a"] ["joins", "products", "none"] (defScope s_none_fault) := ⟨rfl, rfl, rfl, by decide +kernel, rfl, by decide +kernel, by decide +kernel⟩
abbrev s_one_fault : Stmt := top 17
theorem sc_one_fault : FnScope ["products", "one", "a"] ["products", "one"] (defScope s_one_fault) := ⟨rfl, rfl, rfl, by decide +kernel, rfl, by decide +kernel, by decide +kernel⟩
abbrev s_idle_fault : Stmt := top 18
theorem sc_idle_fault : FnScope ["joins", "a"] ["joins"] (defScope s_idle_fault) := ⟨rfl, rfl, rfl, by decide +kernel, rfl, by decide +kernel, by decide +kernel⟩
abbrev s_swap_fault : Stmt := top 19
theorem sc_swap_fault : FnScope ["joins", "a", "b"] ["joins"] (defScope s_swap_fault) := ⟨rfl, rfl, rfl, by decide +kernel, rfl, by decide +kernel, by decide +kernel⟩
abbrev s_grouping_fault : Stmt := top 20
theorem sc_grouping_fault : FnScope ["word", "table", "worths", "a", "b", "c"] ["word", "table"] (defScope s_grouping_fault) := ⟨rfl, rfl, rfl, by decide +kernel, rfl, by decide +kernel, by decide +kernel⟩
abbrev s_over_fault : Stmt := top 21
theorem sc_over_fault : FnScope ["joins", "products", "worths", "a", "b", "c", "joined"] ["joins", "products"] (defScope s_over_fault) := ⟨rfl, rfl, rfl, by decide +kernel, rfl, by decide +kernel, by decide +kernel⟩
abbrev s_same_fault : Stmt := top 22
theorem sc_same_fault : FnScope ["none", "one"] ["none", "one"] (defScope s_same_fault) := ⟨rfl, rfl, rfl, by decide +kernel, rfl, by decide +kernel, by decide +kernel⟩
abbrev s_Reckoning__init : Stmt := inClass (top 26) 0
theorem sc_Reckoning__init : FnScope ["self", "joins", "products", "none", "one", "fault", "row", "worths", "a", "b", "c"] ["self", "joins", "products", "none", "one"] (defScope s_Reckoning__init) := ⟨rfl, rfl, rfl, by decide +kernel, rfl, by decide +kernel, by decide +kernel⟩
abbrev s_Reckoning__eq : Stmt := inClass (top 26) 1
theorem sc_Reckoning__eq : FnScope ["self", "other"] ["self", "other"] (defScope s_Reckoning__eq) := ⟨rfl, rfl, rfl, by decide +kernel, rfl, by decide +kernel, by decide +kernel⟩
abbrev s_Reckoning_Ujoined : Stmt := inClass (top 26) 10
theorem sc_Reckoning_Ujoined : FnScope ["self", "worths", "found", "worth"] ["self", "worths"] (defScope s_Reckoning_Ujoined) := ⟨rfl, rfl, rfl, by decide +kernel, rfl, by decide +kernel, by decide +kernel⟩
abbrev s_Reckoning_Umeet : Stmt := inClass (top 26) 11
theorem sc_Reckoning_Umeet : FnScope ["self", "a", "b", "below", "worth"] ["self", "a", "b"] (defScope s_Reckoning_Umeet) := ⟨rfl, rfl, rfl, by decide +kernel, rfl, by decide +kernel, by decide +kernel⟩
abbrev s_Reckoning_Uleft : Stmt := inClass (top 26) 12
theorem sc_Reckoning_Uleft : FnScope ["self", "a", "c", "row", "b"] ["self", "a", "c"] (defScope s_Reckoning_Uleft) := ⟨rfl, rfl, rfl, by decide +kernel, rfl, by decide +kernel, by decide +kernel⟩
abbrev s_Reckoning_Uright : Stmt := inClass (top 26) 13
theorem sc_Reckoning_Uright : FnScope ["self", "c", "a", "column", "row", "b"] ["self", "c", "a"] (defScope s_Reckoning_Uright) := ⟨rfl, rfl, rfl, by decide +kernel, rfl, by decide +kernel, by decide +kernel⟩
abbrev s_lots : Stmt := top 29
theorem sc_lots : FnScope ["products", "one", "fault", "every", "a", "b"] ["products", "one"] (defScope s_lots) := ⟨rfl, rfl, rfl, by decide +kernel, rfl, by decide +kernel, by decide +kernel⟩
abbrev s_lots_fault : Stmt := top 30
theorem sc_lots_fault : FnScope ["products", "one"] ["products", "one"] (defScope s_lots_fault) := ⟨rfl, rfl, rfl, by decide +kernel, rfl, by decide +kernel, by decide +kernel⟩
abbrev s_product_of_lots : Stmt := top 31
theorem sc_product_of_lots : FnScope ["products", "a", "b", "things", "made", "one", "other"] ["products", "a", "b"] (defScope s_product_of_lots) := ⟨rfl, rfl, rfl, by decide +kernel, rfl, by decide +kernel, by decide +kernel⟩
abbrev s_law_hand : Stmt := top 33
theorem sc_law_hand : FnScope ["script", "cells", "cell"] ["script"] (defScope s_law_hand) := ⟨rfl, rfl, rfl, by decide +kernel, rfl, by decide +kernel, by decide +kernel⟩
abbrev s_law_draw : Stmt := top 34
theorem sc_law_draw : FnScope ["hand", "many", "cell", "digit", "number"] ["hand", "many"] (defScope s_law_draw) := ⟨rfl, rfl, rfl, by decide +kernel, rfl, by decide +kernel, by decide +kernel⟩
abbrev s_law_rows : Stmt := top 35
theorem sc_law_rows : FnScope ["rows", "row"] ["rows"] (defScope s_law_rows) := ⟨rfl, rfl, rfl, by decide +kernel, rfl, by decide +kernel, by decide +kernel⟩
abbrev s_law_is_told : Stmt := top 36
theorem sc_law_is_told : FnScope ["reckoning", "told"] ["reckoning", "told"] (defScope s_law_is_told) := ⟨rfl, rfl, rfl, by decide +kernel, rfl, by decide +kernel, by decide +kernel⟩
abbrev s_law_things : Stmt := top 37
theorem sc_law_things : FnScope ["hand", "found"] ["hand"] (defScope s_law_things) := ⟨rfl, rfl, rfl, by decide +kernel, rfl, by decide +kernel, by decide +kernel⟩
abbrev s_law_named : Stmt := top 38
theorem sc_law_named : FnScope ["hand", "products", "one", "many", "rest", "order", "turn", "back", "a", "b"] ["hand", "products", "one"] (defScope s_law_named) := ⟨rfl, rfl, rfl, by decide +kernel, rfl, by decide +kernel, by decide +kernel⟩
abbrev s_law_broken : Stmt := top 39
theorem sc_law_broken : FnScope ["products", "one", "things", "a", "b", "c"] ["products", "one"] (defScope s_law_broken) := ⟨rfl, rfl, rfl, by decide +kernel, rfl, by decide +kernel, by decide +kernel⟩
abbrev s_law_sum : Stmt := top 40
theorem sc_law_sum : FnScope ["things", "total", "thing"] ["things"] (defScope s_law_sum) := ⟨rfl, rfl, rfl, by decide +kernel, rfl, by decide +kernel, by decide +kernel⟩
abbrev s_law_lots : Stmt := top 41
theorem sc_law_lots : FnScope ["products", "one", "many", "size", "lots_of", "lot", "thing", "joins", "rows", "a", "b", "both", "all_products", "x", "y"] ["products", "one"] (defScope s_law_lots) := ⟨rfl, rfl, rfl, by decide +kernel, rfl, by decide +kernel, by decide +kernel⟩
abbrev s_law_asked : Stmt := top 42
theorem sc_law_asked : FnScope ["products", "one", "told", "e"] ["products", "one"] (defScope s_law_asked) := ⟨rfl, rfl, rfl, by decide +kernel, rfl, by decide +kernel, by decide +kernel⟩
abbrev s_law_wrong : Stmt := top 43
theorem sc_law_wrong : FnScope ["hand", "products", "one", "many", "rows", "row", "way", "a", "b"] ["hand", "products", "one"] (defScope s_law_wrong) := ⟨rfl, rfl, rfl, by decide +kernel, rfl, by decide +kernel, by decide +kernel⟩
abbrev s_law : Stmt := top 44
theorem sc_law : FnScope ["script", "hand", "products", "one", "many", "turn", "row", "broken", "kept", "handed", "told", "rows", "other"] ["script"] (defScope s_law) := ⟨rfl, rfl, rfl, by decide +kernel, rfl, by decide +kernel, by decide +kernel⟩
structure Top (K : PySem.W.Frag) (mg : Str → Option Value) where
  C_Reckoning : Addr
  cl_Reckoning : Cls K C_Reckoning
  g_Reckoning : mg "Reckoning" = some (.ref C_Reckoning)
  na_Reckoning_joins : NoAttr K C_Reckoning "joins"
  na_Reckoning_products : NoAttr K C_Reckoning "products"
  na_Reckoning_none : NoAttr K C_Reckoning "none"
  na_Reckoning_one : NoAttr K C_Reckoning "one"
  na_Reckoning__meets : NoAttr K C_Reckoning "_meets"
  na_Reckoning__lefts : NoAttr K C_Reckoning "_lefts"
  na_Reckoning__rights : NoAttr K C_Reckoning "_rights"
  f_WayError__init : Addr
  fd_WayError__init : FuncData
  F_WayError__init : Fun K "__init__" "WayError.__init__" s_WayError__init f_WayError__init fd_WayError__init
  b_WayError__init : Binds K fd_WayError__init ["self", "value"] []
  f_is_integer : Addr
  fd_is_integer : FuncData
  F_is_integer : Fun K "is_integer" "is_integer" s_is_integer f_is_integer fd_is_integer
  b_is_integer : Binds K fd_is_integer ["thing"] []
  g_is_integer : mg "is_integer" = some (.ref f_is_integer)
  f_is_row : Addr
  fd_is_row : FuncData
  F_is_row : Fun K "is_row" "is_row" s_is_row f_is_row fd_is_row
  b_is_row : Binds K fd_is_row ["thing"] []
  g_is_row : mg "is_row" = some (.ref f_is_row)
  f_first_fault : Addr
  fd_first_fault : FuncData
  F_first_fault : Fun K "first_fault" "first_fault" s_first_fault f_first_fault fd_first_fault
  b_first_fault : Binds K fd_first_fault ["joins", "products", "none", "one"] []
  g_first_fault : mg "first_fault" = some (.ref f_first_fault)
  f_size_fault : Addr
  fd_size_fault : FuncData
  F_size_fault : Fun K "size_fault" "size_fault" s_size_fault f_size_fault fd_size_fault
  b_size_fault : Binds K fd_size_fault ["joins", "products", "none", "one"] []
  g_size_fault : mg "size_fault" = some (.ref f_size_fault)
  f_is_square : Addr
  fd_is_square : FuncData
  F_is_square : Fun K "is_square" "is_square" s_is_square f_is_square fd_is_square
  b_is_square : Binds K fd_is_square ["many", "thing"] []
  g_is_square : mg "is_square" = some (.ref f_is_square)
  f_is_side : Addr
  fd_is_side : FuncData
  F_is_side : Fun K "is_side" "is_side" s_is_side f_is_side fd_is_side
  b_is_side : Binds K fd_is_side ["many", "thing"] []
  g_is_side : mg "is_side" = some (.ref f_is_side)
  f_is_below : Addr
  fd_is_below : FuncData
  F_is_below : Fun K "is_below" "is_below" s_is_below f_is_below fd_is_below
  b_is_below : Binds K fd_is_below ["many", "thing"] []
  g_is_below : mg "is_below" = some (.ref f_is_below)
  f_none_fault : Addr
  fd_none_fault : FuncData
  F_none_fault : Fun K "none_fault" "none_fault" s_none_fault f_none_fault fd_none_fault
  b_none_fault : Binds K fd_none_fault ["joins", "products", "none"] []
  g_none_fault : mg "none_fault" = some (.ref f_none_fault)
  f_one_fault : Addr
  fd_one_fault : FuncData
  F_one_fault : Fun K "one_fault" "one_fault" s_one_fault f_one_fault fd_one_fault
  b_one_fault : Binds K fd_one_fault ["products", "one"] []
  g_one_fault : mg "one_fault" = some (.ref f_one_fault)
  f_idle_fault : Addr
  fd_idle_fault : FuncData
  F_idle_fault : Fun K "idle_fault" "idle_fault" s_idle_fault f_idle_fault fd_idle_fault
  b_idle_fault : Binds K fd_idle_fault ["joins"] []
  g_idle_fault : mg "idle_fault" = some (.ref f_idle_fault)
  f_swap_fault : Addr
  fd_swap_fault : FuncData
  F_swap_fault : Fun K "swap_fault" "swap_fault" s_swap_fault f_swap_fault fd_swap_fault
  b_swap_fault : Binds K fd_swap_fault ["joins"] []
  g_swap_fault : mg "swap_fault" = some (.ref f_swap_fault)
  f_grouping_fault : Addr
  fd_grouping_fault : FuncData
  F_grouping_fault : Fun K "grouping_fault" "grouping_fault" s_grouping_fault f_grouping_fault fd_grouping_fault
  b_grouping_fault : Binds K fd_grouping_fault ["word", "table"] []
  g_grouping_fault : mg "grouping_fault" = some (.ref f_grouping_fault)
  f_over_fault : Addr
  fd_over_fault : FuncData
  F_over_fault : Fun K "over_fault" "over_fault" s_over_fault f_over_fault fd_over_fault
  b_over_fault : Binds K fd_over_fault ["joins", "products"] []
  g_over_fault : mg "over_fault" = some (.ref f_over_fault)
  f_same_fault : Addr
  fd_same_fault : FuncData
  F_same_fault : Fun K "same_fault" "same_fault" s_same_fault f_same_fault fd_same_fault
  b_same_fault : Binds K fd_same_fault ["none", "one"] []
  g_same_fault : mg "same_fault" = some (.ref f_same_fault)
  f_Reckoning__init : Addr
  fd_Reckoning__init : FuncData
  F_Reckoning__init : Fun K "__init__" "Reckoning.__init__" s_Reckoning__init f_Reckoning__init fd_Reckoning__init
  b_Reckoning__init : Binds K fd_Reckoning__init ["self", "joins", "products", "none", "one"] []
  M_Reckoning : Mk K C_Reckoning f_Reckoning__init
  f_Reckoning__eq : Addr
  fd_Reckoning__eq : FuncData
  F_Reckoning__eq : Fun K "__eq__" "Reckoning.__eq__" s_Reckoning__eq f_Reckoning__eq fd_Reckoning__eq
  b_Reckoning__eq : Binds K fd_Reckoning__eq ["self", "other"] []
  m_Reckoning__eq : Meth K C_Reckoning "__eq__" f_Reckoning__eq
  f_Reckoning_Ujoined : Addr
  fd_Reckoning_Ujoined : FuncData
  F_Reckoning_Ujoined : Fun K "_joined" "Reckoning._joined" s_Reckoning_Ujoined f_Reckoning_Ujoined fd_Reckoning_Ujoined
  b_Reckoning_Ujoined : Binds K fd_Reckoning_Ujoined ["self", "worths"] []
  m_Reckoning_Ujoined : Meth K C_Reckoning "_joined" f_Reckoning_Ujoined
  f_Reckoning_Umeet : Addr
  fd_Reckoning_Umeet : FuncData
  F_Reckoning_Umeet : Fun K "_meet" "Reckoning._meet" s_Reckoning_Umeet f_Reckoning_Umeet fd_Reckoning_Umeet
  b_Reckoning_Umeet : Binds K fd_Reckoning_Umeet ["self", "a", "b"] []
  m_Reckoning_Umeet : Meth K C_Reckoning "_meet" f_Reckoning_Umeet
  f_Reckoning_Uleft : Addr
  fd_Reckoning_Uleft : FuncData
  F_Reckoning_Uleft : Fun K "_left" "Reckoning._left" s_Reckoning_Uleft f_Reckoning_Uleft fd_Reckoning_Uleft
  b_Reckoning_Uleft : Binds K fd_Reckoning_Uleft ["self", "a", "c"] []
  m_Reckoning_Uleft : Meth K C_Reckoning "_left" f_Reckoning_Uleft
  f_Reckoning_Uright : Addr
  fd_Reckoning_Uright : FuncData
  F_Reckoning_Uright : Fun K "_right" "Reckoning._right" s_Reckoning_Uright f_Reckoning_Uright fd_Reckoning_Uright
  b_Reckoning_Uright : Binds K fd_Reckoning_Uright ["self", "c", "a"] []
  m_Reckoning_Uright : Meth K C_Reckoning "_right" f_Reckoning_Uright
  f_lots : Addr
  fd_lots : FuncData
  F_lots : Fun K "lots" "lots" s_lots f_lots fd_lots
  b_lots : Binds K fd_lots ["products", "one"] []
  g_lots : mg "lots" = some (.ref f_lots)
  f_lots_fault : Addr
  fd_lots_fault : FuncData
  F_lots_fault : Fun K "lots_fault" "lots_fault" s_lots_fault f_lots_fault fd_lots_fault
  b_lots_fault : Binds K fd_lots_fault ["products", "one"] []
  g_lots_fault : mg "lots_fault" = some (.ref f_lots_fault)
  f_product_of_lots : Addr
  fd_product_of_lots : FuncData
  F_product_of_lots : Fun K "product_of_lots" "product_of_lots" s_product_of_lots f_product_of_lots fd_product_of_lots
  b_product_of_lots : Binds K fd_product_of_lots ["products", "a", "b"] []
  g_product_of_lots : mg "product_of_lots" = some (.ref f_product_of_lots)
  f_law_hand : Addr
  fd_law_hand : FuncData
  F_law_hand : Fun K "_law_hand" "_law_hand" s_law_hand f_law_hand fd_law_hand
  b_law_hand : Binds K fd_law_hand ["script"] []
  g_law_hand : mg "_law_hand" = some (.ref f_law_hand)
  f_law_draw : Addr
  fd_law_draw : FuncData
  F_law_draw : Fun K "_law_draw" "_law_draw" s_law_draw f_law_draw fd_law_draw
  b_law_draw : Binds K fd_law_draw ["hand", "many"] []
  g_law_draw : mg "_law_draw" = some (.ref f_law_draw)
  f_law_rows : Addr
  fd_law_rows : FuncData
  F_law_rows : Fun K "_law_rows" "_law_rows" s_law_rows f_law_rows fd_law_rows
  b_law_rows : Binds K fd_law_rows ["rows"] []
  g_law_rows : mg "_law_rows" = some (.ref f_law_rows)
  f_law_is_told : Addr
  fd_law_is_told : FuncData
  F_law_is_told : Fun K "_law_is_told" "_law_is_told" s_law_is_told f_law_is_told fd_law_is_told
  b_law_is_told : Binds K fd_law_is_told ["reckoning", "told"] []
  g_law_is_told : mg "_law_is_told" = some (.ref f_law_is_told)
  f_law_things : Addr
  fd_law_things : FuncData
  F_law_things : Fun K "_law_things" "_law_things" s_law_things f_law_things fd_law_things
  b_law_things : Binds K fd_law_things ["hand"] []
  g_law_things : mg "_law_things" = some (.ref f_law_things)
  f_law_named : Addr
  fd_law_named : FuncData
  F_law_named : Fun K "_law_named" "_law_named" s_law_named f_law_named fd_law_named
  b_law_named : Binds K fd_law_named ["hand", "products", "one"] []
  g_law_named : mg "_law_named" = some (.ref f_law_named)
  f_law_broken : Addr
  fd_law_broken : FuncData
  F_law_broken : Fun K "_law_broken" "_law_broken" s_law_broken f_law_broken fd_law_broken
  b_law_broken : Binds K fd_law_broken ["products", "one"] []
  g_law_broken : mg "_law_broken" = some (.ref f_law_broken)
  f_law_sum : Addr
  fd_law_sum : FuncData
  F_law_sum : Fun K "_law_sum" "_law_sum" s_law_sum f_law_sum fd_law_sum
  b_law_sum : Binds K fd_law_sum ["things"] []
  g_law_sum : mg "_law_sum" = some (.ref f_law_sum)
  f_law_lots : Addr
  fd_law_lots : FuncData
  F_law_lots : Fun K "_law_lots" "_law_lots" s_law_lots f_law_lots fd_law_lots
  b_law_lots : Binds K fd_law_lots ["products", "one"] []
  g_law_lots : mg "_law_lots" = some (.ref f_law_lots)
  f_law_asked : Addr
  fd_law_asked : FuncData
  F_law_asked : Fun K "_law_asked" "_law_asked" s_law_asked f_law_asked fd_law_asked
  b_law_asked : Binds K fd_law_asked ["products", "one"] []
  g_law_asked : mg "_law_asked" = some (.ref f_law_asked)
  f_law_wrong : Addr
  fd_law_wrong : FuncData
  F_law_wrong : Fun K "_law_wrong" "_law_wrong" s_law_wrong f_law_wrong fd_law_wrong
  b_law_wrong : Binds K fd_law_wrong ["hand", "products", "one"] []
  g_law_wrong : mg "_law_wrong" = some (.ref f_law_wrong)
  f_law : Addr
  fd_law : FuncData
  F_law : Fun K "law" "law" s_law f_law fd_law
  b_law : Binds K fd_law ["script"] []
  g_law : mg "law" = some (.ref f_law)
  n_abs : mg "abs" = none
  n_all : mg "all" = none
  n_bool : mg "bool" = none
  n_int : mg "int" = none
  n_isinstance : mg "isinstance" = none
  n_len : mg "len" = none
  n_list : mg "list" = none
  n_range : mg "range" = none
  n_sorted : mg "sorted" = none
  n_tuple : mg "tuple" = none
  k_FEWEST_WORTHS : PySem.Tok
  g_FEWEST_WORTHS : mg "FEWEST_WORTHS" = some (.int 2 k_FEWEST_WORTHS)
  k_MOST_WORTHS : PySem.Tok
  g_MOST_WORTHS : mg "MOST_WORTHS" = some (.int 16 k_MOST_WORTHS)
  k_MOST_THINGS : PySem.Tok
  g_MOST_THINGS : mg "MOST_THINGS" = some (.int 4 k_MOST_THINGS)
  hnO : PySem.W.specialIn K (.builtin "object.__class__") "__get__" = some (some (.builtin "getset_descriptor.__get__"))
  htO : PySem.W.takesIn K (.builtin "object.__class__") = some true
  ha_Reckoning : PySem.W.findIn K (.ref C_Reckoning) "__class__" = some (some (.builtin "object.__class__"))
  hm_Reckoning : PySem.W.mroIn K C_Reckoning (.type "object") = some true
  tI : PySem.W.typeIn K (.ref f_WayError__init) = some (.type "function")
  kI_Reckoning : PySem.W.kitOne K (.ref C_Reckoning) (.type "int") = some false
  kB_Reckoning : PySem.W.kitOne K (.ref C_Reckoning) (.type "bool") = some false
  C_WayError : Addr
  g_WayError : mg "WayError" = some (.ref C_WayError)
  ne_Reckoning : PySem.W.findIn K (.ref C_Reckoning) "__ne__" = some (some (.builtin "object.__ne__"))
  kRR : PySem.W.kitOne K (.ref C_Reckoning) (.ref C_Reckoning) = some true
  nfR : PySem.W.notFirst K C_Reckoning (.ref C_Reckoning) = true
  C_BadReckoning : Addr
  g_BadReckoning : mg "BadReckoning" = some (.ref C_BadReckoning)
  oex_BadReckoning : OexC K C_BadReckoning
  i_BadReckoning : PySem.W.findIn K (.ref C_BadReckoning) "__init__" = some (some (.ref f_WayError__init))
  v_BadReckoning : PySem.W.findIn K (.ref C_BadReckoning) "value" = some none
  xf_BadReckoning : XfC K C_BadReckoning
  exI_BadReckoning : ExcC K C_BadReckoning
  exm_BadReckoning : PySem.W.exmOne K (.ref C_BadReckoning) (.ref C_BadReckoning) = some true
  exW_BadReckoning : PySem.W.exmOne K (.ref C_BadReckoning) (.ref C_WayError) = some true
  kE_BadReckoning : PySem.W.kitOne K (.ref C_BadReckoning) (.ref C_BadReckoning) = some true
  C_BadWorth : Addr
  g_BadWorth : mg "BadWorth" = some (.ref C_BadWorth)
  oex_BadWorth : OexC K C_BadWorth
  i_BadWorth : PySem.W.findIn K (.ref C_BadWorth) "__init__" = some (some (.ref f_WayError__init))
  v_BadWorth : PySem.W.findIn K (.ref C_BadWorth) "value" = some none
  xf_BadWorth : XfC K C_BadWorth
  exI_BadWorth : ExcC K C_BadWorth
  exm_BadWorth : PySem.W.exmOne K (.ref C_BadWorth) (.ref C_BadWorth) = some true
  exW_BadWorth : PySem.W.exmOne K (.ref C_BadWorth) (.ref C_WayError) = some true
  kE_BadWorth : PySem.W.kitOne K (.ref C_BadWorth) (.ref C_BadWorth) = some true
/-! ### the head -/
def faH0 : List He.Fa := [.glo "WayError", .glo "BadReckoning", .glo "BadWorth", .glo "Reckoning", .glo "is_integer", .glo "is_row", .glo "first_fault", .glo "size_fault", .glo "is_square", .glo "is_side", .glo "is_below", .glo "none_fault", .glo "one_fault", .glo "idle_fault", .glo "swap_fault", .glo "grouping_fault", .glo "over_fault", .glo "same_fault", .glo "lots", .glo "lots_fault", .glo "product_of_lots", .glo "_law_hand", .glo "_law_draw", .glo "_law_rows", .glo "_law_is_told", .glo "_law_things", .glo "_law_named", .glo "_law_broken", .glo "_law_sum", .glo "_law_lots"]
def faH1 : List He.Fa := [.glo "_law_asked", .glo "_law_wrong", .glo "law", .free "abs", .free "all", .free "bool", .free "int", .free "isinstance", .free "len", .free "list", .free "range", .free "sorted", .free "tuple", .int "FEWEST_WORTHS" 2, .int "MOST_WORTHS" 16, .int "MOST_THINGS" 4, .cls "Reckoning", .noat "Reckoning" "joins", .noat "Reckoning" "products", .noat "Reckoning" "none", .noat "Reckoning" "one", .noat "Reckoning" "_meets", .noat "Reckoning" "_lefts", .noat "Reckoning" "_rights", .meth "Reckoning" "__eq__", .meth "Reckoning" "_joined", .meth "Reckoning" "_meet", .meth "Reckoning" "_left", .meth "Reckoning" "_right", .mkr "Reckoning"]
def faH : List He.Fa := faH0 ++ faH1
def dH_WayError__init : He.DefD := ⟨("WayError", some "__init__"), "__init__", "WayError.__init__", defArgs s_WayError__init, defBody s_WayError__init, defScope s_WayError__init, [], []⟩
def dH_is_integer : He.DefD := ⟨("is_integer", none), "is_integer", "is_integer", defArgs s_is_integer, defBody s_is_integer, defScope s_is_integer, [], []⟩
def dH_is_row : He.DefD := ⟨("is_row", none), "is_row", "is_row", defArgs s_is_row, defBody s_is_row, defScope s_is_row, [], []⟩
def dH_first_fault : He.DefD := ⟨("first_fault", none), "first_fault", "first_fault", defArgs s_first_fault, defBody s_first_fault, defScope s_first_fault, [], []⟩
def dH_size_fault : He.DefD := ⟨("size_fault", none), "size_fault", "size_fault", defArgs s_size_fault, defBody s_size_fault, defScope s_size_fault, [], []⟩
def dH_is_square : He.DefD := ⟨("is_square", none), "is_square", "is_square", defArgs s_is_square, defBody s_is_square, defScope s_is_square, [], []⟩
def dH_is_side : He.DefD := ⟨("is_side", none), "is_side", "is_side", defArgs s_is_side, defBody s_is_side, defScope s_is_side, [], []⟩
def dH_is_below : He.DefD := ⟨("is_below", none), "is_below", "is_below", defArgs s_is_below, defBody s_is_below, defScope s_is_below, [], []⟩
def dH_none_fault : He.DefD := ⟨("none_fault", none), "none_fault", "none_fault", defArgs s_none_fault, defBody s_none_fault, defScope s_none_fault, [], []⟩
def dH_one_fault : He.DefD := ⟨("one_fault", none), "one_fault", "one_fault", defArgs s_one_fault, defBody s_one_fault, defScope s_one_fault, [], []⟩
def dH_idle_fault : He.DefD := ⟨("idle_fault", none), "idle_fault", "idle_fault", defArgs s_idle_fault, defBody s_idle_fault, defScope s_idle_fault, [], []⟩
def dH_swap_fault : He.DefD := ⟨("swap_fault", none), "swap_fault", "swap_fault", defArgs s_swap_fault, defBody s_swap_fault, defScope s_swap_fault, [], []⟩
def dH_grouping_fault : He.DefD := ⟨("grouping_fault", none), "grouping_fault", "grouping_fault", defArgs s_grouping_fault, defBody s_grouping_fault, defScope s_grouping_fault, [], []⟩
def dH_over_fault : He.DefD := ⟨("over_fault", none), "over_fault", "over_fault", defArgs s_over_fault, defBody s_over_fault, defScope s_over_fault, [], []⟩
def dH_same_fault : He.DefD := ⟨("same_fault", none), "same_fault", "same_fault", defArgs s_same_fault, defBody s_same_fault, defScope s_same_fault, [], []⟩
def dH_Reckoning__init : He.DefD := ⟨("Reckoning", some "__init__"), "__init__", "Reckoning.__init__", defArgs s_Reckoning__init, defBody s_Reckoning__init, defScope s_Reckoning__init, [], []⟩
def dH_Reckoning__eq : He.DefD := ⟨("Reckoning", some "__eq__"), "__eq__", "Reckoning.__eq__", defArgs s_Reckoning__eq, defBody s_Reckoning__eq, defScope s_Reckoning__eq, [], []⟩
def dH_Reckoning_Ujoined : He.DefD := ⟨("Reckoning", some "_joined"), "_joined", "Reckoning._joined", defArgs s_Reckoning_Ujoined, defBody s_Reckoning_Ujoined, defScope s_Reckoning_Ujoined, [], []⟩
def dH_Reckoning_Umeet : He.DefD := ⟨("Reckoning", some "_meet"), "_meet", "Reckoning._meet", defArgs s_Reckoning_Umeet, defBody s_Reckoning_Umeet, defScope s_Reckoning_Umeet, [], []⟩
def dH_Reckoning_Uleft : He.DefD := ⟨("Reckoning", some "_left"), "_left", "Reckoning._left", defArgs s_Reckoning_Uleft, defBody s_Reckoning_Uleft, defScope s_Reckoning_Uleft, [], []⟩
def dH_Reckoning_Uright : He.DefD := ⟨("Reckoning", some "_right"), "_right", "Reckoning._right", defArgs s_Reckoning_Uright, defBody s_Reckoning_Uright, defScope s_Reckoning_Uright, [], []⟩
def dH_lots : He.DefD := ⟨("lots", none), "lots", "lots", defArgs s_lots, defBody s_lots, defScope s_lots, [], []⟩
def dH_lots_fault : He.DefD := ⟨("lots_fault", none), "lots_fault", "lots_fault", defArgs s_lots_fault, defBody s_lots_fault, defScope s_lots_fault, [], []⟩
def dH_product_of_lots : He.DefD := ⟨("product_of_lots", none), "product_of_lots", "product_of_lots", defArgs s_product_of_lots, defBody s_product_of_lots, defScope s_product_of_lots, [], []⟩
def dH_law_hand : He.DefD := ⟨("_law_hand", none), "_law_hand", "_law_hand", defArgs s_law_hand, defBody s_law_hand, defScope s_law_hand, [], []⟩
def dH_law_draw : He.DefD := ⟨("_law_draw", none), "_law_draw", "_law_draw", defArgs s_law_draw, defBody s_law_draw, defScope s_law_draw, [], []⟩
def dH_law_rows : He.DefD := ⟨("_law_rows", none), "_law_rows", "_law_rows", defArgs s_law_rows, defBody s_law_rows, defScope s_law_rows, [], []⟩
def dH_law_is_told : He.DefD := ⟨("_law_is_told", none), "_law_is_told", "_law_is_told", defArgs s_law_is_told, defBody s_law_is_told, defScope s_law_is_told, [], []⟩
def dH_law_things : He.DefD := ⟨("_law_things", none), "_law_things", "_law_things", defArgs s_law_things, defBody s_law_things, defScope s_law_things, [], []⟩
def dH_law_named : He.DefD := ⟨("_law_named", none), "_law_named", "_law_named", defArgs s_law_named, defBody s_law_named, defScope s_law_named, [], []⟩
def dH_law_broken : He.DefD := ⟨("_law_broken", none), "_law_broken", "_law_broken", defArgs s_law_broken, defBody s_law_broken, defScope s_law_broken, [], []⟩
def dH_law_sum : He.DefD := ⟨("_law_sum", none), "_law_sum", "_law_sum", defArgs s_law_sum, defBody s_law_sum, defScope s_law_sum, [], []⟩
def dH_law_lots : He.DefD := ⟨("_law_lots", none), "_law_lots", "_law_lots", defArgs s_law_lots, defBody s_law_lots, defScope s_law_lots, [], []⟩
def dH_law_asked : He.DefD := ⟨("_law_asked", none), "_law_asked", "_law_asked", defArgs s_law_asked, defBody s_law_asked, defScope s_law_asked, [], []⟩
def dH_law_wrong : He.DefD := ⟨("_law_wrong", none), "_law_wrong", "_law_wrong", defArgs s_law_wrong, defBody s_law_wrong, defScope s_law_wrong, [], []⟩
def dH_law : He.DefD := ⟨("law", none), "law", "law", defArgs s_law, defBody s_law, defScope s_law, [], []⟩
def fnH0 : List He.DefD := [dH_WayError__init, dH_is_integer, dH_is_row, dH_first_fault, dH_size_fault, dH_is_square, dH_is_side, dH_is_below, dH_none_fault, dH_one_fault, dH_idle_fault, dH_swap_fault, dH_grouping_fault, dH_over_fault, dH_same_fault, dH_Reckoning__init, dH_Reckoning__eq, dH_Reckoning_Ujoined, dH_Reckoning_Umeet, dH_Reckoning_Uleft, dH_Reckoning_Uright, dH_lots, dH_lots_fault, dH_product_of_lots, dH_law_hand]
def fnH1 : List He.DefD := [dH_law_draw, dH_law_rows, dH_law_is_told, dH_law_things, dH_law_named, dH_law_broken, dH_law_sum, dH_law_lots, dH_law_asked, dH_law_wrong, dH_law]
def fnH : List He.DefD := fnH0 ++ fnH1
def x_hnO (K : PySem.W.Frag) : Bool := OQ.isB (PySem.W.specialIn K (.builtin "object.__class__") "__get__") (some (.builtin "getset_descriptor.__get__"))
def x_htO (K : PySem.W.Frag) : Bool := decide (PySem.W.takesIn K (.builtin "object.__class__") = some true)
def x_haReckoning (K : PySem.W.Frag) : Bool := OQ.isB (PySem.W.findIn K (.ref (He.ga K "Reckoning")) "__class__") (some (.builtin "object.__class__"))
def x_hmReckoning (K : PySem.W.Frag) : Bool := decide (PySem.W.mroIn K (He.ga K "Reckoning") (.type "object") = some true)
def x_tI (K : PySem.W.Frag) : Bool := decide (PySem.W.typeIn K (.ref (He.fAd K ("WayError", some "__init__"))) = some (.type "function"))
def x_kintRe (K : PySem.W.Frag) : Bool := decide (PySem.W.kitOne K (.ref (He.ga K "Reckoning")) (.type "int") = some false)
def x_kboolRe (K : PySem.W.Frag) : Bool := decide (PySem.W.kitOne K (.ref (He.ga K "Reckoning")) (.type "bool") = some false)
def x_icWE (K : PySem.W.Frag) : Bool := PySem.W.isClsIn K (He.ga K "WayError")
def x_tyWE (K : PySem.W.Frag) : Bool := decide (PySem.W.typeIn K (.ref (He.ga K "WayError")) = some (.type "type"))
def x_exWE (K : PySem.W.Frag) : Bool := decide (PySem.W.subIn K (.ref (He.ga K "WayError")) (.type "BaseException") = some true)
def x_neRe (K : PySem.W.Frag) : Bool := OQ.isB (PySem.W.findIn K (.ref (He.ga K "Reckoning")) "__ne__") (some (.builtin "object.__ne__"))
def x_eBadReckoning (K : PySem.W.Frag) : Bool := OQ.erB K (He.ga K "WayError") (He.fAd K ("WayError", some "__init__")) (He.ga K "BadReckoning")
def x_eBadWorth (K : PySem.W.Frag) : Bool := OQ.erB K (He.ga K "WayError") (He.fAd K ("WayError", some "__init__")) (He.ga K "BadWorth")
def exH (K : PySem.W.Frag) : Bool := x_hnO K && (x_htO K && (x_haReckoning K && (x_hmReckoning K && (x_tI K && (x_kintRe K && (x_kboolRe K && (x_icWE K && (x_tyWE K && (x_exWE K && (x_neRe K && (x_eBadReckoning K && (x_eBadWorth K))))))))))))
abbrev hk : PySem.W.Hook := OQ.hookB 5 faH fnH exH
def ob : PySem.W.SharedT → He.AlD × Bool := OQ.obB 5 faH fnH exH

/-! ### the run -/
def looseH0 : List Str := ["_wall", "WayError", "BadReckoning", "BadWorth", "is_integer", "is_row", "FEWEST_WORTHS", "MOST_WORTHS", "first_fault", "size_fault", "is_square", "is_side", "is_below", "none_fault", "one_fault", "idle_fault", "swap_fault", "grouping_fault", "over_fault", "same_fault", "check_worths", "Reckoning", "MOST_THINGS", "lots", "lots_fault", "product_of_lots", "_law_hand", "_law_draw", "_law_rows", "_law_is_told"]
def looseH1 : List Str := ["_law_things", "_law_named", "_law_broken", "_law_sum", "_law_lots", "_law_asked", "_law_wrong"]
def looseH : List Str := looseH0 ++ looseH1
abbrev Rw : PySem.W.OpenRow := PySem.W.OpenLaw.row PySem.Challenge.rw_watchedways_k34_whole_lots_of_things
set_option maxHeartbeats 0 in
theorem run (w : World) : HandSHeadRun.RunEq Rw (PySem.W.view Rw.prog [44]) hk ob 30000 looseH w := by
  intro os
  kernel_rfl

/-! ### kinds stay -/
theorem tyX_same {K : PySem.W.Frag} {H H' : Hp} {x : V} {t : Value} (h : TyX K H x t) (s : Same H H') : TyX K H' x t := by
  cases h with
  | base b =>
    refine .base ?_
    cases b with
    | non => exact .non
    | bl x => exact .bl x
    | int i => exact .int i
    | str x => exact .str x
    | flt x => exact .flt x
    | lst e => exact .lst (s _ _ e)
    | frz e => exact .frz (s _ _ e)
    | tup e => exact .tup (s _ _ e)
    | dK e => exact .dK (s _ _ e)
    | dT e => exact .dT (s _ _ e)
    | ins e cl a n k m => exact .ins (s _ _ e) cl a n k m
  | byt b => exact .byt b
  | set e => exact .set (s _ _ e)
  | kList e c => exact .kList e c
  | kTuple e c => exact .kTuple e c
  | kDict e c => exact .kDict e c
  | fTuple e => exact .fTuple (s _ _ e)
  | fDict e => exact .fDict (s _ _ e)

/-! ### new objects leave the old ones -/
theorem same_upd {H : Hp} {p : Addr} {o : HO} (h : H p = none) : Same H (upd H p o) := fun b u e => by rw [upd_ne (ne_of_none e h)]; exact e
theorem same_put {H H' : Hp} {d : Addr} {o : HO} (s : Same H H') (n : H d = none) : Same H (upd H' d o) := fun b u e => by rw [upd_ne (ne_of_none e n)]; exact s _ _ e

/-! ### all but one object stays -/
def Kx (x : Addr) (H H' : Hp) : Prop := ∀ b o, b ≠ x → H b = some o → H' b = some o
theorem Kx.trans {x : Addr} {H H1 H2 : Hp} (a : Kx x H H1) (b : Kx x H1 H2) : Kx x H H2 := fun c o n e => b c o n (a c o n e)
theorem Same.kx {x : Addr} {H H' : Hp} (s : Same H H') : Kx x H H' := fun b o _ e => s b o e
theorem kx_upd {x : Addr} {H : Hp} {o : HO} : Kx x H (upd H x o) := fun b u n e => by rw [upd_ne n]; exact e
theorem putF_none {f : Str} {v : V} : putF f v [] = [(f, v)] := rfl
theorem putF_ne {f g : Str} {u v : V} {r : List (Str × V)} (n : g ≠ f) : putF f v ((g, u) :: r) = (g, u) :: putF f v r := if_neg n
theorem lk_ne {f g : Str} {v : V} {r : List (Str × V)} (h : (f == g) = false) : List.lookup f ((g, v) :: r) = List.lookup f r := by simp [List.lookup, h]
theorem lk_eq {f : Str} {v : V} {r : List (Str × V)} : List.lookup f ((f, v) :: r) = some v := by simp [List.lookup]
theorem d_iTup {K : PySem.W.Frag} {tl : TE} {R : It → Hp → Prop} {σ : L2.St} {H : Hp} (h : tl σ H fun x H1 => ∃ a, x = .ref a ∧ (∃ xs, SqT K H1 a xs) ∧ R (Itt K a) H1) : iTup K tl σ H R := h
theorem kit_selfR {K : PySem.W.Frag} {t : Value} : PySem.W.kitOne K t t = some true := by
  unfold PySem.W.kitOne
  rw [if_pos (by simp)]

/-! ### rows -/
theorem kitA_list {K : PySem.W.Frag} : PySem.W.kitAny K (.type "list") [.type "list", .type "tuple"] = some true := by
  unfold PySem.W.kitAny
  rw [kit_ty (r := true) (by decide +kernel)]
theorem kitA_tuple {K : PySem.W.Frag} : PySem.W.kitAny K (.type "tuple") [.type "list", .type "tuple"] = some true := by
  unfold PySem.W.kitAny
  rw [kit_ty (r := false) (by decide +kernel)]
  unfold PySem.W.kitAny
  rw [kit_ty (r := true) (by decide +kernel)]
def spIsRow (K : PySem.W.Frag) : Sp := fun vs H Q _ => ∃ (x : V) (t : Value) (b : Bool), vs = [x] ∧ TyX K H x t ∧ PySem.W.kitAny K t [.type "list", .type "tuple"] = some b ∧ ∀ H', Same H H' → Q (.bl b) H'
section
variable {P : Program} {w : World} {K : PySem.W.Frag} {mg : Str → Option Value} {base : Heap}
theorem ok_is_row (T : Top K mg) : FnOk P w K mg base CX0 1 T.f_is_row T.fd_is_row ["thing"] (spIsRow K) := by
  refine T.F_is_row.ok sc_is_row (fun vs H Q E h => ?_) (fun cdv A outer s H vs Q E hr h => ?_)
  · obtain ⟨x, t, b, rfl, _⟩ := h; rfl
  · obtain ⟨x, t, b, rfl, ty, e, k⟩ := h
    refine ⟨_, (pss_one (ps_ret (pe_callB call_isiT (by rfl) T.n_isinstance (by decide +kernel) (pa_cons (pv 0) (pa_cons (pe_tup (pa_cons (pe_bltn (v := V.ty "list") (by rfl) T.n_list (by decide +kernel) rfl) (pa_cons (pe_bltn (v := V.ty "tuple") (by rfl) T.n_tuple (by decide +kernel) rfl) pa_nil))) pa_nil))))), ?_⟩
    walk_at "rd"
    refine ⟨by show 2 ≤ sizeLine; decide, fun tp htp => ?_⟩
    walk_at "rd"
    exact ⟨x, tp, _, t, _, b, rfl, upd_same, .cons (.ty _) (.cons (.ty _) .nil), tyX_same ty (same_upd htp), e, k _ (same_upd htp)⟩
end

/-! ### errors with a value -/
def spWE (K : PySem.W.Frag) : Sp := fun vs H Q _ => ∃ (a C : Addr) (v : V), vs = [.ref a, v] ∧ OexC K C ∧ PySem.W.findIn K (.ref C) "value" = some none ∧ H a = some (exo a C none) ∧
  ∀ d, H d = none → d ≠ a → Q .non (upd (upd H d (exd d [("value", v)])) a (exo a C (some d)))
/-- an error's own dict, with its value -/
def ErrD (v : V) : HO := .xd [(("value" : Str), v)]
theorem errD_v (v : V) : List.lookup ("value" : Str) [(("value" : Str), v)] = some v := by simp [List.lookup]
section
variable {P : Program} {w : World} {K : PySem.W.Frag} {mg : Str → Option Value} {base : Heap}
theorem ok_WayError__init (T : Top K mg) : FnOk P w K mg base CX0 1 T.f_WayError__init T.fd_WayError__init ["self", "value"] (spWE K) := by
  refine T.F_WayError__init.ok sc_WayError__init (fun vs H Q E h => ?_) (fun cdv A outer s H vs Q E hr h => ?_)
  · obtain ⟨a, C, v, rfl, _⟩ := h; rfl
  · obtain ⟨a, C, v, rfl, oc, nv, ha, q⟩ := h
    refine ⟨_, (pss_one (ps_ost (pv 0) (pv 1))), ?_⟩
    exact ⟨_, rfl, _, rfl, a, C, rfl, oc, nv, .inl ⟨ha, fun d hd ne => q d hd ne⟩⟩
end
/-- what is asked where such an error is raised -/
theorem d_mkO {K : PySem.W.Frag} {H : Hp} {C : Addr} {v : V} {R : XK} (oc : OexC K C) (nv : PySem.W.findIn K (.ref C) "value" = some none) (k : ∀ d, H d = none → R (.ref C) (some d) (upd H d (ErrD v))) :
    [v].length ≤ 1000 ∧ ∀ a, H a = none → spWE K (.ref a :: ([v] ++ [])) (upd H a (exo a C none))
      (fun u H2 => u = .non ∧ ∃ (d : Addr) (fs : List (Str × V)), H2 a = some (exo a C (some d)) ∧ H2 d = some (exd d fs) ∧ H d = none ∧ R (.ref C) (some d) (upd (del H2 a) d (.xd fs))) (fun _ _ _ => False) := by
  refine ⟨by simp, fun a ha => ⟨a, C, v, rfl, oc, nv, upd_same, fun d hd ne => ⟨rfl, d, [(("value" : Str), v)], upd_same, ?_, ?_, ?_⟩⟩⟩
  · rw [upd_ne ne, upd_same]
  · rw [upd_ne ne] at hd; exact hd
  · have hd0 : H d = none := by rw [upd_ne ne] at hd; exact hd
    have e : upd (del (upd (upd (upd H a (exo a C none)) d (exd d [("value", v)])) a (exo a C (some d))) a) d (.xd [("value", v)]) = upd H d (ErrD v) := by
      funext b
      by_cases hb : b = d
      · subst hb; rw [upd_same, upd_same]; rfl
      · rw [upd_ne hb, upd_ne hb]
        by_cases hba : b = a
        · subst hba; rw [del_same, ha]
        · rw [del_ne hba, upd_ne hba, upd_ne hb, upd_ne hba]
    rw [e]; exact k d hd0
theorem d_raise {K : PySem.W.Frag} {σ : L2.St} {H : Hp} {C : Addr} {ta : TA} {R : XK} (h : ta σ H fun vs H1 => vs.length ≤ 1000 ∧ ∀ a, H1 a = none → spWE K (.ref a :: (vs ++ [])) (upd H1 a (exo a C none))
      (fun u H2 => u = .non ∧ ∃ (d : Addr) (fs : List (Str × V)), H2 a = some (exo a C (some d)) ∧ H2 d = some (exd d fs) ∧ H1 d = none ∧ R (.ref C) (some d) (upd (del H2 a) d (.xd fs))) (fun _ _ _ => False)) :
    tMkO C (spWE K) [] ta σ H R := h

/-! ### integers -/
/-- whether x is an integer (a flag is none) -/
def IsI (K : PySem.W.Frag) (H : Hp) (x : V) (b : Bool) : Prop := ∃ (t : Value) (b1 b2 : Bool), TyX K H x t ∧ PySem.W.kitOne K t (.type "int") = some b1 ∧ PySem.W.kitOne K t (.type "bool") = some b2 ∧ b = (b1 && !b2)
theorem isI_int {K : PySem.W.Frag} {H : Hp} (i : Int) : IsI K H (.int i) true := ⟨.type "int", true, false, .base (.int i), kit_ty (by decide +kernel), kit_ty (by decide +kernel), rfl⟩
theorem isI_bl {K : PySem.W.Frag} {H : Hp} (i : Bool) : IsI K H (.bl i) false := ⟨.type "bool", true, true, .base (.bl i), kit_ty (by decide +kernel), kit_ty (by decide +kernel), rfl⟩
theorem isI_non {K : PySem.W.Frag} {H : Hp} : IsI K H .non false := ⟨.type "NoneType", false, false, .base .non, kit_ty (by decide +kernel), kit_ty (by decide +kernel), rfl⟩
theorem isI_str {K : PySem.W.Frag} {H : Hp} (z : Str) : IsI K H (.str z) false := ⟨.type "str", false, false, .base (.str z), kit_ty (by decide +kernel), kit_ty (by decide +kernel), rfl⟩
theorem isI_lst {K : PySem.W.Frag} {H : Hp} {a : Addr} {xs : List V} (e : H a = some (.lst xs)) : IsI K H (.ref a) false := ⟨.type "list", false, false, .base (.lst e), kit_ty (by decide +kernel), kit_ty (by decide +kernel), rfl⟩
theorem isI_tup {K : PySem.W.Frag} {H : Hp} {a : Addr} {xs : List V} (e : H a = some (.tup xs)) : IsI K H (.ref a) false := ⟨.type "tuple", false, false, .base (.tup e), kit_ty (by decide +kernel), kit_ty (by decide +kernel), rfl⟩
theorem isI_dK {K : PySem.W.Frag} {H : Hp} {a : Addr} {xs : List (Key × V)} (e : H a = some (.dK xs)) : IsI K H (.ref a) false := ⟨.type "dict", false, false, .base (.dK e), kit_ty (by decide +kernel), kit_ty (by decide +kernel), rfl⟩
def spIsInt (K : PySem.W.Frag) : Sp := fun vs H Q _ => ∃ (x : V) (b : Bool), vs = [x] ∧ IsI K H x b ∧ Q (.bl b) H
section
variable {P : Program} {w : World} {K : PySem.W.Frag} {mg : Str → Option Value} {base : Heap}
theorem ok_is_integer (T : Top K mg) : FnOk P w K mg base CX0 1 T.f_is_integer T.fd_is_integer ["thing"] (spIsInt K) := by
  refine T.F_is_integer.ok sc_is_integer (fun vs H Q E h => ?_) (fun cdv A outer s H vs Q E hr h => ?_)
  · obtain ⟨x, b, rfl, _⟩ := h; rfl
  · obtain ⟨x, b, rfl, ⟨t, b1, b2, ty, e1, e2, eb⟩, q⟩ := h
    refine ⟨_, (pss_one (ps_ret (pe_and (pe_callB call_isi (by rfl) T.n_isinstance (by decide +kernel) (pa_cons (pv 0) (pa_cons (pe_bltn (v := V.ty "int") (by rfl) T.n_int (by decide +kernel) rfl) pa_nil))) (pe_one (pe_not (pe_callB call_isi (by rfl) T.n_isinstance (by decide +kernel) (pa_cons (pv 0) (pa_cons (pe_bltn (v := V.ty "bool") (by rfl) T.n_bool (by decide +kernel) rfl) pa_nil)))))))), ?_⟩
    walk_at "rd"
    refine RD.d_isi (.ty _) ty e1 ?_
    walk_at "rd"
    cases b1 with
    | false =>
      walk_at "rd"
      rw [eb] at q; exact q
    | true =>
      walk_at "rd"
      refine RD.d_isi (.ty _) ty e2 ?_
      walk_at "rd"
      rw [eb] at q
      simpa using q
end

/-! ### sizes and places -/
/-- whether v is a number below n -/
def Bl (K : PySem.W.Frag) (H : Hp) (n : Nat) (v : V) (b : Bool) : Prop := ∃ d, OQ.Dqd K H v d ∧ b = RK.belowB n d
theorem Bl.same {K : PySem.W.Frag} {H H' : Hp} {n : Nat} {v : V} {b : Bool} (h : Bl K H n v b) (s : Same H H') : Bl K H' n v b := by
  obtain ⟨d, h1, h2⟩ := h
  exact ⟨d, OQ.Dqd.same s h1, h2⟩
theorem Bl.dq {K : PySem.W.Frag} {H : Hp} {n : Nat} {v : V} {d : PyData} (h : OQ.Dqd K H v d) : Bl K H n v (RK.belowB n d) := ⟨d, h, rfl⟩
theorem Bl.nat {K : PySem.W.Frag} {H : Hp} {n : Nat} {v : V} (h : Bl K H n v true) : ∃ i : Nat, v = .int i ∧ i < n := by
  obtain ⟨d, h1, h2⟩ := h
  have h1 := OQ.dqd_below h1 h2.symm
  cases h1 with
  | int i =>
    have := of_decide_eq_true (h2.symm : decide (0 ≤ i ∧ i < (n : Int)) = true)
    exact ⟨i.toNat, by rw [Int.toNat_of_nonneg this.1], by omega⟩
  | _ => cases h2
theorem Bl.of {K : PySem.W.Frag} {H : Hp} {n i : Nat} (h : i < n) : Bl K H n (.int i) true := ⟨_, .int i, (decide_eq_true (by omega)).symm⟩
def spBelow (K : PySem.W.Frag) : Sp := fun vs H Q _ => ∃ (n : Nat) (x : V) (b : Bool), vs = [.int n, x] ∧ Bl K H n x b ∧ Q (.bl b) H
def spSide (K : PySem.W.Frag) : Sp := fun vs H Q _ => ∃ (n : Nat) (x : V) (d : PyData), vs = [.int n, x] ∧ n ≤ 16 ∧ OQ.Dqd K H x d ∧ ∀ H', Same H H' → Q (.bl (RK.sideB n d)) H'
def spSquare (K : PySem.W.Frag) : Sp := fun vs H Q _ => ∃ (n : Nat) (x : V) (d : PyData), vs = [.int n, x] ∧ n ≤ 16 ∧ OQ.Dqd K H x d ∧ ∀ H', Same H H' → Q (.bl (RK.squareB n d)) H'
section
variable {P : Program} {w : World} {K : PySem.W.Frag} {mg : Str → Option Value} {base : Heap}
theorem ok_is_below (T : Top K mg) : FnOk P w K mg base CX0 2 T.f_is_below T.fd_is_below ["many", "thing"] (spBelow K) := by
  refine T.F_is_below.ok sc_is_below (fun vs H Q E h => ?_) (fun cdv A outer s H vs Q E hr h => ?_)
  · obtain ⟨n, x, d, rfl, _⟩ := h; rfl
  · obtain ⟨n, x, b, rfl, hb, k⟩ := h
    refine ⟨_, (pss_one (ps_ret (pe_and (pe_call (ok_is_integer T) (hr.mono (by decide)) (by rfl) T.g_is_integer T.F_is_integer.kp T.b_is_integer .nil pass0 (pa_cons (pv 1) pa_nil)) (pe_one (pe_chain op_le op_lt pe_int (pv 1) (pv 0)))))), ?_⟩
    walk_at "tx"
    obtain ⟨d, hd, rfl⟩ := hb
    · refine ⟨x, RK.intB d, rfl, OQ.dqd_isInt hd, ?_⟩
      cases hb : RK.intB d with
      | false =>
        refine ⟨false, rfl, RD.d_iteF ?_⟩
        have e : RK.belowB n d = false := by cases d <;> first | rfl | cases hb
        rw [e] at k
        exact k
      | true =>
        refine ⟨true, rfl, RD.d_iteT ?_⟩
        cases hd with
        | int i =>
          refine RD.d_chain ?_
          walk_at "tx"
          have e : RK.belowB n (.int i) = decide (0 ≤ i ∧ i < n) := rfl
          rw [e] at k
          refine RD.iteD (fun c1 => ?_) (fun c1 => ?_)
          · walk_at "tx"
            rw [show decide (i < (n : Int)) = decide (0 ≤ i ∧ i < (n : Int)) from by rw [decide_eq_decide]; exact ⟨fun z => ⟨c1, z⟩, fun z => z.2⟩]
            exact k
          · rw [decide_eq_false (fun z => c1 z.1)] at k
            exact k
        | _ => cases hb
theorem ok_is_side (T : Top K mg) : FnOk P w K mg base CX0 4 T.f_is_side T.fd_is_side ["many", "thing"] (spSide K) := by
  refine T.F_is_side.ok sc_is_side (fun vs H Q E h => ?_) (fun cdv A outer s H vs Q E hr h => ?_)
  · obtain ⟨n, x, d, rfl, _⟩ := h; rfl
  · obtain ⟨n, x, d, rfl, n16, hd, k⟩ := h
    refine ⟨_, (pss_one (ps_ret (pe_and (pe_call (ok_is_row T) (hr.mono (by decide)) (by rfl) T.g_is_row T.F_is_row.kp T.b_is_row .nil pass0 (pa_cons (pv 1) pa_nil)) (pe_and (pe_cmpR op_eq (pe_callB RD.c_len (by rfl) T.n_len (by decide +kernel) (pa_cons (pv 1) pa_nil)) (pv 0) (nomark _)) (pe_one (pe_callB (cr_all rfl) (by rfl) T.n_all (by decide +kernel) (pa_cons (pe_lc (own := [("item", 2)]) (g := (gName 2)) (tt := tYes) rfl sc_is_side.nd (OQ.pi_seq (pv 1)) (blkOk_by (own := [("item", 2)]) (N := ["many", "thing", "item"]) (sc := defScope s_is_side) (by decide +kernel)) (fun _ _ _ _ _ => (pg_name (i := 2) sc_is_side.nd rfl (Or.inl rfl))) (fun _ _ _ _ _ => pts_nil) (fun _ _ _ _ _ => (pe_call (ok_is_below T) (hr.mono (by decide)) (by rfl) T.g_is_below T.F_is_below.kp T.b_is_below .nil pass0 (pa_cons (pv 0) (pa_cons (pv 2) pa_nil))))) pa_nil))))))), ?_⟩
    walk_at "tx"
    obtain ⟨t, ty, ek⟩ := OQ.dqd_isRow hd
    refine ⟨x, t, _, rfl, ty, ek, fun H1 s1 => ?_⟩
    replace hd := OQ.Dqd.same s1 hd
    cases er : RK.rowsOf d with
    | none =>
      have e : RK.sideB n d = false := by unfold RK.sideB; rw [er]
      rw [e] at k
      exact ⟨false, rfl, RD.d_iteF (k H1 s1)⟩
    | some ds =>
      have e : RK.sideB n d = (decide (ds.length = n) && ds.all (RK.belowB n)) := by unfold RK.sideB; rw [er]
      rw [e] at k
      obtain ⟨a, xs, rfl, sa, da⟩ := OQ.dqd_row hd er
      have len := OQ.dqdAll_len da
      refine ⟨true, rfl, RD.d_iteT ?_⟩
      walk_at "tx"
      refine sa.len ?_
      walk_at "tx"
      rw [len]
      refine RD.iteD (fun c => ?_) (fun c => ?_)
      · have c' : ds.length = n := by omega
        rw [decide_eq_true c', Bool.true_and] at k
        walk_at "tx"
        refine OQ.d_seqVar rfl sa (fun J G hw hG => fun D hD => ?_)
        have sD := same_upd (o := HO.lst []) hD
        refine lc_it hw (fun i H' => Same H1 H' ∧ H' D = some (.lst (((ds.take i).map (RK.belowB n)).map V.bl))) ⟨sD, upd_same⟩ (fun i H' _ q => hG _ q.1) ?_ ?_
        · rintro i y H' H'' il ⟨s2, eD⟩ ⟨rfl, e2⟩
          obtain ⟨d', q1, q2⟩ := OQ.dqdAll_get da e2
          walk_at "tx"
          refine ⟨n, y, _, rfl, ⟨d', OQ.Dqd.same s2 q2, rfl⟩, ?_⟩
          have il' : i < ds.length := by rw [← len]; exact il
          refine ⟨_, eD, by rw [List.length_map, List.length_map, List.length_take]; exact Nat.lt_of_le_of_lt (by omega : _ ≤ 16) (by decide), fun b u e => ?_, ?_⟩
          · rw [upd_ne (ne_of_none e hD)]; exact s2 _ _ e
          · rw [upd_same, List.take_succ, q1, List.map_append, List.map_append]; rfl
        · rintro H' ⟨s2, eD⟩
          rw [len, List.take_length] at eD
          walk_at "tx"
          refine ⟨D, _, rfl, SqL.of eD, ?_⟩
          rw [List.all_map]
          exact k _ (s1.trans s2)
      · rw [decide_eq_false (fun z => c (by omega)), Bool.false_and] at k
        exact k H1 s1
theorem ok_is_square (T : Top K mg) : FnOk P w K mg base CX0 6 T.f_is_square T.fd_is_square ["many", "thing"] (spSquare K) := by
  refine T.F_is_square.ok sc_is_square (fun vs H Q E h => ?_) (fun cdv A outer s H vs Q E hr h => ?_)
  · obtain ⟨n, x, d, rfl, _⟩ := h; rfl
  · obtain ⟨n, x, d, rfl, n16, hd, k⟩ := h
    refine ⟨_, (pss_one (ps_ret (pe_and (pe_call (ok_is_row T) (hr.mono (by decide)) (by rfl) T.g_is_row T.F_is_row.kp T.b_is_row .nil pass0 (pa_cons (pv 1) pa_nil)) (pe_and (pe_cmpR op_eq (pe_callB RD.c_len (by rfl) T.n_len (by decide +kernel) (pa_cons (pv 1) pa_nil)) (pv 0) (nomark _)) (pe_one (pe_callB (cr_all rfl) (by rfl) T.n_all (by decide +kernel) (pa_cons (pe_lc (own := [("row", 2)]) (g := (gName 2)) (tt := tYes) rfl sc_is_square.nd (OQ.pi_seq (pv 1)) (blkOk_by (own := [("row", 2)]) (N := ["many", "thing", "row"]) (sc := defScope s_is_square) (by decide +kernel)) (fun _ _ _ _ _ => (pg_name (i := 2) sc_is_square.nd rfl (Or.inl rfl))) (fun _ _ _ _ _ => pts_nil) (fun _ _ _ _ _ => (pe_call (ok_is_side T) (hr.mono (by decide)) (by rfl) T.g_is_side T.F_is_side.kp T.b_is_side .nil pass0 (pa_cons (pv 0) (pa_cons (pv 2) pa_nil))))) pa_nil))))))), ?_⟩
    walk_at "tx"
    obtain ⟨t, ty, ek⟩ := OQ.dqd_isRow hd
    refine ⟨x, t, _, rfl, ty, ek, fun H1 s1 => ?_⟩
    replace hd := OQ.Dqd.same s1 hd
    cases er : RK.rowsOf d with
    | none =>
      have e : RK.squareB n d = false := by unfold RK.squareB; rw [er]
      rw [e] at k
      exact ⟨false, rfl, RD.d_iteF (k H1 s1)⟩
    | some ds =>
      have e : RK.squareB n d = (decide (ds.length = n) && ds.all (RK.sideB n)) := by unfold RK.squareB; rw [er]
      rw [e] at k
      obtain ⟨a, xs, rfl, sa, da⟩ := OQ.dqd_row hd er
      have len := OQ.dqdAll_len da
      refine ⟨true, rfl, RD.d_iteT ?_⟩
      walk_at "tx"
      refine sa.len ?_
      walk_at "tx"
      rw [len]
      refine RD.iteD (fun c => ?_) (fun c => ?_)
      · have c' : ds.length = n := by omega
        rw [decide_eq_true c', Bool.true_and] at k
        walk_at "tx"
        refine OQ.d_seqVar rfl sa (fun J G hw hG => fun D hD => ?_)
        have sD := same_upd (o := HO.lst []) hD
        refine lc_it hw (fun i H' => Same H1 H' ∧ H' D = some (.lst (((ds.take i).map (RK.sideB n)).map V.bl))) ⟨sD, upd_same⟩ (fun i H' _ q => hG _ q.1) ?_ ?_
        · rintro i y H' H'' il ⟨s2, eD⟩ ⟨rfl, e2⟩
          obtain ⟨d', q1, q2⟩ := OQ.dqdAll_get da e2
          walk_at "tx"
          refine ⟨n, y, d', rfl, n16, OQ.Dqd.same s2 q2, fun H3 s3 => ?_⟩
          have il' : i < ds.length := by rw [← len]; exact il
          refine ⟨_, s3 _ _ eD, by rw [List.length_map, List.length_map, List.length_take]; exact Nat.lt_of_le_of_lt (by omega : _ ≤ 16) (by decide), fun b u e => ?_, ?_⟩
          · rw [upd_ne (ne_of_none e hD)]; exact s3 _ _ (s2 _ _ e)
          · rw [upd_same, List.take_succ, q1, List.map_append, List.map_append]; rfl
        · rintro H' ⟨s2, eD⟩
          rw [len, List.take_length] at eD
          walk_at "tx"
          refine ⟨D, _, rfl, SqL.of eD, ?_⟩
          rw [List.all_map]
          exact k _ (s1.trans s2)
      · rw [decide_eq_false (fun z => c (by omega)), Bool.false_and] at k
        exact k H1 s1
end

/-! ### the faults -/
open OQ (TabX RowX)
open RK (Fl FltAt)
/-- what tells a fault F, the objects that were there as they were -/
def spF (C : List V → Hp → Fl → Prop) : Sp := fun vs H Q _ => ∃ F, C vs H F ∧ ∀ v H', Same H H' → FltAt H' v F → Q v H'
theorem ret4 {H0 H : Hp} {Q : VK} {F : Fl} {w : Str} {a b c : Int} (k : ∀ v H', Same H0 H' → FltAt H' v F → Q v H') (s : Same H0 H) (e : F = some (w, a, b, c)) :
    [V.str w, V.int a, V.int b, V.int c].length ≤ sizeLine ∧ ∀ p, H p = none → Q (.ref p) (upd H p (.tup [.str w, .int a, .int b, .int c])) := by
  subst e
  exact ⟨by show 4 ≤ sizeLine; decide, fun p hp => k _ _ (s.trans (same_upd hp)) ⟨p, rfl, upd_same⟩⟩
theorem ret0 {H0 H : Hp} {Q : VK} {F : Fl} (k : ∀ v H', Same H0 H' → FltAt H' v F → Q v H') (s : Same H0 H) (e : F = none) : Q .non H := by
  subst e
  exact k _ _ s rfl
section
variable {P : Program} {w : World} {K : PySem.W.Frag} {mg : Str → Option Value} {base : Heap}
theorem ok_none_fault (T : Top K mg) : FnOk P w K mg base CX0 1 T.f_none_fault T.fd_none_fault ["joins", "products", "none"] (spF fun vs H F => ∃ a b n J M z, vs = [.ref a, .ref b, .int (z : Nat)] ∧ TabX K H a n J ∧ TabX K H b n M ∧ z < n ∧ n ≤ 16 ∧ F = RK.noneF n J M z) := by
  refine T.F_none_fault.ok sc_none_fault (fun vs H Q E h => ?_) (fun cdv A outer s H vs Q E hr h => ?_)
  · obtain ⟨F, ⟨a, b, n, J, M, z, rfl, _⟩, _⟩ := h; rfl
  · obtain ⟨F, ⟨a, b, n, J, M, z, rfl, tj, tp, zn, n16, eF⟩, k⟩ := h
    refine ⟨_, (pss_cons (ps_for PassesOwn.never rfl (pi_range1 (by rfl) T.n_range (pa_cons (pe_callB RD.c_len (by rfl) T.n_len (by decide +kernel) (pa_cons (pv 0) pa_nil)) pa_nil)) (pg_name (i := 3) sc_none_fault.nd rfl (Or.inl rfl))
 (pss_cons (ps_if (PW.pt (pw_or (pt_cmpR op_ne (pe_ix OQ.ix_seq (pe_ix OQ.ix_seq (pv 0) (pv 2) (fun _ _ => rfl)) (pv 3) (fun _ _ => rfl)) (pv 3) (nomark _)) (pw_or1 (pt_cmpR op_ne (pe_ix OQ.ix_seq (pe_ix OQ.ix_seq (pv 0) (pv 3) (fun _ _ => rfl)) (pv 2) (fun _ _ => rfl)) (pv 3) (nomark _)))))
 (pss_one (ps_ret (pe_tup (pa_cons pe_str (pa_cons (pv 3) (pa_cons (pe_un un_neg pe_int) (pa_cons (pe_un un_neg pe_int) pa_nil)))))))
 pss_nil)
 (pss_one (ps_if (PW.pt (pw_or (pt_cmpR op_ne (pe_ix OQ.ix_seq (pe_ix OQ.ix_seq (pv 1) (pv 2) (fun _ _ => rfl)) (pv 3) (fun _ _ => rfl)) (pv 2) (nomark _)) (pw_or1 (pt_cmpR op_ne (pe_ix OQ.ix_seq (pe_ix OQ.ix_seq (pv 1) (pv 3) (fun _ _ => rfl)) (pv 2) (fun _ _ => rfl)) (pv 2) (nomark _)))))
 (pss_one (ps_ret (pe_tup (pa_cons pe_str (pa_cons (pv 3) (pa_cons (pe_un un_neg pe_int) (pa_cons (pe_un un_neg pe_int) pa_nil)))))))
 pss_nil))))
 (pss_one (ps_ret pe_non))), ?_⟩
    walk_at "tx"
    refine tj.len ?_
    refine ⟨n, rfl, by omega, by omega, ?_⟩
    refine RD.f_range (lo := 0) (n := n) (fun t σ' H' => (∀ i, i < t → J z i = i ∧ J i z = i ∧ M z i = z ∧ M i z = z) ∧ ∃ v : Option V, σ' = [some (.ref a), some (.ref b), some (.int z), v] ∧ H' = H) ⟨fun i z => by omega, none, rfl, rfl⟩ ?_ ?_
    · rintro t σ' H' ht ⟨ok, v, rfl, rfl⟩
      have bad : ¬ (J z t = t ∧ J t z = t ∧ M z t = z ∧ M t z = z) → F = some (("none" : Str), 0 + (t : Int), -1, -1) := fun n => by
        rw [eF]
        exact RK.fnd_at (t := t) (fun i hi => if_pos (ok i hi)) ht ((if_neg n).trans (by rw [Int.zero_add]))
      walk_at "tx"
      refine OQ.xT (m := z) tj rfl zn (fun r hr => ?_)
      walk_at "tx"
      refine OQ.xR (m := t) hr (by omega) ht ?_
      walk_at "tx"
      refine RD.iteN (fun c1 => ?_) (fun c1 => ?_)
      · walk_at "tx"
        exact ret4 k (Same.refl _) (bad fun z => c1 (by omega))
      walk_at "tx"
      refine OQ.xT (m := t) tj (by omega) ht (fun r hr => ?_)
      walk_at "tx"
      refine OQ.xR (m := z) hr rfl zn ?_
      walk_at "tx"
      refine RD.iteN (fun c2 => ?_) (fun c2 => ?_)
      · walk_at "tx"
        exact ret4 k (Same.refl _) (bad fun z => c2 (by omega))
      walk_at "tx"
      refine OQ.xT (m := z) tp rfl zn (fun r hr => ?_)
      walk_at "tx"
      refine OQ.xR (m := t) hr (by omega) ht ?_
      walk_at "tx"
      refine RD.iteN (fun c3 => ?_) (fun c3 => ?_)
      · walk_at "tx"
        exact ret4 k (Same.refl _) (bad fun z => c3 (by omega))
      walk_at "tx"
      refine OQ.xT (m := t) tp (by omega) ht (fun r hr => ?_)
      walk_at "tx"
      refine OQ.xR (m := z) hr rfl zn ?_
      walk_at "tx"
      refine RD.iteN (fun c4 => ?_) (fun c4 => ?_)
      · walk_at "tx"
        exact ret4 k (Same.refl _) (bad fun z => c4 (by omega))
      walk_at "tx"
      refine ⟨fun i hi => ?_, _, rfl, rfl⟩
      by_cases e : i = t
      · subst e; omega
      · exact ok i (by omega)
    · rintro σ' H' ⟨ok, v, rfl, rfl⟩
      walk_at "tx"
      exact ret0 k (Same.refl _) (by rw [eF]; exact RK.fnd_none fun i hi => if_pos (ok i hi))
theorem ok_one_fault (T : Top K mg) : FnOk P w K mg base CX0 1 T.f_one_fault T.fd_one_fault ["products", "one"] (spF fun vs H F => ∃ b n M o, vs = [.ref b, .int (o : Nat)] ∧ TabX K H b n M ∧ o < n ∧ n ≤ 16 ∧ F = RK.oneF n M o) := by
  refine T.F_one_fault.ok sc_one_fault (fun vs H Q E h => ?_) (fun cdv A outer s H vs Q E hr h => ?_)
  · obtain ⟨F, ⟨b, n, M, o, rfl, _⟩, _⟩ := h; rfl
  · obtain ⟨F, ⟨b, n, M, o, rfl, tp, on, n16, eF⟩, k⟩ := h
    refine ⟨_, (pss_cons (ps_for PassesOwn.never rfl (pi_range1 (by rfl) T.n_range (pa_cons (pe_callB RD.c_len (by rfl) T.n_len (by decide +kernel) (pa_cons (pv 0) pa_nil)) pa_nil)) (pg_name (i := 2) sc_one_fault.nd rfl (Or.inl rfl))
 (pss_one (ps_if (PW.pt (pw_or (pt_cmpR op_ne (pe_ix OQ.ix_seq (pe_ix OQ.ix_seq (pv 0) (pv 1) (fun _ _ => rfl)) (pv 2) (fun _ _ => rfl)) (pv 2) (nomark _)) (pw_or1 (pt_cmpR op_ne (pe_ix OQ.ix_seq (pe_ix OQ.ix_seq (pv 0) (pv 2) (fun _ _ => rfl)) (pv 1) (fun _ _ => rfl)) (pv 2) (nomark _)))))
 (pss_one (ps_ret (pe_tup (pa_cons pe_str (pa_cons (pv 2) (pa_cons (pe_un un_neg pe_int) (pa_cons (pe_un un_neg pe_int) pa_nil)))))))
 pss_nil)))
 (pss_one (ps_ret pe_non))), ?_⟩
    walk_at "tx"
    refine tp.len ?_
    refine ⟨n, rfl, by omega, by omega, ?_⟩
    refine RD.f_range (lo := 0) (n := n) (fun t σ' H' => (∀ i, i < t → M o i = i ∧ M i o = i) ∧ ∃ v : Option V, σ' = [some (.ref b), some (.int o), v] ∧ H' = H) ⟨fun i z => by omega, none, rfl, rfl⟩ ?_ ?_
    · rintro t σ' H' ht ⟨ok, v, rfl, rfl⟩
      have bad : ¬ (M o t = t ∧ M t o = t) → F = some (("one" : Str), 0 + (t : Int), -1, -1) := fun n => by
        rw [eF]
        exact RK.fnd_at (t := t) (fun i hi => if_pos (ok i hi)) ht ((if_neg n).trans (by rw [Int.zero_add]))
      walk_at "tx"
      refine OQ.xT (m := o) tp rfl on (fun r hr => ?_)
      walk_at "tx"
      refine OQ.xR (m := t) hr (by omega) ht ?_
      walk_at "tx"
      refine RD.iteN (fun c1 => ?_) (fun c1 => ?_)
      · walk_at "tx"
        exact ret4 k (Same.refl _) (bad fun z => c1 (by omega))
      walk_at "tx"
      refine OQ.xT (m := t) tp (by omega) ht (fun r hr => ?_)
      walk_at "tx"
      refine OQ.xR (m := o) hr rfl on ?_
      walk_at "tx"
      refine RD.iteN (fun c2 => ?_) (fun c2 => ?_)
      · walk_at "tx"
        exact ret4 k (Same.refl _) (bad fun z => c2 (by omega))
      walk_at "tx"
      refine ⟨fun i hi => ?_, _, rfl, rfl⟩
      by_cases e : i = t
      · subst e; omega
      · exact ok i (by omega)
    · rintro σ' H' ⟨ok, v, rfl, rfl⟩
      walk_at "tx"
      exact ret0 k (Same.refl _) (by rw [eF]; exact RK.fnd_none fun i hi => if_pos (ok i hi))
theorem ok_idle_fault (T : Top K mg) : FnOk P w K mg base CX0 1 T.f_idle_fault T.fd_idle_fault ["joins"] (spF fun vs H F => ∃ a n J, vs = [.ref a] ∧ TabX K H a n J ∧ n ≤ 16 ∧ F = RK.idleF n J) := by
  refine T.F_idle_fault.ok sc_idle_fault (fun vs H Q E h => ?_) (fun cdv A outer s H vs Q E hr h => ?_)
  · obtain ⟨F, ⟨a, n, J, rfl, _⟩, _⟩ := h; rfl
  · obtain ⟨F, ⟨a, n, J, rfl, tj, n16, eF⟩, k⟩ := h
    refine ⟨_, (pss_cons (ps_for PassesOwn.never rfl (pi_range1 (by rfl) T.n_range (pa_cons (pe_callB RD.c_len (by rfl) T.n_len (by decide +kernel) (pa_cons (pv 0) pa_nil)) pa_nil)) (pg_name (i := 1) sc_idle_fault.nd rfl (Or.inl rfl))
 (pss_one (ps_if (pt_cmpR op_ne (pe_ix OQ.ix_seq (pe_ix OQ.ix_seq (pv 0) (pv 1) (fun _ _ => rfl)) (pv 1) (fun _ _ => rfl)) (pv 1) (nomark _))
 (pss_one (ps_ret (pe_tup (pa_cons pe_str (pa_cons (pv 1) (pa_cons (pe_un un_neg pe_int) (pa_cons (pe_un un_neg pe_int) pa_nil)))))))
 pss_nil)))
 (pss_one (ps_ret pe_non))), ?_⟩
    walk_at "tx"
    refine tj.len ?_
    refine ⟨n, rfl, by omega, by omega, ?_⟩
    refine RD.f_range (lo := 0) (n := n) (fun t σ' H' => (∀ i, i < t → J i i = i) ∧ ∃ v : Option V, σ' = [some (.ref a), v] ∧ H' = H) ⟨fun i z => by omega, none, rfl, rfl⟩ ?_ ?_
    · rintro t σ' H' ht ⟨ok, v, rfl, rfl⟩
      walk_at "tx"
      refine OQ.xT (m := t) tj (by omega) ht (fun r hr => ?_)
      walk_at "tx"
      refine OQ.xR (m := t) hr (by omega) ht ?_
      walk_at "tx"
      refine RD.iteN (fun c1 => ?_) (fun c1 => ?_)
      · walk_at "tx"
        refine ret4 k (Same.refl _) ?_
        rw [eF]
        exact RK.fnd_at (t := t) (fun i hi => if_pos (ok i hi)) ht ((if_neg fun z => c1 (by omega)).trans (by rw [Int.zero_add]))
      walk_at "tx"
      refine ⟨fun i hi => ?_, _, rfl, rfl⟩
      by_cases e : i = t
      · subst e; omega
      · exact ok i (by omega)
    · rintro σ' H' ⟨ok, v, rfl, rfl⟩
      walk_at "tx"
      exact ret0 k (Same.refl _) (by rw [eF]; exact RK.fnd_none fun i hi => if_pos (ok i hi))
theorem ok_swap_fault (T : Top K mg) : FnOk P w K mg base CX0 1 T.f_swap_fault T.fd_swap_fault ["joins"] (spF fun vs H F => ∃ a n J, vs = [.ref a] ∧ TabX K H a n J ∧ n ≤ 16 ∧ F = RK.swapF n J) := by
  refine T.F_swap_fault.ok sc_swap_fault (fun vs H Q E h => ?_) (fun cdv A outer s H vs Q E hr h => ?_)
  · obtain ⟨F, ⟨a, n, J, rfl, _⟩, _⟩ := h; rfl
  · obtain ⟨F, ⟨a, n, J, rfl, tj, n16, eF⟩, k⟩ := h
    refine ⟨_, (pss_cons (ps_for PassesOwn.never rfl (pi_range1 (by rfl) T.n_range (pa_cons (pe_callB RD.c_len (by rfl) T.n_len (by decide +kernel) (pa_cons (pv 0) pa_nil)) pa_nil)) (pg_name (i := 1) sc_swap_fault.nd rfl (Or.inl rfl))
 (pss_one (ps_for PassesOwn.never rfl (pi_range1 (by rfl) T.n_range (pa_cons (pe_callB RD.c_len (by rfl) T.n_len (by decide +kernel) (pa_cons (pv 0) pa_nil)) pa_nil)) (pg_name (i := 2) sc_swap_fault.nd rfl (Or.inl rfl))
 (pss_one (ps_if (pt_cmpR op_ne (pe_ix OQ.ix_seq (pe_ix OQ.ix_seq (pv 0) (pv 1) (fun _ _ => rfl)) (pv 2) (fun _ _ => rfl)) (pe_ix OQ.ix_seq (pe_ix OQ.ix_seq (pv 0) (pv 2) (fun _ _ => rfl)) (pv 1) (fun _ _ => rfl)) (nomark _))
 (pss_one (ps_ret (pe_tup (pa_cons pe_str (pa_cons (pv 1) (pa_cons (pv 2) (pa_cons (pe_un un_neg pe_int) pa_nil)))))))
 pss_nil)))))
 (pss_one (ps_ret pe_non))), ?_⟩
    walk_at "tx"
    refine tj.len ?_
    refine ⟨n, rfl, by omega, by omega, ?_⟩
    refine RD.f_range (lo := 0) (n := n) (fun t σ' H' => (∀ i, i < t → ∀ j, j < n → J i j = J j i) ∧ ∃ v v2 : Option V, σ' = [some (.ref a), v, v2] ∧ H' = H) ⟨fun i z => by omega, none, none, rfl, rfl⟩ ?_ ?_
    · rintro t σ' H' ht ⟨ok, v, v2, rfl, rfl⟩
      walk_at "tx"
      refine tj.len ?_
      refine ⟨n, rfl, by omega, by omega, ?_⟩
      refine RD.f_range (lo := 0) (n := n) (fun u σ' H'' => (∀ j, j < u → J t j = J j t) ∧ ∃ v2 : Option V, σ' = [some (.ref a), some (.int (0 + t)), v2] ∧ H'' = H') ⟨fun i z => by omega, v2, rfl, rfl⟩ ?_ ?_
      · rintro u σ' H'' hu ⟨ok2, v2, rfl, rfl⟩
        walk_at "tx"
        refine OQ.xT (m := t) tj (by omega) ht (fun r hr => ?_)
        walk_at "tx"
        refine OQ.xR (m := u) hr (by omega) hu ?_
        walk_at "tx"
        refine OQ.xT (m := u) tj (by omega) hu (fun r hr => ?_)
        walk_at "tx"
        refine OQ.xR (m := t) hr (by omega) ht ?_
        walk_at "tx"
        refine RD.iteN (fun c1 => ?_) (fun c1 => ?_)
        · walk_at "tx"
          refine ret4 k (Same.refl _) ?_
          rw [eF]
          refine RK.fnd_at (t := t) (fun i hi => RK.fnd_none fun j hj => if_pos (ok i hi j hj)) ht ?_
          exact RK.fnd_at (t := u) (fun j hj => if_pos (ok2 j hj)) hu ((if_neg fun z => c1 (by omega)).trans (by rw [Int.zero_add, Int.zero_add]))
        walk_at "tx"
        refine ⟨fun i hi => ?_, _, rfl, rfl⟩
        by_cases e : i = u
        · subst e; omega
        · exact ok2 i (by omega)
      · rintro σ' H'' ⟨ok2, v2, rfl, rfl⟩
        refine ⟨fun i hi => ?_, _, _, rfl, rfl⟩
        by_cases e : i = t
        · subst e; exact ok2
        · exact ok i (by omega)
    · rintro σ' H' ⟨ok, v, v2, rfl, rfl⟩
      walk_at "tx"
      exact ret0 k (Same.refl _) (by rw [eF]; exact RK.fnd_none fun i hi => RK.fnd_none fun j hj => if_pos (ok i hi j hj))
theorem ok_grouping_fault (T : Top K mg) : FnOk P w K mg base CX0 1 T.f_grouping_fault T.fd_grouping_fault ["word", "table"] (spF fun vs H F => ∃ (q : Str) (a : Addr) (n : Nat) (J : Nat → Nat → Nat), vs = [.str q, .ref a] ∧ TabX K H a n J ∧ n ≤ 16 ∧ (∀ a b, a < n → b < n → J a b < n) ∧ F = RK.groupF q n J) := by
  refine T.F_grouping_fault.ok sc_grouping_fault (fun vs H Q E h => ?_) (fun cdv A outer s H vs Q E hr h => ?_)
  · obtain ⟨F, ⟨q, a, n, J, rfl, _⟩, _⟩ := h; rfl
  · obtain ⟨F, ⟨q, a, n, J, rfl, tj, n16, wj, eF⟩, k⟩ := h
    refine ⟨_, (pss_cons (ps_set (i := 2) sc_grouping_fault.nd rfl (Or.inl rfl) (pe_callTy OQ.cr_range1 (by rfl) T.n_range (by decide +kernel) (pa_cons (pe_callB RD.c_len (by rfl) T.n_len (by decide +kernel) (pa_cons (pv 1) pa_nil)) pa_nil)))
 (pss_cons (ps_for PassesOwn.never rfl (OQ.pi_rngV (pv 2)) (pg_name (i := 3) sc_grouping_fault.nd rfl (Or.inl rfl))
 (pss_one (ps_for PassesOwn.never rfl (OQ.pi_rngV (pv 2)) (pg_name (i := 4) sc_grouping_fault.nd rfl (Or.inl rfl))
 (pss_one (ps_for PassesOwn.never rfl (OQ.pi_rngV (pv 2)) (pg_name (i := 5) sc_grouping_fault.nd rfl (Or.inl rfl))
 (pss_one (ps_if (pt_cmpR op_ne (pe_ix OQ.ix_seq (pe_ix OQ.ix_seq (pv 1) (pe_ix OQ.ix_seq (pe_ix OQ.ix_seq (pv 1) (pv 3) (fun _ _ => rfl)) (pv 4) (fun _ _ => rfl)) (fun _ _ => rfl)) (pv 5) (fun _ _ => rfl)) (pe_ix OQ.ix_seq (pe_ix OQ.ix_seq (pv 1) (pv 3) (fun _ _ => rfl)) (pe_ix OQ.ix_seq (pe_ix OQ.ix_seq (pv 1) (pv 4) (fun _ _ => rfl)) (pv 5) (fun _ _ => rfl)) (fun _ _ => rfl)) (nomark _))
 (pss_one (ps_ret (pe_tup (pa_cons (pv 0) (pa_cons (pv 3) (pa_cons (pv 4) (pa_cons (pv 5) pa_nil)))))))
 pss_nil)))))))
 (pss_one (ps_ret pe_non)))), ?_⟩
    walk_at "tx"
    refine tj.len ?_
    refine ⟨n, rfl, fun p hp => ?_⟩
    have sp := same_upd (o := HO.rng 0 n) hp
    have ep : upd H p (.rng 0 n) p = some (.rng 0 n) := upd_same
    replace tj := tj.same sp
    generalize upd H p (.rng 0 n) = H0 at *
    walk_at "tx"
    refine ⟨p, 0, n, rfl, ep, by omega, ?_⟩
    refine RD.f_range (lo := 0) (n := ((n : Int) - 0).toNat) (fun t σ' H' => (∀ a, a < t → ∀ b, b < n → ∀ c, c < n → J (J a b) c = J a (J b c)) ∧ ∃ v v2 v3 : Option V, σ' = [some (.str q), some (.ref a), some (.ref p), v, v2, v3] ∧ H' = H0) ⟨fun i z => by omega, none, none, none, rfl, rfl⟩ ?_ ?_
    · rintro t σ' H' ht' ⟨ok, v, v2, v3, rfl, rfl⟩
      have ht : t < n := by omega
      walk_at "tx"
      refine ⟨p, 0, n, rfl, ep, by omega, ?_⟩
      refine RD.f_range (lo := 0) (n := ((n : Int) - 0).toNat) (fun u σ' H'' => (∀ b, b < u → ∀ c, c < n → J (J t b) c = J t (J b c)) ∧ ∃ v2 v3 : Option V, σ' = [some (.str q), some (.ref a), some (.ref p), some (.int (0 + t)), v2, v3] ∧ H'' = H') ⟨fun i z => by omega, v2, v3, rfl, rfl⟩ ?_ ?_
      · rintro u σ' H'' hu' ⟨ok2, v2, v3, rfl, rfl⟩
        have hu : u < n := by omega
        walk_at "tx"
        refine ⟨p, 0, n, rfl, ep, by omega, ?_⟩
        refine RD.f_range (lo := 0) (n := ((n : Int) - 0).toNat) (fun c σ' H' => (∀ d, d < c → J (J t u) d = J t (J u d)) ∧ ∃ v3 : Option V, σ' = [some (.str q), some (.ref a), some (.ref p), some (.int (0 + t)), some (.int (0 + u)), v3] ∧ H' = H'') ⟨fun i z => by omega, v3, rfl, rfl⟩ ?_ ?_
        · rintro c σ' H' hc' ⟨ok3, v3, rfl, rfl⟩
          have hc : c < n := by omega
          have w1 := wj t u ht hu
          have w2 := wj u c hu hc
          walk_at "tx"
          refine OQ.xT (m := t) tj (by omega) ht (fun r hr => ?_)
          walk_at "tx"
          refine OQ.xR (m := u) hr (by omega) hu ?_
          walk_at "tx"
          refine OQ.xT (m := J t u) tj rfl w1 (fun r hr => ?_)
          walk_at "tx"
          refine OQ.xR (m := c) hr (by omega) hc ?_
          walk_at "tx"
          refine OQ.xT (m := t) tj (by omega) ht (fun r0 hr0 => ?_)
          walk_at "tx"
          refine OQ.xT (m := u) tj (by omega) hu (fun r hr => ?_)
          walk_at "tx"
          refine OQ.xR (m := c) hr (by omega) hc ?_
          walk_at "tx"
          refine OQ.xR (m := J u c) hr0 rfl w2 ?_
          walk_at "tx"
          refine RD.iteN (fun c1 => ?_) (fun c1 => ?_)
          · walk_at "tx"
            refine ret4 k sp ?_
            rw [eF]
            refine RK.fnd_at (t := t) (fun i hi => RK.fnd_none fun j hj => RK.fnd_none fun l hl => if_pos (ok i hi j hj l hl)) ht ?_
            refine RK.fnd_at (t := u) (fun j hj => RK.fnd_none fun l hl => if_pos (ok2 j hj l hl)) hu ?_
            exact RK.fnd_at (t := c) (fun j hj => if_pos (ok3 j hj)) hc ((if_neg fun z => c1 (by omega)).trans (by rw [Int.zero_add, Int.zero_add, Int.zero_add]))
          walk_at "tx"
          refine ⟨fun i hi => ?_, _, rfl, rfl⟩
          by_cases e : i = c
          · subst e; omega
          · exact ok3 i (by omega)
        · rintro σ' H' ⟨ok3, v3, rfl, rfl⟩
          refine ⟨fun i hi => ?_, _, _, rfl, rfl⟩
          by_cases e : i = u
          · subst e; exact fun c hc => ok3 c (by omega)
          · exact ok2 i (by omega)
      · rintro σ' H'' ⟨ok2, v2, v3, rfl, rfl⟩
        refine ⟨fun i hi => ?_, _, _, _, rfl, rfl⟩
        by_cases e : i = t
        · subst e; exact fun b hb c hc => ok2 b (by omega) c hc
        · exact ok i (by omega)
    · rintro σ' H' ⟨ok, v, v2, v3, rfl, rfl⟩
      walk_at "tx"
      exact ret0 k sp (by rw [eF]; exact RK.fnd_none fun i hi => RK.fnd_none fun j hj => RK.fnd_none fun l hl => if_pos (ok i (by omega) j hj l hl))
theorem ok_same_fault (T : Top K mg) : FnOk P w K mg base CX0 1 T.f_same_fault T.fd_same_fault ["none", "one"] (spF fun vs _ F => ∃ z o : Nat, vs = [.int z, .int o] ∧ F = RK.sameF z o) := by
  refine T.F_same_fault.ok sc_same_fault (fun vs H Q E h => ?_) (fun cdv A outer s H vs Q E hr h => ?_)
  · obtain ⟨F, ⟨z, o, rfl, _⟩, _⟩ := h; rfl
  · obtain ⟨F, ⟨z, o, rfl, eF⟩, k⟩ := h
    refine ⟨_, (pss_one (ps_ret (pe_ifExp (pt_cmpR op_eq (pv 0) (pv 1) (nomark _)) (pe_tup (pa_cons pe_str (pa_cons (pe_un un_neg pe_int) (pa_cons (pe_un un_neg pe_int) (pa_cons (pe_un un_neg pe_int) pa_nil))))) pe_non))), ?_⟩
    walk_at "tx"
    refine RD.iteD (fun c => ?_) (fun c => ?_)
    · walk_at "tx"
      refine ret4 k (Same.refl _) ?_
      rw [eF]
      exact if_pos (by omega)
    · walk_at "tx"
      refine ret0 k (Same.refl _) ?_
      rw [eF]
      exact if_neg (by omega)
end

/-! ### the first fault -/
open OQ (TabX RowX)
open RK (Fl FltAt)
theorem d_orT {K : PySem.W.Frag} {ta tb : TE} {σ : L2.St} {H : Hp} {Q : VK} (h : ta σ H fun x H1 => ∃ k, TruV K x H1 k ∧ if k = true then Q x H1 else tb σ H1 Q) : tOrT K ta tb σ H Q := h
/-- the fault F1, and where it is none what comes next -/
theorem orF {K : PySem.W.Frag} {H : Hp} {v : V} {F1 F2 F : Fl} {X Y : Prop} (f : FltAt H v F1) (e : F = F1.or F2) (h1 : FltAt H v F → X) (h2 : F = F2 → Y) : ∃ k, TruV K v H k ∧ if k = true then X else Y := by
  cases F1 with
  | none => cases f; exact ⟨false, rfl, RD.d_iteF (h2 (by rw [e]; rfl))⟩
  | some q =>
    have e' : F = some q := by rw [e]; rfl
    obtain ⟨w, a, b, c⟩ := q
    obtain ⟨p, rfl, hp⟩ := id f
    exact ⟨true, .inr (.inl ⟨_, SqT.of hp, rfl⟩), RD.d_iteT (h1 (by rw [e']; exact f))⟩
/-- the first fault of what is handed in -/
def sizF (dj dp dz dn : PyData) : Fl := if RK.sizeB dj dp dz dn = true then none else some ("size", -1, -1, -1)
def firstF (dj dp dz dn : PyData) : Fl := (sizF dj dp dz dn).or (RK.restF (RK.cellsOf dj).length (RK.tabf dj) (RK.tabf dp) (RK.natOf dz) (RK.natOf dn))
theorem below_nat {K : PySem.W.Frag} {H : Hp} {n : Nat} {d : PyData} {v : V} (h : OQ.Dqd K H v d) (e : RK.belowB n d = true) : v = .int (RK.natOf d : Nat) ∧ RK.natOf d < n := by
  obtain ⟨i, rfl, h0, h1⟩ := OQ.belowB_int e
  cases h
  have : ((RK.natOf (.int i) : Nat) : Int) = i := by show ((i.toNat : Nat) : Int) = i; omega
  exact ⟨by rw [this], by omega⟩
theorem size_ok {dj dp dz dn : PyData} (h : RK.sizeB dj dp dz dn = true) : 2 ≤ (RK.cellsOf dj).length ∧ (RK.cellsOf dj).length ≤ 16 ∧ RK.squareB (RK.cellsOf dj).length dj = true ∧ RK.squareB (RK.cellsOf dj).length dp = true ∧ RK.belowB (RK.cellsOf dj).length dz = true ∧ RK.belowB (RK.cellsOf dj).length dn = true := by
  unfold RK.sizeB at h
  split at h
  · rename_i ds e
    have ec : RK.cellsOf dj = ds := by unfold RK.cellsOf; rw [e]; rfl
    simp only [Bool.and_eq_true, decide_eq_true_eq] at h
    rw [ec]
    exact ⟨h.1.1, h.1.2, h.2.1, h.2.2.1, h.2.2.2.1, h.2.2.2.2⟩
  · cases h
section
variable {P : Program} {w : World} {K : PySem.W.Frag} {mg : Str → Option Value} {base : Heap}
theorem ok_over_fault (T : Top K mg) : FnOk P w K mg base CX0 1 T.f_over_fault T.fd_over_fault ["joins", "products"] (spF fun vs H F => ∃ (a b : Addr) (n : Nat) (J M : Nat → Nat → Nat), vs = [.ref a, .ref b] ∧ TabX K H a n J ∧ TabX K H b n M ∧ n ≤ 16 ∧ (∀ a b, a < n → b < n → J a b < n) ∧ (∀ a b, a < n → b < n → M a b < n) ∧ F = RK.overF n J M) := by
  refine T.F_over_fault.ok sc_over_fault (fun vs H Q E h => ?_) (fun cdv A outer s H vs Q E hr h => ?_)
  · obtain ⟨F, ⟨a, b, n, J, M, rfl, _⟩, _⟩ := h; rfl
  · obtain ⟨F, ⟨a, b, n, J, M, rfl, tj, tp, n16, wj, wp, eF⟩, k⟩ := h
    refine ⟨_, (pss_cons (ps_set (i := 2) sc_over_fault.nd rfl (Or.inl rfl) (pe_callTy OQ.cr_range1 (by rfl) T.n_range (by decide +kernel) (pa_cons (pe_callB RD.c_len (by rfl) T.n_len (by decide +kernel) (pa_cons (pv 0) pa_nil)) pa_nil)))
 (pss_cons (ps_for PassesOwn.never rfl (OQ.pi_rngV (pv 2)) (pg_name (i := 3) sc_over_fault.nd rfl (Or.inl rfl))
 (pss_one (ps_for PassesOwn.never rfl (OQ.pi_rngV (pv 2)) (pg_name (i := 4) sc_over_fault.nd rfl (Or.inl rfl))
 (pss_one (ps_for PassesOwn.never rfl (OQ.pi_rngV (pv 2)) (pg_name (i := 5) sc_over_fault.nd rfl (Or.inl rfl))
 (pss_cons (ps_set (i := 6) sc_over_fault.nd rfl (Or.inl rfl) (pe_ix OQ.ix_seq (pe_ix OQ.ix_seq (pv 0) (pv 4) (fun _ _ => rfl)) (pv 5) (fun _ _ => rfl)))
 (pss_cons (ps_if (pt_cmpR op_ne (pe_ix OQ.ix_seq (pe_ix OQ.ix_seq (pv 1) (pv 3) (fun _ _ => rfl)) (pv 6) (fun _ _ => rfl)) (pe_ix OQ.ix_seq (pe_ix OQ.ix_seq (pv 0) (pe_ix OQ.ix_seq (pe_ix OQ.ix_seq (pv 1) (pv 3) (fun _ _ => rfl)) (pv 4) (fun _ _ => rfl)) (fun _ _ => rfl)) (pe_ix OQ.ix_seq (pe_ix OQ.ix_seq (pv 1) (pv 3) (fun _ _ => rfl)) (pv 5) (fun _ _ => rfl)) (fun _ _ => rfl)) (nomark _))
 (pss_one (ps_ret (pe_tup (pa_cons pe_str (pa_cons (pv 3) (pa_cons (pv 4) (pa_cons (pv 5) pa_nil)))))))
 pss_nil)
 (pss_one (ps_if (pt_cmpR op_ne (pe_ix OQ.ix_seq (pe_ix OQ.ix_seq (pv 1) (pv 6) (fun _ _ => rfl)) (pv 3) (fun _ _ => rfl)) (pe_ix OQ.ix_seq (pe_ix OQ.ix_seq (pv 0) (pe_ix OQ.ix_seq (pe_ix OQ.ix_seq (pv 1) (pv 4) (fun _ _ => rfl)) (pv 3) (fun _ _ => rfl)) (fun _ _ => rfl)) (pe_ix OQ.ix_seq (pe_ix OQ.ix_seq (pv 1) (pv 5) (fun _ _ => rfl)) (pv 3) (fun _ _ => rfl)) (fun _ _ => rfl)) (nomark _))
 (pss_one (ps_ret (pe_tup (pa_cons pe_str (pa_cons (pv 3) (pa_cons (pv 4) (pa_cons (pv 5) pa_nil)))))))
 pss_nil)))))))))
 (pss_one (ps_ret pe_non)))), ?_⟩
    walk_at "tx"
    refine tj.len ?_
    refine ⟨n, rfl, fun p hp => ?_⟩
    have sp := same_upd (o := HO.rng 0 n) hp
    have ep : upd H p (.rng 0 n) p = some (.rng 0 n) := upd_same
    replace tj := tj.same sp
    replace tp := tp.same sp
    generalize upd H p (.rng 0 n) = H0 at *
    walk_at "tx"
    refine ⟨p, 0, n, rfl, ep, by omega, ?_⟩
    refine RD.f_range (lo := 0) (n := ((n : Int) - 0).toNat) (fun t σ' H' => (∀ a, a < t → ∀ b, b < n → ∀ c, c < n → M a (J b c) = J (M a b) (M a c) ∧ M (J b c) a = J (M b a) (M c a)) ∧ ∃ v v2 v3 v4 : Option V, σ' = [some (.ref a), some (.ref b), some (.ref p), v, v2, v3, v4] ∧ H' = H0) ⟨fun i z => by omega, none, none, none, none, rfl, rfl⟩ ?_ ?_
    · rintro t σ' H' ht' ⟨ok, v, v2, v3, v4, rfl, rfl⟩
      have ht : t < n := by omega
      walk_at "tx"
      refine ⟨p, 0, n, rfl, ep, by omega, ?_⟩
      refine RD.f_range (lo := 0) (n := ((n : Int) - 0).toNat) (fun u σ' H'' => (∀ b, b < u → ∀ c, c < n → M t (J b c) = J (M t b) (M t c) ∧ M (J b c) t = J (M b t) (M c t)) ∧ ∃ v2 v3 v4 : Option V, σ' = [some (.ref a), some (.ref b), some (.ref p), some (.int (0 + t)), v2, v3, v4] ∧ H'' = H') ⟨fun i z => by omega, v2, v3, v4, rfl, rfl⟩ ?_ ?_
      · rintro u σ' H'' hu' ⟨ok2, v2, v3, v4, rfl, rfl⟩
        have hu : u < n := by omega
        walk_at "tx"
        refine ⟨p, 0, n, rfl, ep, by omega, ?_⟩
        refine RD.f_range (lo := 0) (n := ((n : Int) - 0).toNat) (fun c σ' H' => (∀ d, d < c → M t (J u d) = J (M t u) (M t d) ∧ M (J u d) t = J (M u t) (M d t)) ∧ ∃ v3 v4 : Option V, σ' = [some (.ref a), some (.ref b), some (.ref p), some (.int (0 + t)), some (.int (0 + u)), v3, v4] ∧ H' = H'') ⟨fun i z => by omega, v3, v4, rfl, rfl⟩ ?_ ?_
        · rintro c σ' H' hc' ⟨ok3, v3, v4, rfl, rfl⟩
          have hc : c < n := by omega
          have w1 := wj u c hu hc
          have bad : ¬ (M t (J u c) = J (M t u) (M t c) ∧ M (J u c) t = J (M u t) (M c t)) → F = some (("over" : Str), 0 + (t : Int), 0 + (u : Int), 0 + (c : Int)) := fun ng => by
            rw [eF]
            refine RK.fnd_at (t := t) (fun i hi => RK.fnd_none fun j hj => RK.fnd_none fun l hl => if_pos (ok i hi j hj l hl)) ht ?_
            refine RK.fnd_at (t := u) (fun j hj => RK.fnd_none fun l hl => if_pos (ok2 j hj l hl)) hu ?_
            exact RK.fnd_at (t := c) (fun j hj => if_pos (ok3 j hj)) hc ((if_neg ng).trans (by rw [Int.zero_add, Int.zero_add, Int.zero_add]))
          walk_at "tx"
          refine OQ.xT (m := u) tj (by omega) hu (fun r hr => ?_)
          walk_at "tx"
          refine OQ.xR (m := c) hr (by omega) hc ?_
          walk_at "tx"
          refine OQ.xT (m := t) tp (by omega) ht (fun r hr => ?_)
          walk_at "tx"
          refine OQ.xR (m := J u c) hr rfl w1 ?_
          walk_at "tx"
          refine OQ.xT (m := t) tp (by omega) ht (fun r hr => ?_)
          walk_at "tx"
          refine OQ.xR (m := u) hr (by omega) hu ?_
          walk_at "tx"
          refine OQ.xT (m := M t u) tj rfl (wp t u ht hu) (fun r0 hr0 => ?_)
          walk_at "tx"
          refine OQ.xT (m := t) tp (by omega) ht (fun r hr => ?_)
          walk_at "tx"
          refine OQ.xR (m := c) hr (by omega) hc ?_
          walk_at "tx"
          refine OQ.xR (m := M t c) hr0 rfl (wp t c ht hc) ?_
          walk_at "tx"
          refine RD.iteN (fun c1 => ?_) (fun c1 => ?_)
          · walk_at "tx"
            exact ret4 k sp (bad fun z => c1 (by omega))
          walk_at "tx"
          refine OQ.xT (m := J u c) tp rfl w1 (fun r hr => ?_)
          walk_at "tx"
          refine OQ.xR (m := t) hr (by omega) ht ?_
          walk_at "tx"
          refine OQ.xT (m := u) tp (by omega) hu (fun r hr => ?_)
          walk_at "tx"
          refine OQ.xR (m := t) hr (by omega) ht ?_
          walk_at "tx"
          refine OQ.xT (m := M u t) tj rfl (wp u t hu ht) (fun r0 hr0 => ?_)
          walk_at "tx"
          refine OQ.xT (m := c) tp (by omega) hc (fun r hr => ?_)
          walk_at "tx"
          refine OQ.xR (m := t) hr (by omega) ht ?_
          walk_at "tx"
          refine OQ.xR (m := M c t) hr0 rfl (wp c t hc ht) ?_
          walk_at "tx"
          refine RD.iteN (fun c2 => ?_) (fun c2 => ?_)
          · walk_at "tx"
            exact ret4 k sp (bad fun z => c2 (by omega))
          walk_at "tx"
          refine ⟨fun i hi => ?_, _, _, rfl, rfl⟩
          by_cases e : i = c
          · subst e; omega
          · exact ok3 i (by omega)
        · rintro σ' H' ⟨ok3, v3, v4, rfl, rfl⟩
          refine ⟨fun i hi => ?_, _, _, _, rfl, rfl⟩
          by_cases e : i = u
          · subst e; exact fun c hc => ok3 c (by omega)
          · exact ok2 i (by omega)
      · rintro σ' H'' ⟨ok2, v2, v3, v4, rfl, rfl⟩
        refine ⟨fun i hi => ?_, _, _, _, _, rfl, rfl⟩
        by_cases e : i = t
        · subst e; exact fun b hb c hc => ok2 b (by omega) c hc
        · exact ok i (by omega)
    · rintro σ' H' ⟨ok, v, v2, v3, v4, rfl, rfl⟩
      walk_at "tx"
      exact ret0 k sp (by rw [eF]; exact RK.fnd_none fun i hi => RK.fnd_none fun j hj => RK.fnd_none fun l hl => if_pos (ok i (by omega) j hj l hl))
theorem ok_size_fault (T : Top K mg) : FnOk P w K mg base CX0 8 T.f_size_fault T.fd_size_fault ["joins", "products", "none", "one"] (spF fun vs H F => ∃ (vj vp vz vn : V) (dj dp dz dn : PyData), vs = [vj, vp, vz, vn] ∧ OQ.Dqd K H vj dj ∧ OQ.Dqd K H vp dp ∧ OQ.Dqd K H vz dz ∧ OQ.Dqd K H vn dn ∧ F = sizF dj dp dz dn) := by
  refine T.F_size_fault.ok sc_size_fault (fun vs H Q E h => ?_) (fun cdv A outer s H vs Q E hr h => ?_)
  · obtain ⟨F, ⟨vj, vp, vz, vn, dj, dp, dz, dn, rfl, _⟩, _⟩ := h; rfl
  · obtain ⟨F, ⟨vj, vp, vz, vn, dj, dp, dz, dn, rfl, hj, hp, hz, hn, eF⟩, k⟩ := h
    have bad : RK.sizeB dj dp dz dn = false → F = some (("size" : Str), -1, -1, -1) := fun z => by rw [eF]; unfold sizF; rw [if_neg (by rw [z]; decide)]
    refine ⟨_, (pss_cons (ps_if (PW.pt (pw_or (pt_not (pt_val (pe_call (ok_is_row T) (hr.mono (by decide)) (by rfl) T.g_is_row T.F_is_row.kp T.b_is_row .nil pass0 (pa_cons (pv 0) pa_nil)))) (pw_or1 (pt_not (pt_chain op_le op_le (pe_glob (v := V.int 2) (by rfl) T.g_FEWEST_WORTHS ⟨_, rfl⟩) (pe_callB RD.c_len (by rfl) T.n_len (by decide +kernel) (pa_cons (pv 0) pa_nil)) (pe_glob (v := V.int 16) (by rfl) T.g_MOST_WORTHS ⟨_, rfl⟩))))))
 (pss_one (ps_ret (pe_tup (pa_cons pe_str (pa_cons (pe_un un_neg pe_int) (pa_cons (pe_un un_neg pe_int) (pa_cons (pe_un un_neg pe_int) pa_nil)))))))
 pss_nil)
 (pss_cons (ps_set (i := 4) sc_size_fault.nd rfl (Or.inl rfl) (pe_callB RD.c_len (by rfl) T.n_len (by decide +kernel) (pa_cons (pv 0) pa_nil)))
 (pss_cons (ps_if (PW.pt (pw_or (pt_not (pt_val (pe_call (ok_is_square T) (hr.mono (by decide)) (by rfl) T.g_is_square T.F_is_square.kp T.b_is_square .nil pass0 (pa_cons (pv 4) (pa_cons (pv 0) pa_nil))))) (pw_or1 (pt_not (pt_val (pe_call (ok_is_square T) (hr.mono (by decide)) (by rfl) T.g_is_square T.F_is_square.kp T.b_is_square .nil pass0 (pa_cons (pv 4) (pa_cons (pv 1) pa_nil))))))))
 (pss_one (ps_ret (pe_tup (pa_cons pe_str (pa_cons (pe_un un_neg pe_int) (pa_cons (pe_un un_neg pe_int) (pa_cons (pe_un un_neg pe_int) pa_nil)))))))
 pss_nil)
 (pss_cons (ps_if (PW.pt (pw_or (pt_not (pt_val (pe_call (ok_is_below T) (hr.mono (by decide)) (by rfl) T.g_is_below T.F_is_below.kp T.b_is_below .nil pass0 (pa_cons (pv 4) (pa_cons (pv 2) pa_nil))))) (pw_or1 (pt_not (pt_val (pe_call (ok_is_below T) (hr.mono (by decide)) (by rfl) T.g_is_below T.F_is_below.kp T.b_is_below .nil pass0 (pa_cons (pv 4) (pa_cons (pv 3) pa_nil))))))))
 (pss_one (ps_ret (pe_tup (pa_cons pe_str (pa_cons (pe_un un_neg pe_int) (pa_cons (pe_un un_neg pe_int) (pa_cons (pe_un un_neg pe_int) pa_nil)))))))
 pss_nil)
 (pss_one (ps_ret pe_non)))))), ?_⟩
    walk_at "tx"
    obtain ⟨t, ty, ek⟩ := OQ.dqd_isRow hj
    refine ⟨vj, t, _, rfl, ty, ek, fun H1 s1 => ?_⟩
    replace hj := OQ.Dqd.same s1 hj
    replace hp := OQ.Dqd.same s1 hp
    replace hz := OQ.Dqd.same s1 hz
    replace hn := OQ.Dqd.same s1 hn
    cases er : RK.rowsOf dj with
    | none =>
      refine ⟨false, rfl, RD.d_iteNF ?_⟩
      walk_at "tx"
      exact ret4 k s1 (bad (by unfold RK.sizeB; rw [er]))
    | some ds =>
      have eB : RK.sizeB dj dp dz dn = (decide (2 ≤ ds.length ∧ ds.length ≤ 16) && (RK.squareB ds.length dj && (RK.squareB ds.length dp && (RK.belowB ds.length dz && RK.belowB ds.length dn)))) := by unfold RK.sizeB; rw [er]
      rw [eB] at bad
      refine ⟨true, rfl, RD.d_iteNT ?_⟩
      obtain ⟨a, xs, rfl, sa, da⟩ := OQ.dqd_row hj er
      have len := OQ.dqdAll_len da
      walk_at "tx"
      refine sa.len ?_
      walk_at "tx"
      rw [len]
      refine RD.iteD (fun c1 => ?_) (fun c1 => ?_)
      · walk_at "tx"
        refine RD.iteN (fun c2 => ?_) (fun c2 => ?_)
        · walk_at "tx"
          exact ret4 k s1 (bad (by rw [decide_eq_false (by omega), Bool.false_and]))
        rw [decide_eq_true (by omega : 2 ≤ ds.length ∧ ds.length ≤ 16), Bool.true_and] at bad eB
        walk_at "tx"
        refine sa.len ?_
        walk_at "tx"
        rw [len]
        refine ⟨ds.length, _, dj, rfl, by omega, hj, fun H2 s2 => ?_⟩
        have s12 := s1.trans s2
        replace hp := OQ.Dqd.same s2 hp
        replace hz := OQ.Dqd.same s2 hz
        replace hn := OQ.Dqd.same s2 hn
        cases e1 : RK.squareB ds.length dj with
        | false =>
          refine ⟨false, rfl, RD.d_iteNF ?_⟩
          walk_at "tx"
          exact ret4 k s12 (bad (by rw [e1, Bool.false_and]))
        | true =>
          rw [e1, Bool.true_and] at bad eB
          refine ⟨true, rfl, RD.d_iteNT ?_⟩
          walk_at "tx"
          refine ⟨ds.length, _, dp, rfl, by omega, hp, fun H3 s3 => ?_⟩
          have s13 := s12.trans s3
          replace hz := OQ.Dqd.same s3 hz
          replace hn := OQ.Dqd.same s3 hn
          cases e2 : RK.squareB ds.length dp with
          | false =>
            refine ⟨false, rfl, RD.d_iteNF ?_⟩
            walk_at "tx"
            exact ret4 k s13 (bad (by rw [e2, Bool.false_and]))
          | true =>
            rw [e2, Bool.true_and] at bad eB
            refine ⟨true, rfl, RD.d_iteNT ?_⟩
            walk_at "tx"
            refine ⟨ds.length, _, _, rfl, Bl.dq hz, ?_⟩
            cases e3 : RK.belowB ds.length dz with
            | false =>
              refine ⟨false, rfl, RD.d_iteNF ?_⟩
              walk_at "tx"
              exact ret4 k s13 (bad (by rw [e3, Bool.false_and]))
            | true =>
              rw [e3, Bool.true_and] at bad eB
              refine ⟨true, rfl, RD.d_iteNT ?_⟩
              walk_at "tx"
              refine ⟨ds.length, _, _, rfl, Bl.dq hn, ?_⟩
              cases e4 : RK.belowB ds.length dn with
              | false =>
                refine ⟨false, rfl, RD.d_iteNF ?_⟩
                walk_at "tx"
                exact ret4 k s13 (bad e4)
              | true =>
                refine ⟨true, rfl, RD.d_iteNT ?_⟩
                walk_at "tx"
                exact ret0 k s13 (by rw [eF]; unfold sizF; rw [if_pos (eB.trans e4)])
      · walk_at "tx"
        exact ret4 k s1 (bad (by rw [decide_eq_false (by omega), Bool.false_and]))
theorem ok_first_fault (T : Top K mg) : FnOk P w K mg base CX0 10 T.f_first_fault T.fd_first_fault ["joins", "products", "none", "one"] (spF fun vs H F => ∃ (vj vp vz vn : V) (dj dp dz dn : PyData), vs = [vj, vp, vz, vn] ∧ OQ.Dqd K H vj dj ∧ OQ.Dqd K H vp dp ∧ OQ.Dqd K H vz dz ∧ OQ.Dqd K H vn dn ∧ F = firstF dj dp dz dn) := by
  refine T.F_first_fault.ok sc_first_fault (fun vs H Q E h => ?_) (fun cdv A outer s H vs Q E hr h => ?_)
  · obtain ⟨F, ⟨vj, vp, vz, vn, dj, dp, dz, dn, rfl, _⟩, _⟩ := h; rfl
  · obtain ⟨F, ⟨vj, vp, vz, vn, dj, dp, dz, dn, rfl, hj, hp, hz, hn, eF⟩, k⟩ := h
    refine ⟨_, (pss_one (ps_ret (pe_orT (pe_call (ok_size_fault T) (hr.mono (by decide)) (by rfl) T.g_size_fault T.F_size_fault.kp T.b_size_fault .nil pass0 (pa_cons (pv 0) (pa_cons (pv 1) (pa_cons (pv 2) (pa_cons (pv 3) pa_nil))))) (pe_orT (pe_call (ok_none_fault T) (hr.mono (by decide)) (by rfl) T.g_none_fault T.F_none_fault.kp T.b_none_fault .nil pass0 (pa_cons (pv 0) (pa_cons (pv 1) (pa_cons (pv 2) pa_nil)))) (pe_orT (pe_call (ok_one_fault T) (hr.mono (by decide)) (by rfl) T.g_one_fault T.F_one_fault.kp T.b_one_fault .nil pass0 (pa_cons (pv 1) (pa_cons (pv 3) pa_nil))) (pe_orT (pe_call (ok_idle_fault T) (hr.mono (by decide)) (by rfl) T.g_idle_fault T.F_idle_fault.kp T.b_idle_fault .nil pass0 (pa_cons (pv 0) pa_nil)) (pe_orT (pe_call (ok_swap_fault T) (hr.mono (by decide)) (by rfl) T.g_swap_fault T.F_swap_fault.kp T.b_swap_fault .nil pass0 (pa_cons (pv 0) pa_nil)) (pe_orT (pe_call (ok_grouping_fault T) (hr.mono (by decide)) (by rfl) T.g_grouping_fault T.F_grouping_fault.kp T.b_grouping_fault .nil pass0 (pa_cons pe_str (pa_cons (pv 0) pa_nil))) (pe_orT (pe_call (ok_grouping_fault T) (hr.mono (by decide)) (by rfl) T.g_grouping_fault T.F_grouping_fault.kp T.b_grouping_fault .nil pass0 (pa_cons pe_str (pa_cons (pv 1) pa_nil))) (pe_orT (pe_call (ok_over_fault T) (hr.mono (by decide)) (by rfl) T.g_over_fault T.F_over_fault.kp T.b_over_fault .nil pass0 (pa_cons (pv 0) (pa_cons (pv 1) pa_nil))) (pe_one (pe_call (ok_same_fault T) (hr.mono (by decide)) (by rfl) T.g_same_fault T.F_same_fault.kp T.b_same_fault .nil pass0 (pa_cons (pv 2) (pa_cons (pv 3) pa_nil)))))))))))))), ?_⟩
    walk_at "tx"
    refine d_orT ?_
    walk_at "tx"
    refine ⟨_, ⟨vj, vp, vz, vn, dj, dp, dz, dn, rfl, hj, hp, hz, hn, rfl⟩, fun v1 H1 s1 f1 => ?_⟩
    by_cases eS : RK.sizeB dj dp dz dn = true
    · have e0 : sizF dj dp dz dn = none := if_pos eS
      rw [e0] at f1
      have eF : F = RK.restF (RK.cellsOf dj).length (RK.tabf dj) (RK.tabf dp) (RK.natOf dz) (RK.natOf dn) := by rw [eF]; unfold firstF; rw [e0]; rfl
      obtain ⟨n2, n16, qj, qp, qz, qn⟩ := size_ok eS
      generalize (RK.cellsOf dj).length = n at *
      obtain ⟨a, rfl, tj, wj⟩ := OQ.dqd_tab hj qj
      obtain ⟨b, rfl, tp, wp⟩ := OQ.dqd_tab hp qp
      obtain ⟨rfl, zn⟩ := below_nat hz qz
      obtain ⟨rfl, on⟩ := below_nat hn qn
      clear hj hp hz hn qj qp qz qn e0 eS
      generalize RK.tabf dj = J at *
      generalize RK.tabf dp = M at *
      generalize RK.natOf dz = z at *
      generalize RK.natOf dn = o at *
      unfold RK.restF at eF
      replace tj := tj.same s1
      replace tp := tp.same s1
      cases f1
      refine ⟨false, rfl, ?_⟩
      walk_at "tx"
      try refine d_orT ?_
      walk_at "tx"
      refine ⟨_, ⟨a, b, n, J, M, z, rfl, tj, tp, zn, n16, rfl⟩, fun v2 H2 s2 f2 => orF f2 eF (fun f => k _ _ (s1.trans s2) f) (fun eF => ?_)⟩
      replace tj := tj.same s2
      replace tp := tp.same s2
      replace s1 := s1.trans s2
      clear f2 s2
      walk_at "tx"
      try refine d_orT ?_
      walk_at "tx"
      refine ⟨_, ⟨b, n, M, o, rfl, tp, on, n16, rfl⟩, fun v3 H3 s3 f3 => orF f3 eF (fun f => k _ _ (s1.trans s3) f) (fun eF => ?_)⟩
      replace tj := tj.same s3
      replace tp := tp.same s3
      replace s1 := s1.trans s3
      clear f3 s3
      walk_at "tx"
      try refine d_orT ?_
      walk_at "tx"
      refine ⟨_, ⟨a, n, J, rfl, tj, n16, rfl⟩, fun v4 H4 s4 f4 => orF f4 eF (fun f => k _ _ (s1.trans s4) f) (fun eF => ?_)⟩
      replace tj := tj.same s4
      replace tp := tp.same s4
      replace s1 := s1.trans s4
      clear f4 s4
      walk_at "tx"
      try refine d_orT ?_
      walk_at "tx"
      refine ⟨_, ⟨a, n, J, rfl, tj, n16, rfl⟩, fun v5 H5 s5 f5 => orF f5 eF (fun f => k _ _ (s1.trans s5) f) (fun eF => ?_)⟩
      replace tj := tj.same s5
      replace tp := tp.same s5
      replace s1 := s1.trans s5
      clear f5 s5
      walk_at "tx"
      try refine d_orT ?_
      walk_at "tx"
      refine ⟨_, ⟨_, a, n, J, rfl, tj, n16, wj, rfl⟩, fun v6 H6 s6 f6 => orF f6 eF (fun f => k _ _ (s1.trans s6) f) (fun eF => ?_)⟩
      replace tj := tj.same s6
      replace tp := tp.same s6
      replace s1 := s1.trans s6
      clear f6 s6
      walk_at "tx"
      try refine d_orT ?_
      walk_at "tx"
      refine ⟨_, ⟨_, b, n, M, rfl, tp, n16, wp, rfl⟩, fun v7 H7 s7 f7 => orF f7 eF (fun f => k _ _ (s1.trans s7) f) (fun eF => ?_)⟩
      replace tj := tj.same s7
      replace tp := tp.same s7
      replace s1 := s1.trans s7
      clear f7 s7
      walk_at "tx"
      try refine d_orT ?_
      walk_at "tx"
      refine ⟨_, ⟨a, b, n, J, M, rfl, tj, tp, n16, wj, wp, rfl⟩, fun v8 H8 s8 f8 => orF f8 eF (fun f => k _ _ (s1.trans s8) f) (fun eF => ?_)⟩
      replace tj := tj.same s8
      replace tp := tp.same s8
      replace s1 := s1.trans s8
      clear f8 s8
      walk_at "tx"
      try refine d_orT ?_
      walk_at "tx"
      exact ⟨_, ⟨z, o, rfl, rfl⟩, fun v H' s' f => k _ _ (s1.trans s') (by rw [eF]; exact f)⟩
    · have e0 : sizF dj dp dz dn = some (("size" : Str), -1, -1, -1) := if_neg eS
      rw [e0] at f1
      have eF : F = some (("size" : Str), -1, -1, -1) := by rw [eF]; unfold firstF; rw [e0]; rfl
      obtain ⟨p, rfl, hp'⟩ := id f1
      refine ⟨true, .inr (.inl ⟨_, SqT.of hp', rfl⟩), RD.d_iteT ?_⟩
      exact k _ _ s1 (by rw [eF]; exact f1)
end

/-! ### a reckoning's own tables, its inner methods -/
open OQ (TabX RowX)
def jall (J : Nat → Nat → Nat) (z : Nat) (ws : List Nat) : Nat := ws.foldl (fun f w => J f w) z
def meetF (n : Nat) (J : Nat → Nat → Nat) (z a b : Nat) : Nat := jall J z (((List.range n).filter fun w => decide (J w a = a)).filter fun w => decide (J w b = b))
def leftF (n : Nat) (J M : Nat → Nat → Nat) (z a c : Nat) : Nat := jall J z ((List.range n).filter fun b => decide (J (M a b) c = c))
def rightF (n : Nat) (J M : Nat → Nat → Nat) (z c a : Nat) : Nat := jall J z ((List.range n).filter fun b => decide (J (M b a) c = c))
theorem jall_lt {n : Nat} {J : Nat → Nat → Nat} {z : Nat} (zn : z < n) (wj : ∀ a b, a < n → b < n → J a b < n) : ∀ ws : List Nat, (∀ j ∈ ws, j < n) → jall J z ws < n := by
  intro ws
  induction ws generalizing z with
  | nil => intro _; exact zn
  | cons w ws ih =>
    intro h
    show jall J (J z w) ws < n
    exact ih (wj _ _ zn (h w (List.mem_cons_self ..))) fun j m => h j (List.mem_cons_of_mem _ m)
theorem jall_snoc {J : Nat → Nat → Nat} {z w : Nat} {ws : List Nat} : jall J z (ws ++ [w]) = J (jall J z ws) w := by
  unfold jall
  rw [List.foldl_append]; rfl
theorem filt_succ {p : Nat → Bool} {i : Nat} : (List.range (i + 1)).filter p = (List.range i).filter p ++ (if p i = true then [i] else []) := by
  rw [List.range_succ, List.filter_append]
  congr 1
  by_cases c : p i = true
  · rw [if_pos c]; simp [c]
  · rw [if_neg c]; simp [c]
theorem filt_take {p : Nat → Bool} {ws : List Nat} {i j : Nat} (e : ws[i]? = some j) : (ws.take (i + 1)).filter p = (ws.take i).filter p ++ (if p j = true then [j] else []) := by
  rw [List.take_succ, e, List.filter_append]
  congr 1
  by_cases c : p j = true
  · rw [if_pos c]; simp [c]
  · rw [if_neg c]; simp [c]
/-- one more number of a list of ours -/
theorem lput {H H' : Hp} {D : Addr} {us : List Nat} {j : Nat} {v : V} (hD : H D = none) (s : Same H H') (eD : H' D = some (.lst (WW.Ns us))) (l : us.length ≤ 100) (ev : v = .int (j : Nat)) :
    ∃ acc, H' D = some (.lst acc) ∧ acc.length < sizeLine ∧ Same H (upd H' D (.lst (acc ++ [v]))) ∧ upd H' D (.lst (acc ++ [v])) D = some (.lst (WW.Ns (us ++ [j]))) := by
  subst ev
  exact ⟨_, eD, by rw [WW.Ns_len]; exact Nat.lt_of_le_of_lt l (by decide), same_put s hD, by rw [upd_same, WW.Ns_app]⟩
/-- the object at x has these tables, and none -/
structure Rek (K : PySem.W.Frag) (C : Addr) (H : Hp) (x : Addr) (n : Nat) (J M : Nat → Nat → Nat) (z : Nat) : Prop where
  zn : z < n
  n16 : n ≤ 16
  wj : ∀ a b, a < n → b < n → J a b < n
  wp : ∀ a b, a < n → b < n → M a b < n
  has : ∃ (dx jt pt : Addr) (fs : List (Str × V)), H x = some (.ins C dx fs) ∧ fs.lookup ("joins" : Str) = some (.ref jt) ∧ TabX K H jt n J ∧ fs.lookup ("products" : Str) = some (.ref pt) ∧ TabX K H pt n M ∧ fs.lookup ("none" : Str) = some (.int z) ∧
    ∀ m ∈ ([("_joined" : Str), ("_meet" : Str), ("_left" : Str), ("_right" : Str), ("is_worth" : Str), ("beneath" : Str), ("join" : Str), ("times" : Str), ("meet" : Str), ("greatest" : Str), ("left" : Str), ("right" : Str)] : List Str), fs.lookup m = none
theorem Rek.same {K : PySem.W.Frag} {C : Addr} {H H' : Hp} {x : Addr} {n : Nat} {J M : Nat → Nat → Nat} {z : Nat} (h : Rek K C H x n J M z) (s : Same H H') : Rek K C H' x n J M z := by
  obtain ⟨dx, jt, pt, fs, e, l1, t1, l2, t2, r⟩ := h.has
  exact ⟨h.zn, h.n16, h.wj, h.wp, dx, jt, pt, fs, s _ _ e, l1, t1.same s, l2, t2.same s, r⟩
def spJoined (K : PySem.W.Frag) (C : Addr) : Sp := fun vs H Q _ => ∃ (x l : Addr) (n : Nat) (J M : Nat → Nat → Nat) (z : Nat) (ws : List Nat), vs = [.ref x, .ref l] ∧ Rek K C H x n J M z ∧ H l = some (.lst (WW.Ns ws)) ∧ (∀ j ∈ ws, j < n) ∧ Q (.int (jall J z ws : Nat)) H
def spTwoW (K : PySem.W.Frag) (C : Addr) (f : Nat → (Nat → Nat → Nat) → (Nat → Nat → Nat) → Nat → Nat → Nat → Nat) : Sp := fun vs H Q _ => ∃ (x : Addr) (n : Nat) (J M : Nat → Nat → Nat) (z a b : Nat), vs = [.ref x, .int a, .int b] ∧ Rek K C H x n J M z ∧ a < n ∧ b < n ∧ ∀ H', Same H H' → Q (.int (f n J M z a b : Nat)) H'
section
variable {P : Program} {w : World} {K : PySem.W.Frag} {mg : Str → Option Value} {base : Heap} {H : Hp} {R : V → Prop}
theorem rekJ (T : Top K mg) {x : Addr} {n : Nat} {J M : Nat → Nat → Nat} {z : Nat} (h : Rek K T.C_Reckoning H x n J M z) (k : ∀ jt, TabX K H jt n J → R (.ref jt)) : ∃ a' C dx fs v, V.ref x = .ref a' ∧ H a' = some (.ins C dx fs) ∧ Cls K C ∧ NoAttr K C "joins" ∧ fs.lookup ("joins" : Str) = some v ∧ R v := by
  obtain ⟨dx, jt, pt, fs, e, l1, t1, _⟩ := h.has
  exact ⟨x, _, dx, fs, _, rfl, e, T.cl_Reckoning, T.na_Reckoning_joins, l1, k jt t1⟩
theorem rekP (T : Top K mg) {x : Addr} {n : Nat} {J M : Nat → Nat → Nat} {z : Nat} (h : Rek K T.C_Reckoning H x n J M z) (k : ∀ pt, TabX K H pt n M → R (.ref pt)) : ∃ a' C dx fs v, V.ref x = .ref a' ∧ H a' = some (.ins C dx fs) ∧ Cls K C ∧ NoAttr K C "products" ∧ fs.lookup ("products" : Str) = some v ∧ R v := by
  obtain ⟨dx, jt, pt, fs, e, l1, t1, l2, t2, _⟩ := h.has
  exact ⟨x, _, dx, fs, _, rfl, e, T.cl_Reckoning, T.na_Reckoning_products, l2, k pt t2⟩
theorem rekN (T : Top K mg) {x : Addr} {n : Nat} {J M : Nat → Nat → Nat} {z : Nat} (h : Rek K T.C_Reckoning H x n J M z) (k : R (.int z)) : ∃ a' C dx fs v, V.ref x = .ref a' ∧ H a' = some (.ins C dx fs) ∧ Cls K C ∧ NoAttr K C "none" ∧ fs.lookup ("none" : Str) = some v ∧ R v := by
  obtain ⟨dx, jt, pt, fs, e, l1, t1, l2, t2, l3, _⟩ := h.has
  exact ⟨x, _, dx, fs, _, rfl, e, T.cl_Reckoning, T.na_Reckoning_none, l3, k⟩
theorem rekM {C : Addr} {x : Addr} {n : Nat} {J M : Nat → Nat → Nat} {z : Nat} {m : Str} {R : Prop} (h : Rek K C H x n J M z) (hm : m ∈ ([("_joined" : Str), ("_meet" : Str), ("_left" : Str), ("_right" : Str), ("is_worth" : Str), ("beneath" : Str), ("join" : Str), ("times" : Str), ("meet" : Str), ("greatest" : Str), ("left" : Str), ("right" : Str)] : List Str)) (k : R) : ∃ a' dx fs, V.ref x = .ref a' ∧ H a' = some (.ins C dx fs) ∧ fs.lookup m = none ∧ R := by
  obtain ⟨dx, jt, pt, fs, e, l1, t1, l2, t2, l3, ms⟩ := h.has
  exact ⟨x, dx, fs, rfl, e, ms m hm, k⟩
theorem ok_Reckoning_Ujoined (T : Top K mg) : FnOk P w K mg base CX0 1 T.f_Reckoning_Ujoined T.fd_Reckoning_Ujoined ["self", "worths"] (spJoined K T.C_Reckoning) := by
  refine T.F_Reckoning_Ujoined.ok sc_Reckoning_Ujoined (fun vs H Q E h => ?_) (fun cdv A outer s H vs Q E hr h => ?_)
  · obtain ⟨x, l, n, J, M, z, ws, rfl, _⟩ := h; rfl
  · obtain ⟨x, l, n, J, M, z, ws, rfl, re, el, all, k⟩ := h
    refine ⟨_, (pss_cons (ps_set (i := 2) sc_Reckoning_Ujoined.nd rfl (Or.inl rfl) (pe_fld (pv 0) (by rfl)))
 (pss_cons (ps_for PassesOwn.never rfl (pi_list (pv 1)) (pg_name (i := 3) sc_Reckoning_Ujoined.nd rfl (Or.inl rfl))
 (pss_one (ps_set (i := 2) sc_Reckoning_Ujoined.nd rfl (Or.inl rfl) (pe_ix OQ.ix_seq (pe_ix OQ.ix_seq (pe_fld (pv 0) (by rfl)) (pv 2) (fun _ _ => rfl)) (pv 3) (fun _ _ => rfl)))))
 (pss_one (ps_ret (pv 2))))), ?_⟩
    walk_at "tx"
    refine rekN T re ?_
    walk_at "tx"
    refine RD.f_list (K := K) (a := l) (xs := WW.Ns ws) (fun i σ' H' => ∃ v : Option V, σ' = [some (.ref x), some (.ref l), some (.int (jall J z (ws.take i) : Nat)), v] ∧ H' = H) ⟨none, rfl, rfl⟩ ?_ ?_ ?_
    · rintro i σ' H' _ ⟨v, _, rfl⟩
      exact SqL.of el
    · rintro i y σ' H' hy ⟨v, rfl, rfl⟩
      obtain ⟨j, hj, rfl⟩ := WW.Ns_get hy
      have jn := all j (List.mem_of_getElem? hj)
      have fn := jall_lt re.zn re.wj (ws.take i) fun q m => all q (List.mem_of_mem_take m)
      walk_at "tx"
      refine rekJ T re (fun jt tj => ?_)
      walk_at "tx"
      refine OQ.xT (m := jall J z (ws.take i)) tj rfl fn (fun r hr => ?_)
      walk_at "tx"
      refine OQ.xR (m := j) hr rfl jn ?_
      refine ⟨some (.int (j : Nat)), ?_, rfl⟩
      have e : jall J z (ws.take (i + 1)) = J (jall J z (ws.take i)) j := by
        rw [List.take_succ, hj]
        exact jall_snoc
      rw [e]
      rfl
    · rintro σ' H' ⟨v, rfl, rfl⟩
      rw [WW.Ns_len, List.take_length]
      walk_at "tx"
      exact k
theorem ok_Reckoning_Umeet (T : Top K mg) : FnOk P w K mg base CX0 3 T.f_Reckoning_Umeet T.fd_Reckoning_Umeet ["self", "a", "b"] (spTwoW K T.C_Reckoning fun n J _ z a b => meetF n J z a b) := by
  refine T.F_Reckoning_Umeet.ok sc_Reckoning_Umeet (fun vs H Q E h => ?_) (fun cdv A outer s H vs Q E hr h => ?_)
  · obtain ⟨x, n, J, M, z, a, b, rfl, _⟩ := h; rfl
  · obtain ⟨x, n, J, M, z, a, b, rfl, re, ha, hb, k⟩ := h
    refine ⟨_, (pss_cons (ps_setLc (i := 3) (own := [("worth", 4)]) (g := (gName 4)) (tt := _) rfl sc_Reckoning_Umeet.nd rfl rfl (sw_true rfl rfl rfl (by decide +kernel)) (pi_range1 (by rfl) T.n_range (pa_cons (pe_callB RD.c_len (by rfl) T.n_len (by decide +kernel) (pa_cons (pe_fld (pv 0) (by rfl)) pa_nil)) pa_nil)) (blkOk_by (own := [("worth", 4)]) (N := ["self", "a", "b", "below", "worth"]) (sc := defScope s_Reckoning_Umeet) (by decide +kernel)) (fun _ _ _ _ _ => (pg_name (i := 4) sc_Reckoning_Umeet.nd rfl (Or.inl rfl))) (fun _ _ _ _ _ => (pts_one (pt_cmpR op_eq (pe_ix (OQ.ixA K) (pe_ix (OQ.ixA K) (OQ.fldK K (pv 0)) (pv 4) (fun _ _ => rfl)) (pv 1) (fun _ _ => rfl)) (pv 1) (nomark _)))) (fun _ _ _ _ _ => (pv 4)))
 (pss_one (ps_ret (pe_meth (pv 0) T.cl_Reckoning T.m_Reckoning_Ujoined (ok_Reckoning_Ujoined T) (hr.mono (by decide)) T.b_Reckoning_Ujoined .nil pass0 (pa_cons (pe_lc (own := [("worth", 4)]) (g := (gName 4)) (tt := _) rfl sc_Reckoning_Umeet.nd (pi_list (pv 3)) (blkOk_by (own := [("worth", 4)]) (N := ["self", "a", "b", "below", "worth"]) (sc := defScope s_Reckoning_Umeet) (by decide +kernel)) (fun _ _ _ _ _ => (pg_name (i := 4) sc_Reckoning_Umeet.nd rfl (Or.inl rfl))) (fun _ _ _ _ _ => (pts_one (pt_cmpR op_eq (pe_ix (OQ.ixA K) (pe_ix (OQ.ixA K) (OQ.fldK K (pv 0)) (pv 4) (fun _ _ => rfl)) (pv 2) (fun _ _ => rfl)) (pv 2) (nomark _)))) (fun _ _ _ _ _ => (pv 4))) pa_nil))))), ?_⟩
    have n16 := re.n16
    walk_at "tx"
    refine rekJ T re (fun jt tt => ?_)
    walk_at "tx"
    refine tt.len ?_
    refine ⟨n, rfl, by omega, by omega, ?_⟩
    intro D hD
    refine lc_range (lo := 0) (n := n) (fun i H' => Same H H' ∧ H' D = some (.lst (WW.Ns ((List.range i).filter fun w => decide (J w a = a))))) ⟨same_upd hD, upd_same⟩ ?_ ?_
    · rintro i H' hi ⟨s1, eD⟩
      have re1 := re.same s1
      walk_at "tx"
      refine rekJ T re1 (fun jt1 tt1 => ?_)
      walk_at "tx"
      refine OQ.xT (m := i) tt1 (by omega) hi (fun q hq => ?_)
      walk_at "tx"
      refine OQ.xR (m := a) hq rfl ha ?_
      walk_at "tx"
      rw [filt_succ]
      refine RD.iteD (fun c => ?_) (fun c => ?_)
      · rw [if_pos (decide_eq_true (by omega))]
        walk_at "tx"
        exact lput hD s1 eD (Nat.le_trans (List.length_filter_le ..) (by rw [List.length_range]; omega)) (by rw [Int.zero_add])
      · rw [if_neg (by rw [decide_eq_true_eq]; omega), List.append_nil]
        exact ⟨s1, eD⟩
    · rintro H' ⟨s1, eD⟩
      generalize hws : ((List.range n).filter fun w => decide (J w a = a)) = ws at *
      have all : ∀ j ∈ ws, j < n := fun j m => by rw [← hws] at m; exact List.mem_range.mp ((List.mem_filter.mp m).1)
      have wl : ws.length ≤ 16 := by rw [← hws]; exact Nat.le_trans (List.length_filter_le ..) (by rw [List.length_range]; omega)
      have re1 := re.same s1
      walk_at "tx"
      refine rekM re1 (by simp) ?_
      walk_at "tx"
      intro D2 hD2
      refine lc_list (K := K) (a := D) (xs := WW.Ns ws) (fun i H'' => Same H' H'' ∧ H'' D2 = some (.lst (WW.Ns ((ws.take i).filter fun w => decide (J w b = b))))) ⟨same_upd hD2, upd_same⟩ ?_ ?_ ?_
      · rintro i H'' _ ⟨s2, _⟩
        exact SqL.of (s2 _ _ eD)
      · rintro i y H'' hi ⟨s2, eD2⟩
        obtain ⟨j, hj, rfl⟩ := WW.Ns_get hi
        have jn := all j (List.mem_of_getElem? hj)
        walk_at "tx"
        refine rekJ T (re1.same s2) (fun jt1 tt1 => ?_)
        walk_at "tx"
        refine OQ.xT (m := j) tt1 rfl jn (fun q hq => ?_)
        walk_at "tx"
        refine OQ.xR (m := b) hq rfl hb ?_
        walk_at "tx"
        rw [filt_take hj]
        refine RD.iteD (fun c => ?_) (fun c => ?_)
        · rw [if_pos (decide_eq_true (by omega))]
          walk_at "tx"
          exact lput hD2 s2 eD2 (Nat.le_trans (List.length_filter_le ..) (by rw [List.length_take]; omega)) rfl
        · rw [if_neg (by rw [decide_eq_true_eq]; omega), List.append_nil]
          exact ⟨s2, eD2⟩
      · rintro H'' ⟨s2, eD2⟩
        rw [WW.Ns_len, List.take_length] at eD2
        walk_at "tx"
        refine ⟨x, D2, n, J, M, z, _, rfl, re1.same s2, eD2, fun j m => all j ((List.mem_filter.mp m).1), ?_⟩
        have q : Q (.int (meetF n J z a b : Nat)) H'' := k _ (s1.trans s2)
        unfold meetF at q
        rw [hws] at q
        exact q
theorem ok_Reckoning_Uleft (T : Top K mg) : FnOk P w K mg base CX0 3 T.f_Reckoning_Uleft T.fd_Reckoning_Uleft ["self", "a", "c"] (spTwoW K T.C_Reckoning leftF) := by
  refine T.F_Reckoning_Uleft.ok sc_Reckoning_Uleft (fun vs H Q E h => ?_) (fun cdv A outer s H vs Q E hr h => ?_)
  · obtain ⟨x, n, J, M, z, a, b, rfl, _⟩ := h; rfl
  · obtain ⟨x, n, J, M, z, a, c, rfl, re, ha, hc, k⟩ := h
    refine ⟨_, (pss_cons (ps_set (i := 3) sc_Reckoning_Uleft.nd rfl (Or.inr rfl) (pe_ix OQ.ix_seq (pe_fld (pv 0) (by rfl)) (pv 1) (fun _ _ => rfl)))
 (pss_one (ps_ret (pe_meth (pv 0) T.cl_Reckoning T.m_Reckoning_Ujoined (ok_Reckoning_Ujoined T) (hr.mono (by decide)) T.b_Reckoning_Ujoined .nil pass0 (pa_cons (pe_lc (own := [("b", 4)]) (g := (gName 4)) (tt := _) rfl sc_Reckoning_Uleft.nd (pi_range1 (by rfl) T.n_range (pa_cons (pe_callB RD.c_len (by rfl) T.n_len (by decide +kernel) (pa_cons (pv 3) pa_nil)) pa_nil)) (blkOk_by (own := [("b", 4)]) (N := ["self", "a", "c", "row", "b"]) (sc := defScope s_Reckoning_Uleft) (by decide +kernel)) (fun _ _ _ _ _ => (pg_name (i := 4) sc_Reckoning_Uleft.nd rfl (Or.inl rfl))) (fun _ _ _ _ _ => (pts_one (pt_cmpR op_eq (pe_ix (OQ.ixA K) (pe_ix (OQ.ixA K) (OQ.fldK K (pv 0)) (pe_ix (OQ.ixA K) (pv 3) (pv 4) (fun _ _ => rfl)) (fun _ _ => rfl)) (pv 2) (fun _ _ => rfl)) (pv 2) (nomark _)))) (fun _ _ _ _ _ => (pv 4))) pa_nil))))), ?_⟩
    have n16 := re.n16
    walk_at "tx"
    refine rekP T re (fun pt tp => ?_)
    walk_at "tx"
    refine OQ.xT (m := a) tp rfl ha (fun r hr => ?_)
    walk_at "tx"
    refine rekM re (by simp) ?_
    walk_at "tx"
    refine hr.len ?_
    refine ⟨n, rfl, by omega, by omega, ?_⟩
    intro D hD
    refine lc_range (lo := 0) (n := n) (fun i H' => Same H H' ∧ H' D = some (.lst (WW.Ns ((List.range i).filter fun b => decide (J (M a b) c = c))))) ⟨same_upd hD, upd_same⟩ ?_ ?_
    · rintro i H' hi ⟨s1, eD⟩
      have re1 := re.same s1
      walk_at "tx"
      refine rekJ T re1 (fun jt1 tt1 => ?_)
      walk_at "tx"
      refine OQ.xR (m := i) (OQ.SeqAt.same hr s1) (by omega) hi ?_
      walk_at "tx"
      refine OQ.xT (m := M a i) tt1 rfl (re.wp a i ha hi) (fun q hq => ?_)
      walk_at "tx"
      refine OQ.xR (m := c) hq rfl hc ?_
      walk_at "tx"
      rw [filt_succ]
      refine RD.iteD (fun c1 => ?_) (fun c1 => ?_)
      · rw [if_pos (decide_eq_true (by omega))]
        walk_at "tx"
        exact lput hD s1 eD (Nat.le_trans (List.length_filter_le ..) (by rw [List.length_range]; omega)) (by rw [Int.zero_add])
      · rw [if_neg (by rw [decide_eq_true_eq]; omega), List.append_nil]
        exact ⟨s1, eD⟩
    · rintro H' ⟨s1, eD⟩
      walk_at "tx"
      exact ⟨x, D, n, J, M, z, _, rfl, re.same s1, eD, fun j m => List.mem_range.mp ((List.mem_filter.mp m).1), k _ s1⟩
theorem ok_Reckoning_Uright (T : Top K mg) : FnOk P w K mg base CX0 3 T.f_Reckoning_Uright T.fd_Reckoning_Uright ["self", "c", "a"] (spTwoW K T.C_Reckoning rightF) := by
  refine T.F_Reckoning_Uright.ok sc_Reckoning_Uright (fun vs H Q E h => ?_) (fun cdv A outer s H vs Q E hr h => ?_)
  · obtain ⟨x, n, J, M, z, a, b, rfl, _⟩ := h; rfl
  · obtain ⟨x, n, J, M, z, c, a, rfl, re, hc, ha, k⟩ := h
    refine ⟨_, (pss_cons (ps_set (i := 3) sc_Reckoning_Uright.nd rfl (Or.inr rfl) (pe_lc (own := [("row", 4)]) (g := (gName 4)) (tt := tYes) rfl sc_Reckoning_Uright.nd (OQ.pi_seq (pe_fld (pv 0) (by rfl))) (blkOk_by (own := [("row", 4)]) (N := ["self", "c", "a", "column", "row", "b"]) (sc := defScope s_Reckoning_Uright) (by decide +kernel)) (fun _ _ _ _ _ => (pg_name (i := 4) sc_Reckoning_Uright.nd rfl (Or.inl rfl))) (fun _ _ _ _ _ => pts_nil) (fun _ _ _ _ _ => (pe_ix (OQ.ixA K) (pv 4) (pv 2) (fun _ _ => rfl)))))
 (pss_one (ps_ret (pe_meth (pv 0) T.cl_Reckoning T.m_Reckoning_Ujoined (ok_Reckoning_Ujoined T) (hr.mono (by decide)) T.b_Reckoning_Ujoined .nil pass0 (pa_cons (pe_lc (own := [("b", 5)]) (g := (gName 5)) (tt := _) rfl sc_Reckoning_Uright.nd (pi_range1 (by rfl) T.n_range (pa_cons (pe_callB RD.c_len (by rfl) T.n_len (by decide +kernel) (pa_cons (pv 3) pa_nil)) pa_nil)) (blkOk_by (own := [("b", 5)]) (N := ["self", "c", "a", "column", "row", "b"]) (sc := defScope s_Reckoning_Uright) (by decide +kernel)) (fun _ _ _ _ _ => (pg_name (i := 5) sc_Reckoning_Uright.nd rfl (Or.inl rfl))) (fun _ _ _ _ _ => (pts_one (pt_cmpR op_eq (pe_ix (OQ.ixA K) (pe_ix (OQ.ixA K) (OQ.fldK K (pv 0)) (pe_ix (OQ.ixL K) (pv 3) (pv 5) (fun _ _ => rfl)) (fun _ _ => rfl)) (pv 1) (fun _ _ => rfl)) (pv 1) (nomark _)))) (fun _ _ _ _ _ => (pv 5))) pa_nil))))), ?_⟩
    have n16 := re.n16
    walk_at "tx"
    obtain ⟨dx, jt, pt, fs, ex, l1, tj0, l2, tp0, l3, ms⟩ := id re.has
    obtain ⟨rs, len, sa, rows⟩ := id tp0
    refine OQ.d_seqFld rfl ex T.cl_Reckoning T.na_Reckoning_products l2 sa (fun W G hw hG => fun D hD => ?_)
    rw [List.length_map, len] at hw
    refine lc_it hw (fun i H' => Same H H' ∧ H' D = some (.lst (WW.Ns ((List.range i).map fun b => M b a)))) ⟨same_upd hD, upd_same⟩ (fun i H' _ q => hG _ q.1) ?_ ?_
    · rintro i y H' H'' il ⟨s1, eD⟩ ⟨rfl, e2⟩
      have ir : i < rs.length := by rw [len]; exact il
      rw [List.getElem?_map, List.getElem?_eq_getElem ir] at e2
      cases e2
      have hr := OQ.SeqAt.same (rows i _ (List.getElem?_eq_getElem ir)) s1
      walk_at "tx"
      refine OQ.xR (m := a) hr rfl ha ?_
      have := lput (j := M i a) hD s1 eD (by rw [List.length_map, List.length_range]; omega) rfl
      rwa [show ((List.range i).map fun b => M b a) ++ [M i a] = (List.range (i + 1)).map fun b => M b a from by rw [List.range_succ, List.map_append]; rfl] at this
    · rintro H' ⟨s1, eD⟩
      have re1 := re.same s1
      walk_at "tx"
      refine rekM re1 (by simp) ?_
      walk_at "tx"
      rw [WW.Ns_len, List.length_map, List.length_range]
      refine ⟨n, rfl, by omega, by omega, ?_⟩
      intro D2 hD2
      refine lc_range (lo := 0) (n := n) (fun i H'' => Same H' H'' ∧ H'' D2 = some (.lst (WW.Ns ((List.range i).filter fun b => decide (J (M b a) c = c))))) ⟨same_upd hD2, upd_same⟩ ?_ ?_
      · rintro i H'' hi ⟨s2, eD2⟩
        walk_at "tx"
        refine rekJ T (re1.same s2) (fun jt1 tt1 => ?_)
        walk_at "tx"
        refine RD.d_ixL (SqL.of (s2 _ _ eD)) (v := .int (M i a : Nat)) (by rw [Int.zero_add]; exact atI_nat (by unfold WW.Ns; rw [List.map_map, List.getElem?_map, List.getElem?_range hi]; rfl)) ?_
        walk_at "tx"
        refine OQ.xT (m := M i a) tt1 rfl (re.wp i a hi ha) (fun q hq => ?_)
        walk_at "tx"
        refine OQ.xR (m := c) hq rfl hc ?_
        walk_at "tx"
        rw [filt_succ]
        refine RD.iteD (fun c1 => ?_) (fun c1 => ?_)
        · rw [if_pos (decide_eq_true (by omega))]
          walk_at "tx"
          exact lput hD2 s2 eD2 (Nat.le_trans (List.length_filter_le ..) (by rw [List.length_range]; omega)) (by rw [Int.zero_add])
        · rw [if_neg (by rw [decide_eq_true_eq]; omega), List.append_nil]
          exact ⟨s2, eD2⟩
      · rintro H'' ⟨s2, eD2⟩
        walk_at "tx"
        exact ⟨x, D2, n, J, M, z, _, rfl, re1.same s2, eD2, fun j m => List.mem_range.mp (List.mem_filter.mp m).1, k _ (s1.trans s2)⟩
end

/-! ### a reckoning made -/
open OQ (TabX RowX SeqAt)
open RK (Fl FltAt)
/-- rows as tuples -/
def TabXT (K : PySem.W.Frag) (H : Hp) (a : Addr) (n : Nat) (f : Nat → Nat → Nat) : Prop := ∃ rs : List Addr, rs.length = n ∧ SqT K H a (rs.map V.ref) ∧ ∀ (i : Nat) (r : Addr), rs[i]? = some r → SqT K H r ((List.range n).map fun j => V.int (f i j : Nat))
/-- rows as lists -/
def TabXL (H : Hp) (a : Addr) (n : Nat) (f : Nat → Nat → Nat) : Prop := ∃ rs : List Addr, rs.length = n ∧ H a = some (.lst (rs.map V.ref)) ∧ ∀ (i : Nat) (r : Addr), rs[i]? = some r → H r = some (.lst ((List.range n).map fun j => V.int (f i j : Nat)))
theorem TabXT.x {K : PySem.W.Frag} {H : Hp} {a : Addr} {n : Nat} {f : Nat → Nat → Nat} (h : TabXT K H a n f) : TabX K H a n f := by
  obtain ⟨rs, l, e, q⟩ := h
  exact ⟨rs, l, .inr e, fun i r z => .inr (q i r z)⟩
theorem TabXL.x {K : PySem.W.Frag} {H : Hp} {a : Addr} {n : Nat} {f : Nat → Nat → Nat} (h : TabXL H a n f) : TabX K H a n f := by
  obtain ⟨rs, l, e, q⟩ := h
  exact ⟨rs, l, .inl (SqL.of e), fun i r z => .inl (SqL.of (q i r z))⟩
theorem sqT_kx {K : PySem.W.Frag} {H H' : Hp} {x C dx a : Addr} {fs : List (Str × V)} {xs : List V} (h : SqT K H a xs) (ex : H x = some (.ins C dx fs)) (k : Kx x H H') : SqT K H' a xs := by
  rcases h with (h | ⟨o, h⟩) | h
  · exact .inl (.inl (k _ _ (fun z => by subst z; rw [ex] at h; cases h) h))
  · exact .inl (.inr ⟨o, k _ _ (fun z => by subst z; rw [ex] at h; cases h) h⟩)
  · exact .inr h
theorem sqL_kx {K : PySem.W.Frag} {H H' : Hp} {x C dx a : Addr} {fs : List (Str × V)} {xs : List V} (h : SqL K H a xs) (ex : H x = some (.ins C dx fs)) (k : Kx x H H') : SqL K H' a xs := by
  rcases h with (h | ⟨o, h⟩) | h
  · exact .inl (.inl (k _ _ (fun z => by subst z; rw [ex] at h; cases h) h))
  · exact .inl (.inr ⟨o, k _ _ (fun z => by subst z; rw [ex] at h; cases h) h⟩)
  · exact .inr h
theorem sqT_lst {K : PySem.W.Frag} {H : Hp} {D a : Addr} {ys xs : List V} {o : HO} (h : SqT K H a xs) (eD : H D = some (.lst ys)) : SqT K (upd H D o) a xs := by
  rcases h with (h | ⟨o', h⟩) | h
  · exact .inl (.inl (by rw [upd_ne (fun z => by subst z; rw [eD] at h; cases h)]; exact h))
  · exact .inl (.inr ⟨o', by rw [upd_ne (fun z => by subst z; rw [eD] at h; cases h)]; exact h⟩)
  · exact .inr h
theorem SeqAt_kx {K : PySem.W.Frag} {H H' : Hp} {x C dx a : Addr} {fs : List (Str × V)} {xs : List V} (h : SeqAt K H a xs) (ex : H x = some (.ins C dx fs)) (k : Kx x H H') : SeqAt K H' a xs :=
  h.imp (fun h => sqL_kx h ex k) fun h => sqT_kx h ex k
theorem TabX.kx {K : PySem.W.Frag} {H H' : Hp} {x C dx a : Addr} {fs : List (Str × V)} {n : Nat} {f : Nat → Nat → Nat} (h : TabX K H a n f) (ex : H x = some (.ins C dx fs)) (k : Kx x H H') : TabX K H' a n f := by
  obtain ⟨rs, l, e, q⟩ := h
  exact ⟨rs, l, SeqAt_kx e ex k, fun i r z => SeqAt_kx (q i r z) ex k⟩
theorem TabXT.kx {K : PySem.W.Frag} {H H' : Hp} {x C dx a : Addr} {fs : List (Str × V)} {n : Nat} {f : Nat → Nat → Nat} (h : TabXT K H a n f) (ex : H x = some (.ins C dx fs)) (k : Kx x H H') : TabXT K H' a n f := by
  obtain ⟨rs, l, e, q⟩ := h
  exact ⟨rs, l, sqT_kx e ex k, fun i r z => sqT_kx (q i r z) ex k⟩
theorem TabXT.same {K : PySem.W.Frag} {H H' : Hp} {a : Addr} {n : Nat} {f : Nat → Nat → Nat} (h : TabXT K H a n f) (s : Same H H') : TabXT K H' a n f := by
  obtain ⟨rs, l, e, q⟩ := h
  exact ⟨rs, l, OQ.sqT_same e s, fun i r z => OQ.sqT_same (q i r z) s⟩
theorem TabXL.same {H H' : Hp} {a : Addr} {n : Nat} {f : Nat → Nat → Nat} (h : TabXL H a n f) (s : Same H H') : TabXL H' a n f := by
  obtain ⟨rs, l, e, q⟩ := h
  exact ⟨rs, l, s _ _ e, fun i r z => s _ _ (q i r z)⟩
theorem TabXL.kx {H H' : Hp} {x C dx a : Addr} {fs : List (Str × V)} {n : Nat} {f : Nat → Nat → Nat} (h : TabXL H a n f) (ex : H x = some (.ins C dx fs)) (k : Kx x H H') : TabXL H' a n f := by
  obtain ⟨rs, l, e, q⟩ := h
  exact ⟨rs, l, k _ _ (fun z => by subst z; rw [ex] at e; cases e) e, fun i r z => k _ _ (fun y => by subst y; have := q i _ z; rw [ex] at this; cases this) (q i r z)⟩
/-- the first i rows of a table stand in the list at D -/
def RowsN (H : Hp) (D : Addr) (n i : Nat) (f : Nat → Nat → Nat) : Prop := ∃ us : List Addr, us.length = i ∧ H D = some (.lst (us.map V.ref)) ∧ ∀ (j : Nat) (u : Addr), us[j]? = some u → u ≠ D ∧ H u = some (.lst ((List.range n).map fun c => V.int (f j c : Nat)))
theorem rowsN_zero {H : Hp} {D : Addr} {n : Nat} {f : Nat → Nat → Nat} : RowsN (upd H D (.lst [])) D n 0 f := ⟨[], rfl, upd_same, (fun _ _ e => nomatch e)⟩
theorem rowsN_step {H H' H'' : Hp} {D D2 : Addr} {n i : Nat} {f : Nat → Nat → Nat} (hD : H D = none) (s1 : Same H H') (r : RowsN H' D n i f) (hD2 : H' D2 = none) (s2 : Same H' H'') (hi : i ≤ 100) (e2 : H'' D2 = some (.lst ((List.range n).map fun c => V.int (f i c : Nat)))) :
    ∃ acc, H'' D = some (.lst acc) ∧ acc.length < sizeLine ∧ Same H (upd H'' D (.lst (acc ++ [V.ref D2]))) ∧ RowsN (upd H'' D (.lst (acc ++ [V.ref D2]))) D n (i + 1) f := by
  obtain ⟨us, lu, eD, all⟩ := r
  have nD : D2 ≠ D := fun z => by rw [z, eD] at hD2; cases hD2
  refine ⟨_, s2 _ _ eD, by rw [List.length_map, lu]; exact Nat.lt_of_le_of_lt hi (by decide), fun b u e => ?_, us ++ [D2], by rw [List.length_append, lu]; rfl, by rw [upd_same, List.map_append]; rfl, fun j u e => ?_⟩
  · rw [upd_ne (ne_of_none e hD)]; exact s2 _ _ (s1 _ _ e)
  · by_cases lj : j < us.length
    · rw [List.getElem?_append_left lj] at e
      obtain ⟨n1, r1⟩ := all j u e
      exact ⟨n1, by rw [upd_ne n1]; exact s2 _ _ r1⟩
    · have q : j = i := by
        have := (List.getElem?_eq_some_iff.mp e).1
        rw [List.length_append, lu] at this
        simp at this
        omega
      subst q
      rw [List.getElem?_append_right (by omega), lu, Nat.sub_self] at e
      cases e
      exact ⟨nD, by rw [upd_ne nD]; exact e2⟩
theorem rowsN_end {H : Hp} {D : Addr} {n : Nat} {f : Nat → Nat → Nat} (r : RowsN H D n n f) : TabXL H D n f := by
  obtain ⟨us, lu, eD, all⟩ := r
  exact ⟨us, lu, eD, fun j u e => (all j u e).2⟩
/-- one more item of a row -/
theorem rowPutN {H H' : Hp} {D : Addr} {j : Nat} {g : Nat → Nat} {v : V} (hD : H D = none) (s : Same H H') (hj : j ≤ 100) (eD : H' D = some (.lst ((List.range j).map fun c => V.int (g c : Nat)))) (ev : v = .int (g j : Nat)) :
    ∃ acc, H' D = some (.lst acc) ∧ acc.length < sizeLine ∧ Same H (upd H' D (.lst (acc ++ [v]))) ∧ upd H' D (.lst (acc ++ [v])) D = some (.lst ((List.range (j + 1)).map fun c => V.int (g c : Nat))) := by
  refine ⟨_, eD, by rw [List.length_map, List.length_range]; exact Nat.lt_of_le_of_lt hj (by decide), same_put s hD, ?_⟩
  rw [upd_same, List.range_succ, List.map_append, ev]; rfl
/-- a reckoning at x, whole -/
def RekF (K : PySem.W.Frag) (C : Addr) (H : Hp) (x : Addr) (n : Nat) (J M : Nat → Nat → Nat) (z o : Nat) : Prop := ∃ (dx jt pt mt lt rt : Addr), H x = some (.ins C dx [("joins", .ref jt), ("products", .ref pt), ("none", .int z), ("one", .int o), ("_meets", .ref mt), ("_lefts", .ref lt), ("_rights", .ref rt)]) ∧
  TabXT K H jt n J ∧ TabXT K H pt n M ∧ TabXL H mt n (meetF n J z) ∧ TabXL H lt n (leftF n J M z) ∧ TabXL H rt n (rightF n J M z) ∧ RK.restF n J M z o = none ∧ 2 ≤ n ∧ n ≤ 16 ∧ z < n ∧ o < n ∧ (∀ a b, a < n → b < n → J a b < n) ∧ (∀ a b, a < n → b < n → M a b < n)
theorem RekF.same {K : PySem.W.Frag} {C : Addr} {H H' : Hp} {x : Addr} {n : Nat} {J M : Nat → Nat → Nat} {z o : Nat} (h : RekF K C H x n J M z o) (s : Same H H') : RekF K C H' x n J M z o := by
  obtain ⟨dx, jt, pt, mt, lt, rt, e, t1, t2, t3, t4, t5, r⟩ := h
  exact ⟨dx, jt, pt, mt, lt, rt, s _ _ e, t1.same s, t2.same s, t3.same s, t4.same s, t5.same s, r⟩
theorem no12 {fs : List (Str × V)} (h : ∀ p ∈ fs, p.1 ∈ ([("joins" : Str), ("products" : Str), ("none" : Str), ("one" : Str), ("_meets" : Str), ("_lefts" : Str), ("_rights" : Str)] : List Str)) :
    ∀ m ∈ ([("_joined" : Str), ("_meet" : Str), ("_left" : Str), ("_right" : Str), ("is_worth" : Str), ("beneath" : Str), ("join" : Str), ("times" : Str), ("meet" : Str), ("greatest" : Str), ("left" : Str), ("right" : Str)] : List Str), fs.lookup m = none := by
  intro m hm
  have key : ∀ m ∈ ([("_joined" : Str), ("_meet" : Str), ("_left" : Str), ("_right" : Str), ("is_worth" : Str), ("beneath" : Str), ("join" : Str), ("times" : Str), ("meet" : Str), ("greatest" : Str), ("left" : Str), ("right" : Str)] : List Str), ∀ q ∈ ([("joins" : Str), ("products" : Str), ("none" : Str), ("one" : Str), ("_meets" : Str), ("_lefts" : Str), ("_rights" : Str)] : List Str), (m == q) = false := by decide +kernel
  induction fs with
  | nil => rfl
  | cons p fs ih =>
    obtain ⟨q, v⟩ := p
    rw [lk_ne (key m hm q (h _ (List.mem_cons_self ..)))]
    exact ih fun p hp => h p (List.mem_cons_of_mem _ hp)
theorem RekF.rek {K : PySem.W.Frag} {C : Addr} {H : Hp} {x : Addr} {n : Nat} {J M : Nat → Nat → Nat} {z o : Nat} (h : RekF K C H x n J M z o) : Rek K C H x n J M z := by
  obtain ⟨dx, jt, pt, mt, lt, rt, e, t1, t2, t3, t4, t5, rf, n2, n16, zn, on, wj, wp⟩ := h
  exact ⟨zn, n16, wj, wp, dx, jt, pt, _, e, lk_eq, t1.x, (lk_ne (by decide +kernel)).trans lk_eq, t2.x, (lk_ne (by decide +kernel)).trans ((lk_ne (by decide +kernel)).trans lk_eq), no12 (by simp)⟩
def spReck (K : PySem.W.Frag) (C CB : Addr) : Sp := fun vs H Q E => ∃ (x dx : Addr) (vj vp vz vn : V) (dj dp dz dn : PyData), vs = [.ref x, vj, vp, vz, vn] ∧ H x = some (.ins C dx []) ∧ OQ.Dqd K H vj dj ∧ OQ.Dqd K H vp dp ∧ OQ.Dqd K H vz dz ∧ OQ.Dqd K H vn dn ∧
  (firstF dj dp dz dn = none → ∀ H', Kx x H H' → RekF K C H' x (RK.cellsOf dj).length (RK.tabf dj) (RK.tabf dp) (RK.natOf dz) (RK.natOf dn) → Q .non H') ∧
  (∀ f, firstF dj dp dz dn = some f → ∀ v d H', Same H H' → FltAt H' v (some f) → H' d = none → E (.ref CB) (some d) (upd H' d (ErrD v)))
section
variable {P : Program} {w : World} {K : PySem.W.Frag} {mg : Str → Option Value} {base : Heap} {H : Hp} {R : V → Prop}
theorem ok_Reckoning__init (T : Top K mg) : FnOk P w K mg base (L2.CX P w) 12 T.f_Reckoning__init T.fd_Reckoning__init ["self", "joins", "products", "none", "one"] (spReck K T.C_Reckoning T.C_BadReckoning) := by
  refine T.F_Reckoning__init.okX sc_Reckoning__init (fun vs H Q E h => ?_) (fun cdv A outer s H vs Q E hr h => ?_)
  · obtain ⟨x, dx, vj, vp, vz, vn, dj, dp, dz, dn, rfl, _⟩ := h; rfl
  · obtain ⟨x, dx, vj, vp, vz, vn, dj, dp, dz, dn, rfl, ex, hj, hp, hz, hn, k, kE⟩ := h
    refine ⟨_, (C8.pss_cut (ps_set (i := 5) sc_Reckoning__init.nd rfl (Or.inl rfl) (pe_call (ok_first_fault T) (hr.mono (by decide)) (by rfl) T.g_first_fault T.F_first_fault.kp T.b_first_fault .nil pass0 (pa_cons (pv 1) (pa_cons (pv 2) (pa_cons (pv 3) (pa_cons (pv 4) pa_nil))))))
 (C8.pss_cut (ps_if (pt_cmpR RD.o_notN (pv 5) pe_non (nomark _))
 (pss_one (ps_raise rfl (takes_of rfl rfl rfl rfl) (pmk_oex T.oex_BadReckoning T.i_BadReckoning T.tI (ok_WayError__init T) (hr.mono (by decide)) T.b_WayError__init .nil pass0 (by rfl) T.g_BadReckoning (pa_cons (pv 5) pa_nil))))
 pss_nil)
 (C8.pss_cut (ps_fld (pv 0) (pe_callTy (OQ.tupK K) (by rfl) T.n_tuple (by decide +kernel) (pa_cons (pe_lc (own := [("row", 6)]) (g := (gName 6)) (tt := tYes) rfl sc_Reckoning__init.nd (OQ.pi_seq (pv 1)) (blkOk_by (own := [("row", 6)]) (N := ["self", "joins", "products", "none", "one", "fault", "row", "worths", "a", "b", "c"]) (sc := defScope s_Reckoning__init) (by decide +kernel)) (fun _ _ _ _ _ => (pg_name (i := 6) sc_Reckoning__init.nd rfl (Or.inl rfl))) (fun _ _ _ _ _ => pts_nil) (fun _ _ _ _ _ => (pe_callTy (OQ.tupK K) (by rfl) T.n_tuple (by decide +kernel) (pa_cons (pv 6) pa_nil)))) pa_nil)) rfl)
 (C8.pss_cut (ps_fld (pv 0) (pe_callTy (OQ.tupK K) (by rfl) T.n_tuple (by decide +kernel) (pa_cons (pe_lc (own := [("row", 6)]) (g := (gName 6)) (tt := tYes) rfl sc_Reckoning__init.nd (OQ.pi_seq (pv 2)) (blkOk_by (own := [("row", 6)]) (N := ["self", "joins", "products", "none", "one", "fault", "row", "worths", "a", "b", "c"]) (sc := defScope s_Reckoning__init) (by decide +kernel)) (fun _ _ _ _ _ => (pg_name (i := 6) sc_Reckoning__init.nd rfl (Or.inl rfl))) (fun _ _ _ _ _ => pts_nil) (fun _ _ _ _ _ => (pe_callTy (OQ.tupK K) (by rfl) T.n_tuple (by decide +kernel) (pa_cons (pv 6) pa_nil)))) pa_nil)) rfl)
 (C8.pss_cut (ps_fld (pv 0) (pv 3) rfl)
 (C8.pss_cut (ps_fld (pv 0) (pv 4) rfl)
 (C8.pss_cut (ps_set (i := 7) sc_Reckoning__init.nd rfl (Or.inr rfl) (pe_callTy OQ.cr_range1 (by rfl) T.n_range (by decide +kernel) (pa_cons (pe_callB RD.c_len (by rfl) T.n_len (by decide +kernel) (pa_cons (pv 1) pa_nil)) pa_nil)))
 (C8.pss_cut (ps_fld (pv 0) (pe_lc (own := [("a", 8)]) (g := (gName 8)) (tt := tYes) rfl sc_Reckoning__init.nd (OQ.pi_rngV (pv 7)) (blkOk_by (own := [("a", 8)]) (N := ["self", "joins", "products", "none", "one", "fault", "row", "worths", "a", "b", "c"]) (sc := defScope s_Reckoning__init) (by decide +kernel)) (fun _ _ _ _ _ => (pg_name (i := 8) sc_Reckoning__init.nd rfl (by first | exact Or.inl rfl | exact Or.inr rfl))) (fun _ _ _ _ _ => pts_nil) (fun _ _ _ _ _ => (pe_lc (own := [("b", 9)]) (g := (gName 9)) (tt := tYes) rfl sc_Reckoning__init.nd (OQ.pi_rngV (pv 7)) (blkOk_by (own := [("b", 9)]) (N := ["self", "joins", "products", "none", "one", "fault", "row", "worths", "a", "b", "c"]) (sc := _) (by kernel_rfl)) (fun _ _ _ _ _ => (pg_name (i := 9) sc_Reckoning__init.nd rfl (by first | exact Or.inl rfl | exact Or.inr rfl))) (fun _ _ _ _ _ => pts_nil) (fun _ _ _ _ _ => (pe_meth (pv 0) T.cl_Reckoning T.m_Reckoning_Umeet (ok_Reckoning_Umeet T) (hr.mono (by decide)) T.b_Reckoning_Umeet .nil pass0 (pa_cons (pv 8) (pa_cons (pv 9) pa_nil))))))) rfl)
 (C8.pss_cut (ps_fld (pv 0) (pe_lc (own := [("a", 8)]) (g := (gName 8)) (tt := tYes) rfl sc_Reckoning__init.nd (OQ.pi_rngV (pv 7)) (blkOk_by (own := [("a", 8)]) (N := ["self", "joins", "products", "none", "one", "fault", "row", "worths", "a", "b", "c"]) (sc := defScope s_Reckoning__init) (by decide +kernel)) (fun _ _ _ _ _ => (pg_name (i := 8) sc_Reckoning__init.nd rfl (by first | exact Or.inl rfl | exact Or.inr rfl))) (fun _ _ _ _ _ => pts_nil) (fun _ _ _ _ _ => (pe_lc (own := [("c", 10)]) (g := (gName 10)) (tt := tYes) rfl sc_Reckoning__init.nd (OQ.pi_rngV (pv 7)) (blkOk_by (own := [("c", 10)]) (N := ["self", "joins", "products", "none", "one", "fault", "row", "worths", "a", "b", "c"]) (sc := _) (by kernel_rfl)) (fun _ _ _ _ _ => (pg_name (i := 10) sc_Reckoning__init.nd rfl (by first | exact Or.inl rfl | exact Or.inr rfl))) (fun _ _ _ _ _ => pts_nil) (fun _ _ _ _ _ => (pe_meth (pv 0) T.cl_Reckoning T.m_Reckoning_Uleft (ok_Reckoning_Uleft T) (hr.mono (by decide)) T.b_Reckoning_Uleft .nil pass0 (pa_cons (pv 8) (pa_cons (pv 10) pa_nil))))))) rfl)
 (pss_one (ps_fld (pv 0) (pe_lc (own := [("c", 10)]) (g := (gName 10)) (tt := tYes) rfl sc_Reckoning__init.nd (OQ.pi_rngV (pv 7)) (blkOk_by (own := [("c", 10)]) (N := ["self", "joins", "products", "none", "one", "fault", "row", "worths", "a", "b", "c"]) (sc := defScope s_Reckoning__init) (by decide +kernel)) (fun _ _ _ _ _ => (pg_name (i := 10) sc_Reckoning__init.nd rfl (by first | exact Or.inl rfl | exact Or.inr rfl))) (fun _ _ _ _ _ => pts_nil) (fun _ _ _ _ _ => (pe_lc (own := [("a", 8)]) (g := (gName 8)) (tt := tYes) rfl sc_Reckoning__init.nd (OQ.pi_rngV (pv 7)) (blkOk_by (own := [("a", 8)]) (N := ["self", "joins", "products", "none", "one", "fault", "row", "worths", "a", "b", "c"]) (sc := _) (by kernel_rfl)) (fun _ _ _ _ _ => (pg_name (i := 8) sc_Reckoning__init.nd rfl (by first | exact Or.inl rfl | exact Or.inr rfl))) (fun _ _ _ _ _ => pts_nil) (fun _ _ _ _ _ => (pe_meth (pv 0) T.cl_Reckoning T.m_Reckoning_Uright (ok_Reckoning_Uright T) (hr.mono (by decide)) T.b_Reckoning_Uright .nil pass0 (pa_cons (pv 10) (pa_cons (pv 8) pa_nil))))))) rfl))))))))))), ?_⟩
    refine RD.d_cut (fun σ' H' => ∃ v, σ' = [some (.ref x), some vj, some vp, some vz, some vn, some v, none, none, none, none, none] ∧ Same H H' ∧ FltAt H' v (firstF dj dp dz dn)) ?_ ?_
    · walk_at "tx"
      refine ⟨_, ⟨vj, vp, vz, vn, dj, dp, dz, dn, rfl, hj, hp, hz, hn, rfl⟩, fun v H1 s1 f1 => ?_⟩
      walk_at "tx"
      exact ⟨v, rfl, s1, f1⟩
    rintro σ' H1 ⟨v, rfl, s1, f1⟩
    cases eF : firstF dj dp dz dn with
    | some f =>
      rw [eF] at f1
      refine RD.d_cut (fun _ _ => False) ?_ (fun _ _ z => z.elim)
      walk_at "tx"
      obtain ⟨w, a, b, c⟩ := f
      obtain ⟨p, rfl, hp'⟩ := id f1
      rw [decide_eq_false (by simp)]
      walk_at "tx"
      exact d_mkO T.oex_BadReckoning T.v_BadReckoning fun d hd => kE _ eF _ d H1 s1 f1 hd
    | none =>
      rw [eF] at f1
      cases f1
      refine RD.d_cut (fun σ' H' => σ' = [some (.ref x), some vj, some vp, some vz, some vn, some .non, none, none, none, none, none] ∧ H' = H1) ?_ ?_
      · walk_at "tx"
        rw [decide_eq_true rfl]
        walk_at "tx"
        exact ⟨rfl, rfl⟩
      rintro σ' H2 ⟨rfl, rfl⟩
      replace k := k eF
      have eS : RK.sizeB dj dp dz dn = true := by
        cases e : RK.sizeB dj dp dz dn with
        | true => rfl
        | false =>
          have : firstF dj dp dz dn = some (("size" : Str), -1, -1, -1) := by
            unfold firstF sizF
            rw [if_neg (by rw [e]; decide)]; rfl
          rw [eF] at this; cases this
      have eR : RK.restF (RK.cellsOf dj).length (RK.tabf dj) (RK.tabf dp) (RK.natOf dz) (RK.natOf dn) = none := by
        unfold firstF sizF at eF
        rw [if_pos eS] at eF
        exact eF
      obtain ⟨n2, n16, qj, qp, qz, qn⟩ := size_ok eS
      replace hj := OQ.Dqd.same s1 hj
      replace hp := OQ.Dqd.same s1 hp
      generalize (RK.cellsOf dj).length = n at *
      obtain ⟨a, rfl, tj, wj⟩ := OQ.dqd_tab hj qj
      obtain ⟨b, rfl, tp, wp⟩ := OQ.dqd_tab hp qp
      obtain ⟨rfl, zn⟩ := below_nat hz qz
      obtain ⟨rfl, on⟩ := below_nat hn qn
      clear hj hp hz hn qj qp qz qn eS kE eF
      generalize RK.tabf dj = J at *
      generalize RK.tabf dp = M at *
      generalize RK.natOf dz = z at *
      generalize RK.natOf dn = o at *
      replace ex := s1 _ _ ex
      have kx1 : Kx x H H2 := Same.kx s1
      clear s1
      refine RD.d_cut (fun σ' H' => ∃ q, σ' = [some (.ref x), some (.ref a), some (.ref b), some (.int z), some (.int o), some .non, none, none, none, none, none] ∧ H' x = some (.ins T.C_Reckoning dx [("joins", .ref q)]) ∧ Kx x H2 H' ∧ TabXT K H' q n J) ?_ ?_
      · obtain ⟨rs, len, sa, rows⟩ := id tj
        walk_at "tx"
        refine OQ.d_seqVar rfl sa (fun W G hw hG => fun D hD => ?_)
        rw [List.length_map, len] at hw
        refine lc_it hw (fun i H' => Same H2 H' ∧ ∃ us : List Addr, us.length = i ∧ H' D = some (.lst (us.map V.ref)) ∧ ∀ (j : Nat) (u : Addr), us[j]? = some u → SqT K H' u ((List.range n).map fun c => V.int (J j c : Nat))) ⟨same_upd hD, [], rfl, upd_same, (fun j u e => nomatch e)⟩ (fun i H' _ q => hG _ q.1) ?_ ?_
        · rintro i y H' H'' il ⟨s1, us, lu, eD, all⟩ ⟨rfl, e2⟩
          have ir : i < rs.length := by rw [len]; exact il
          rw [List.getElem?_map, List.getElem?_eq_getElem ir] at e2
          cases e2
          walk_at "tx"
          refine OQ.d_tupSeq (OQ.SeqAt.same (rows i _ (List.getElem?_eq_getElem ir)) s1) (fun H3 t s3 sq => ?_)
          have eD3 := s3 _ _ eD
          refine ⟨_, eD3, by rw [List.length_map, lu]; exact Nat.lt_of_lt_of_le il (Nat.le_trans n16 (by decide)), same_put (s1.trans s3) hD, us ++ [t], by rw [List.length_append, lu]; rfl, by rw [upd_same, List.map_append]; rfl, fun j u e => ?_⟩
          by_cases lj : j < us.length
          · rw [List.getElem?_append_left lj] at e
            exact sqT_lst (OQ.sqT_same (all j u e) s3) eD3
          · have q : j = i := by
              have := (List.getElem?_eq_some_iff.mp e).1
              rw [List.length_append, lu] at this
              simp at this
              omega
            subst q
            rw [List.getElem?_append_right (by omega), lu, Nat.sub_self] at e
            cases e
            exact sqT_lst sq eD3
        · rintro H' ⟨s1, us, lu, eD, all⟩
          walk_at "tx"
          refine OQ.d_tupSeq (.inl (SqL.of eD)) (fun H3 q s3 sq => ?_)
          have s13 := s1.trans s3
          have ex3 := s13 _ _ ex
          walk_at "tx"
          refine ⟨x, T.C_Reckoning, dx, _, rfl, ex3, T.cl_Reckoning, T.na_Reckoning_joins, by show 0 < 1000; decide, ?_⟩
          refine ⟨q, rfl, ?_, Kx.trans (Same.kx s13) kx_upd, TabXT.kx ⟨us, lu, sq, fun j u e => OQ.sqT_same (all j u e) s3⟩ ex3 kx_upd⟩
          rw [upd_same]; rfl
      rintro σ' H3 ⟨jt, rfl, ex3, kx3, tjt⟩
      replace tj := TabX.kx tj ex kx3
      replace tp := TabX.kx tp ex kx3
      replace kx1 := kx1.trans kx3
      replace ex := ex3
      clear ex3 kx3
      refine RD.d_cut (fun σ' H' => ∃ q, σ' = [some (.ref x), some (.ref a), some (.ref b), some (.int z), some (.int o), some .non, none, none, none, none, none] ∧ H' x = some (.ins T.C_Reckoning dx [("joins", .ref jt), ("products", .ref q)]) ∧ Kx x H3 H' ∧ TabXT K H' q n M) ?_ ?_
      · obtain ⟨rs, len, sa, rows⟩ := id tp
        walk_at "tx"
        refine OQ.d_seqVar rfl sa (fun W G hw hG => fun D hD => ?_)
        rw [List.length_map, len] at hw
        refine lc_it hw (fun i H' => Same H3 H' ∧ ∃ us : List Addr, us.length = i ∧ H' D = some (.lst (us.map V.ref)) ∧ ∀ (j : Nat) (u : Addr), us[j]? = some u → SqT K H' u ((List.range n).map fun c => V.int (M j c : Nat))) ⟨same_upd hD, [], rfl, upd_same, (fun j u e => nomatch e)⟩ (fun i H' _ q => hG _ q.1) ?_ ?_
        · rintro i y H' H'' il ⟨s1, us, lu, eD, all⟩ ⟨rfl, e2⟩
          have ir : i < rs.length := by rw [len]; exact il
          rw [List.getElem?_map, List.getElem?_eq_getElem ir] at e2
          cases e2
          walk_at "tx"
          refine OQ.d_tupSeq (OQ.SeqAt.same (rows i _ (List.getElem?_eq_getElem ir)) s1) (fun H3 t s3 sq => ?_)
          have eD3 := s3 _ _ eD
          refine ⟨_, eD3, by rw [List.length_map, lu]; exact Nat.lt_of_lt_of_le il (Nat.le_trans n16 (by decide)), same_put (s1.trans s3) hD, us ++ [t], by rw [List.length_append, lu]; rfl, by rw [upd_same, List.map_append]; rfl, fun j u e => ?_⟩
          by_cases lj : j < us.length
          · rw [List.getElem?_append_left lj] at e
            exact sqT_lst (OQ.sqT_same (all j u e) s3) eD3
          · have q : j = i := by
              have := (List.getElem?_eq_some_iff.mp e).1
              rw [List.length_append, lu] at this
              simp at this
              omega
            subst q
            rw [List.getElem?_append_right (by omega), lu, Nat.sub_self] at e
            cases e
            exact sqT_lst sq eD3
        · rintro H' ⟨s1, us, lu, eD, all⟩
          walk_at "tx"
          refine OQ.d_tupSeq (.inl (SqL.of eD)) (fun H3 q s3 sq => ?_)
          have s13 := s1.trans s3
          have ex3 := s13 _ _ ex
          walk_at "tx"
          refine ⟨x, T.C_Reckoning, dx, _, rfl, ex3, T.cl_Reckoning, T.na_Reckoning_products, by show 1 < 1000; decide, ?_⟩
          refine ⟨q, rfl, ?_, Kx.trans (Same.kx s13) kx_upd, TabXT.kx ⟨us, lu, sq, fun j u e => OQ.sqT_same (all j u e) s3⟩ ex3 kx_upd⟩
          rw [upd_same, putF_ne (by decide +kernel)]; rfl
      rintro σ' H4 ⟨pt, rfl, ex4, kx4, tpt⟩
      replace tjt := tjt.kx ex kx4
      replace tj := TabX.kx tj ex kx4
      replace kx1 := kx1.trans kx4
      replace ex := ex4
      clear ex4 kx4 tp
      refine RD.d_cut (fun σ' H' => σ' = [some (.ref x), some (.ref a), some (.ref b), some (.int z), some (.int o), some .non, none, none, none, none, none] ∧ H' x = some (.ins T.C_Reckoning dx [("joins", .ref jt), ("products", .ref pt), ("none", .int z)]) ∧ Kx x H4 H') ?_ ?_
      · walk_at "tx"
        refine ⟨x, T.C_Reckoning, dx, _, rfl, ex, T.cl_Reckoning, T.na_Reckoning_none, by show 2 < 1000; decide, rfl, ?_, kx_upd⟩
        rw [upd_same, putF_ne (by decide +kernel), putF_ne (by decide +kernel)]; rfl
      rintro σ' H5 ⟨rfl, ex5, kx5⟩
      replace tjt := tjt.kx ex kx5
      replace tpt := tpt.kx ex kx5
      replace tj := TabX.kx tj ex kx5
      replace kx1 := kx1.trans kx5
      replace ex := ex5
      clear ex5 kx5
      refine RD.d_cut (fun σ' H' => σ' = [some (.ref x), some (.ref a), some (.ref b), some (.int z), some (.int o), some .non, none, none, none, none, none] ∧ H' x = some (.ins T.C_Reckoning dx [("joins", .ref jt), ("products", .ref pt), ("none", .int z), ("one", .int o)]) ∧ Kx x H5 H') ?_ ?_
      · walk_at "tx"
        refine ⟨x, T.C_Reckoning, dx, _, rfl, ex, T.cl_Reckoning, T.na_Reckoning_one, by show 3 < 1000; decide, rfl, ?_, kx_upd⟩
        rw [upd_same, putF_ne (by decide +kernel), putF_ne (by decide +kernel), putF_ne (by decide +kernel)]; rfl
      rintro σ' H6 ⟨rfl, ex6, kx6⟩
      replace tjt := tjt.kx ex kx6
      replace tpt := tpt.kx ex kx6
      replace tj := TabX.kx tj ex kx6
      replace kx1 := kx1.trans kx6
      replace ex := ex6
      clear ex6 kx6
      refine RD.d_cut (fun σ' H' => ∃ rg, σ' = [some (.ref x), some (.ref a), some (.ref b), some (.int z), some (.int o), some .non, none, some (.ref rg), none, none, none] ∧ Same H6 H' ∧ H' rg = some (.rng 0 n)) ?_ ?_
      · walk_at "tx"
        refine tj.len ?_
        refine ⟨n, rfl, fun rg hg => ?_⟩
        walk_at "tx"
        exact ⟨rg, rfl, same_upd hg, upd_same⟩
      rintro σ' H7 ⟨rg, rfl, s7, eg⟩
      replace tjt := tjt.same s7
      replace tpt := tpt.same s7
      replace kx1 := kx1.trans (Same.kx s7)
      replace ex := s7 _ _ ex
      clear tj s7
      have re : Rek K T.C_Reckoning H7 x n J M z := ⟨zn, n16, wj, wp, dx, jt, pt, _, ex, lk_eq, tjt.x, (lk_ne (by decide +kernel)).trans lk_eq, tpt.x, (lk_ne (by decide +kernel)).trans ((lk_ne (by decide +kernel)).trans lk_eq), no12 (by simp)⟩
      refine RD.d_cut (fun σ' H' => ∃ q v8 v9 v10, σ' = [some (.ref x), some (.ref a), some (.ref b), some (.int z), some (.int o), some .non, none, some (.ref rg), v8, v9, v10] ∧ H' x = some (.ins T.C_Reckoning dx [("joins", .ref jt), ("products", .ref pt), ("none", .int z), ("one", .int o), ("_meets", .ref q)]) ∧ Kx x H7 H' ∧ TabXL H' q n (meetF n J z)) ?_ ?_
      · walk_at "tx"
        refine ⟨rg, 0, n, rfl, eg, by omega, ?_⟩
        intro D hD
        refine lc_range (lo := 0) (n := ((n : Int) - 0).toNat) (fun i H' => Same H7 H' ∧ RowsN H' D n i (meetF n J z)) ⟨same_upd hD, rowsN_zero⟩ ?_ ?_
        · rintro i H' hi' ⟨s1, r1⟩
          have hi : i < n := by omega
          walk_at "tx"
          refine ⟨rg, 0, n, rfl, s1 _ _ eg, by omega, ?_⟩
          intro D2 hD2
          refine lc_range (lo := 0) (n := ((n : Int) - 0).toNat) (fun j H'' => Same H' H'' ∧ H'' D2 = some (.lst ((List.range j).map fun c => V.int (meetF n J z i c : Nat)))) ⟨same_upd hD2, upd_same⟩ ?_ ?_
          · rintro j H'' hj' ⟨s2, eD2⟩
            have hj : j < n := by omega
            have re2 := (re.same s1).same s2
            walk_at "tx"
            refine rekM re2 (by simp) ?_
            walk_at "tx"
            refine ⟨x, n, J, M, z, i, j, by rw [Int.zero_add, Int.zero_add]; rfl, re2, hi, hj, fun H3 s3 => ?_⟩
            exact rowPutN (g := fun c => meetF n J z i c) hD2 (s2.trans s3) (by omega) (s3 _ _ eD2) rfl
          · rintro H'' ⟨s2, eD2⟩
            rw [show ((n : Int) - 0).toNat = n from by omega] at eD2
            exact rowsN_step hD s1 r1 hD2 s2 (by omega) eD2
        · rintro H' ⟨s1, r1⟩
          rw [show ((n : Int) - 0).toNat = n from by omega] at r1
          have tt := rowsN_end r1
          walk_at "tx"
          have ex1 := s1 _ _ ex
          refine ⟨x, T.C_Reckoning, dx, _, rfl, ex1, T.cl_Reckoning, T.na_Reckoning__meets, by show 4 < 1000; decide, ?_⟩
          refine ⟨D, _, _, _, rfl, ?_, Kx.trans (Same.kx s1) kx_upd, tt.kx ex1 kx_upd⟩
          rw [upd_same, putF_ne (by decide +kernel), putF_ne (by decide +kernel), putF_ne (by decide +kernel), putF_ne (by decide +kernel)]; rfl
      rintro σ' H8 ⟨mt, v8, v9, v10, rfl, exn, kxn, tmt⟩
      clear re
      have egn : H8 rg = some (.rng 0 n) := kxn _ _ (fun zz => by rw [zz, ex] at eg; cases eg) eg
      replace tjt := tjt.kx ex kxn
      replace tpt := tpt.kx ex kxn
      replace kx1 := kx1.trans kxn
      replace ex := exn
      replace eg := egn
      clear exn kxn egn
      have re : Rek K T.C_Reckoning H8 x n J M z := ⟨zn, n16, wj, wp, dx, jt, pt, _, ex, lk_eq, tjt.x, (lk_ne (by decide +kernel)).trans lk_eq, tpt.x, (lk_ne (by decide +kernel)).trans ((lk_ne (by decide +kernel)).trans lk_eq), no12 (by simp)⟩
      refine RD.d_cut (fun σ' H' => ∃ q v8 v9 v10, σ' = [some (.ref x), some (.ref a), some (.ref b), some (.int z), some (.int o), some .non, none, some (.ref rg), v8, v9, v10] ∧ H' x = some (.ins T.C_Reckoning dx [("joins", .ref jt), ("products", .ref pt), ("none", .int z), ("one", .int o), ("_meets", .ref mt), ("_lefts", .ref q)]) ∧ Kx x H8 H' ∧ TabXL H' q n (leftF n J M z)) ?_ ?_
      · walk_at "tx"
        refine ⟨rg, 0, n, rfl, eg, by omega, ?_⟩
        intro D hD
        refine lc_range (lo := 0) (n := ((n : Int) - 0).toNat) (fun i H' => Same H8 H' ∧ RowsN H' D n i (leftF n J M z)) ⟨same_upd hD, rowsN_zero⟩ ?_ ?_
        · rintro i H' hi' ⟨s1, r1⟩
          have hi : i < n := by omega
          walk_at "tx"
          refine ⟨rg, 0, n, rfl, s1 _ _ eg, by omega, ?_⟩
          intro D2 hD2
          refine lc_range (lo := 0) (n := ((n : Int) - 0).toNat) (fun j H'' => Same H' H'' ∧ H'' D2 = some (.lst ((List.range j).map fun c => V.int (leftF n J M z i c : Nat)))) ⟨same_upd hD2, upd_same⟩ ?_ ?_
          · rintro j H'' hj' ⟨s2, eD2⟩
            have hj : j < n := by omega
            have re2 := (re.same s1).same s2
            walk_at "tx"
            refine rekM re2 (by simp) ?_
            walk_at "tx"
            refine ⟨x, n, J, M, z, i, j, by rw [Int.zero_add, Int.zero_add]; rfl, re2, hi, hj, fun H3 s3 => ?_⟩
            exact rowPutN (g := fun c => leftF n J M z i c) hD2 (s2.trans s3) (by omega) (s3 _ _ eD2) rfl
          · rintro H'' ⟨s2, eD2⟩
            rw [show ((n : Int) - 0).toNat = n from by omega] at eD2
            exact rowsN_step hD s1 r1 hD2 s2 (by omega) eD2
        · rintro H' ⟨s1, r1⟩
          rw [show ((n : Int) - 0).toNat = n from by omega] at r1
          have tt := rowsN_end r1
          walk_at "tx"
          have ex1 := s1 _ _ ex
          refine ⟨x, T.C_Reckoning, dx, _, rfl, ex1, T.cl_Reckoning, T.na_Reckoning__lefts, by show 5 < 1000; decide, ?_⟩
          refine ⟨D, _, _, _, rfl, ?_, Kx.trans (Same.kx s1) kx_upd, tt.kx ex1 kx_upd⟩
          rw [upd_same, putF_ne (by decide +kernel), putF_ne (by decide +kernel), putF_ne (by decide +kernel), putF_ne (by decide +kernel), putF_ne (by decide +kernel)]; rfl
      rintro σ' H9 ⟨lt, v8, v9, v10, rfl, exn, kxn, tlt⟩
      clear re
      have egn : H9 rg = some (.rng 0 n) := kxn _ _ (fun zz => by rw [zz, ex] at eg; cases eg) eg
      replace tjt := tjt.kx ex kxn
      replace tpt := tpt.kx ex kxn
      replace tmt := tmt.kx ex kxn
      replace kx1 := kx1.trans kxn
      replace ex := exn
      replace eg := egn
      clear exn kxn egn
      have re : Rek K T.C_Reckoning H9 x n J M z := ⟨zn, n16, wj, wp, dx, jt, pt, _, ex, lk_eq, tjt.x, (lk_ne (by decide +kernel)).trans lk_eq, tpt.x, (lk_ne (by decide +kernel)).trans ((lk_ne (by decide +kernel)).trans lk_eq), no12 (by simp)⟩
      walk_at "tx"
      refine ⟨rg, 0, n, rfl, eg, by omega, ?_⟩
      intro D hD
      refine lc_range (lo := 0) (n := ((n : Int) - 0).toNat) (fun i H' => Same H9 H' ∧ RowsN H' D n i (rightF n J M z)) ⟨same_upd hD, rowsN_zero⟩ ?_ ?_
      · rintro i H' hi' ⟨s1, r1⟩
        have hi : i < n := by omega
        walk_at "tx"
        refine ⟨rg, 0, n, rfl, s1 _ _ eg, by omega, ?_⟩
        intro D2 hD2
        refine lc_range (lo := 0) (n := ((n : Int) - 0).toNat) (fun j H'' => Same H' H'' ∧ H'' D2 = some (.lst ((List.range j).map fun c => V.int (rightF n J M z i c : Nat)))) ⟨same_upd hD2, upd_same⟩ ?_ ?_
        · rintro j H'' hj' ⟨s2, eD2⟩
          have hj : j < n := by omega
          have re2 := (re.same s1).same s2
          walk_at "tx"
          refine rekM re2 (by simp) ?_
          walk_at "tx"
          refine ⟨x, n, J, M, z, i, j, by rw [Int.zero_add, Int.zero_add]; rfl, re2, hi, hj, fun H3 s3 => ?_⟩
          exact rowPutN (g := fun c => rightF n J M z i c) hD2 (s2.trans s3) (by omega) (s3 _ _ eD2) rfl
        · rintro H'' ⟨s2, eD2⟩
          rw [show ((n : Int) - 0).toNat = n from by omega] at eD2
          exact rowsN_step hD s1 r1 hD2 s2 (by omega) eD2
      · rintro H' ⟨s1, r1⟩
        rw [show ((n : Int) - 0).toNat = n from by omega] at r1
        have tt := rowsN_end r1
        walk_at "tx"
        have ex1 := s1 _ _ ex
        refine ⟨x, T.C_Reckoning, dx, _, rfl, ex1, T.cl_Reckoning, T.na_Reckoning__rights, by show 6 < 1000; decide, ?_⟩
        refine k _ ((kx1.trans (Same.kx s1)).trans kx_upd) ⟨dx, jt, pt, mt, lt, D, ?_, (tjt.same s1).kx ex1 kx_upd, (tpt.same s1).kx ex1 kx_upd, (tmt.same s1).kx ex1 kx_upd, (tlt.same s1).kx ex1 kx_upd, tt.kx ex1 kx_upd, eR, n2, n16, zn, on, wj, wp⟩
        rw [upd_same, putF_ne (by decide +kernel), putF_ne (by decide +kernel), putF_ne (by decide +kernel), putF_ne (by decide +kernel), putF_ne (by decide +kernel), putF_ne (by decide +kernel)]; rfl
end

/-! ### a reckoning made of tables, told by what they are below n -/
open OQ (TabX RowX SeqAt)
open RK (Fl FltAt)
/-- the same below n -/
def Eqn (n : Nat) (f g : Nat → Nat → Nat) : Prop := ∀ i j, i < n → j < n → f i j = g i j
theorem restF_congr {n : Nat} {J J' M M' : Nat → Nat → Nat} {z o : Nat} (ej : Eqn n J J') (em : Eqn n M M') (zn : z < n) (on : o < n) (wj : ∀ a b, a < n → b < n → J a b < n) (wm : ∀ a b, a < n → b < n → M a b < n) : RK.restF n J M z o = RK.restF n J' M' z o := by
  have h1 : RK.noneF n J M z = RK.noneF n J' M' z := RK.fnd_congr fun a ha => by rw [ej z a zn ha, ej a z ha zn, em z a zn ha, em a z ha zn]
  have h2 : RK.oneF n M o = RK.oneF n M' o := RK.fnd_congr fun a ha => by rw [em o a on ha, em a o ha on]
  have h3 : RK.idleF n J = RK.idleF n J' := RK.fnd_congr fun a ha => by rw [ej a a ha ha]
  have h4 : RK.swapF n J = RK.swapF n J' := RK.fnd_congr fun a ha => RK.fnd_congr fun b hb => by rw [ej a b ha hb, ej b a hb ha]
  have g : ∀ (w : Str) {F G : Nat → Nat → Nat}, Eqn n F G → (∀ a b, a < n → b < n → F a b < n) → RK.groupF w n F = RK.groupF w n G := fun w F G e wF =>
    RK.fnd_congr fun a ha => RK.fnd_congr fun b hb => RK.fnd_congr fun c hc => by
      have w1 := wF a b ha hb
      have w2 := wF b c hb hc
      rw [e (F a b) c w1 hc, e a (F b c) ha w2, e a b ha hb, e b c hb hc]
  have h5 : RK.overF n J M = RK.overF n J' M' := RK.fnd_congr fun a ha => RK.fnd_congr fun b hb => RK.fnd_congr fun c hc => by
    have w1 := wj b c hb hc
    rw [em a (J b c) ha w1, em (J b c) a w1 ha, ej (M a b) (M a c) (wm a b ha hb) (wm a c ha hc), ej (M b a) (M c a) (wm b a hb ha) (wm c a hc ha), ej b c hb hc, em a b ha hb, em a c ha hc, em b a hb ha, em c a hc ha]
  unfold RK.restF
  rw [h1, h2, h3, h4, h5, g _ ej wj, g _ em wm]
theorem jall_congr {n : Nat} {J J' : Nat → Nat → Nat} (e : Eqn n J J') (wj : ∀ a b, a < n → b < n → J a b < n) : ∀ {ws : List Nat} {z : Nat}, z < n → (∀ w ∈ ws, w < n) → jall J z ws = jall J' z ws
  | [], _, _, _ => rfl
  | w :: ws, z, zn, h => by
    have hw := h w (List.mem_cons_self ..)
    show jall J (J z w) ws = jall J' (J' z w) ws
    rw [← e z w zn hw]
    exact jall_congr e wj (wj z w zn hw) fun q m => h q (List.mem_cons_of_mem _ m)
theorem filt_congr {n : Nat} {p q : Nat → Bool} (h : ∀ i, i < n → p i = q i) : (List.range n).filter p = (List.range n).filter q :=
  List.filter_congr fun i m => h i (List.mem_range.mp m)
theorem meetF_congr {n : Nat} {J J' : Nat → Nat → Nat} {z : Nat} (e : Eqn n J J') (zn : z < n) (wj : ∀ a b, a < n → b < n → J a b < n) : Eqn n (meetF n J z) (meetF n J' z) := fun a b ha hb => by
  unfold meetF
  have h1 : ((List.range n).filter fun w => decide (J w a = a)) = (List.range n).filter fun w => decide (J' w a = a) := filt_congr fun i hi => by rw [e i a hi ha]
  have h2 : (((List.range n).filter fun w => decide (J' w a = a)).filter fun w => decide (J w b = b)) = ((List.range n).filter fun w => decide (J' w a = a)).filter fun w => decide (J' w b = b) :=
    List.filter_congr fun i m => by rw [e i b (List.mem_range.mp (List.mem_filter.mp m).1) hb]
  rw [h1, h2]
  exact jall_congr e wj zn fun w m => List.mem_range.mp (List.mem_filter.mp (List.mem_filter.mp m).1).1
theorem leftF_congr {n : Nat} {J J' M M' : Nat → Nat → Nat} {z : Nat} (e : Eqn n J J') (em : Eqn n M M') (zn : z < n) (wj : ∀ a b, a < n → b < n → J a b < n) (wm : ∀ a b, a < n → b < n → M a b < n) : Eqn n (leftF n J M z) (leftF n J' M' z) := fun a c ha hc => by
  unfold leftF
  have h1 : ((List.range n).filter fun b => decide (J (M a b) c = c)) = (List.range n).filter fun b => decide (J' (M' a b) c = c) := filt_congr fun i hi => by rw [e (M a i) c (wm a i ha hi) hc, em a i ha hi]
  rw [h1]
  exact jall_congr e wj zn fun w m => List.mem_range.mp (List.mem_filter.mp m).1
theorem rightF_congr {n : Nat} {J J' M M' : Nat → Nat → Nat} {z : Nat} (e : Eqn n J J') (em : Eqn n M M') (zn : z < n) (wj : ∀ a b, a < n → b < n → J a b < n) (wm : ∀ a b, a < n → b < n → M a b < n) : Eqn n (rightF n J M z) (rightF n J' M' z) := fun c a hc ha => by
  unfold rightF
  have h1 : ((List.range n).filter fun b => decide (J (M b a) c = c)) = (List.range n).filter fun b => decide (J' (M' b a) c = c) := filt_congr fun i hi => by rw [e (M i a) c (wm i a hi ha) hc, em i a hi ha]
  rw [h1]
  exact jall_congr e wj zn fun w m => List.mem_range.mp (List.mem_filter.mp m).1
theorem row_congr {n : Nat} {g h : Nat → Nat} (e : ∀ j, j < n → g j = h j) : ((List.range n).map fun j => V.int (g j : Nat)) = (List.range n).map fun j => V.int (h j : Nat) :=
  List.map_congr_left fun j m => by rw [e j (List.mem_range.mp m)]
theorem TabXT.congr {K : PySem.W.Frag} {H : Hp} {a : Addr} {n : Nat} {f g : Nat → Nat → Nat} (h : TabXT K H a n f) (e : Eqn n f g) : TabXT K H a n g := by
  obtain ⟨rs, l, sa, q⟩ := h
  refine ⟨rs, l, sa, fun i r z => ?_⟩
  have il : i < n := by have := (List.getElem?_eq_some_iff.mp z).1; omega
  rw [← row_congr fun j hj => e i j il hj]
  exact q i r z
theorem TabXL.congr {H : Hp} {a : Addr} {n : Nat} {f g : Nat → Nat → Nat} (h : TabXL H a n f) (e : Eqn n f g) : TabXL H a n g := by
  obtain ⟨rs, l, sa, q⟩ := h
  refine ⟨rs, l, sa, fun i r z => ?_⟩
  have il : i < n := by have := (List.getElem?_eq_some_iff.mp z).1; omega
  rw [← row_congr fun j hj => e i j il hj]
  exact q i r z
theorem RekF.congr {K : PySem.W.Frag} {C : Addr} {H : Hp} {x : Addr} {n : Nat} {J J' M M' : Nat → Nat → Nat} {z o : Nat} (h : RekF K C H x n J M z o) (ej : Eqn n J J') (em : Eqn n M M') : RekF K C H x n J' M' z o := by
  obtain ⟨dx, jt, pt, mt, lt, rt, e, t1, t2, t3, t4, t5, rf, n2, n16, zn, on, wj, wp⟩ := h
  exact ⟨dx, jt, pt, mt, lt, rt, e, t1.congr ej, t2.congr em, t3.congr (meetF_congr ej zn wj), t4.congr (leftF_congr ej em zn wj wp), t5.congr (rightF_congr ej em zn wj wp),
    (restF_congr ej em zn on wj wp).symm.trans rf, n2, n16, zn, on, fun a b ha hb => by rw [← ej a b ha hb]; exact wj a b ha hb, fun a b ha hb => by rw [← em a b ha hb]; exact wp a b ha hb⟩
theorem spReck_good {K : PySem.W.Frag} {C CB : Addr} {H : Hp} {x dx a b : Addr} {n : Nat} {J M : Nat → Nat → Nat} {z o : Nat} {Q : VK} {E : XK} (ex : H x = some (.ins C dx [])) (tj : TabX K H a n J) (tp : TabX K H b n M) (n2 : 2 ≤ n) (n16 : n ≤ 16) (zn : z < n) (on : o < n)
    (wj : ∀ a b, a < n → b < n → J a b < n) (wp : ∀ a b, a < n → b < n → M a b < n) (k : RK.restF n J M z o = none → ∀ H', Kx x H H' → RekF K C H' x n J M z o → Q .non H')
    (kE : ∀ f, RK.restF n J M z o = some f → ∀ v d H', Same H H' → FltAt H' v (some f) → H' d = none → E (.ref CB) (some d) (upd H' d (ErrD v))) : spReck K C CB [.ref x, .ref a, .ref b, .int z, .int o] H Q E := by
  obtain ⟨dj, hj, qj, ej, ds, er, el⟩ := OQ.tab_dp tj wj
  obtain ⟨dp, hp, qp, ep, _⟩ := OQ.tab_dp tp wp
  have ec : RK.cellsOf dj = ds := by unfold RK.cellsOf; rw [er]; rfl
  have ez : ∀ i : Nat, RK.natOf (.int i) = i := fun i => by show (i : Int).toNat = i; omega
  have bz : ∀ i : Nat, i < n → RK.belowB n (.int i) = true := fun i hi => decide_eq_true (by omega)
  have eS : RK.sizeB dj dp (.int z) (.int o) = true := by
    unfold RK.sizeB
    rw [er]
    show (decide (2 ≤ ds.length ∧ ds.length ≤ 16) && (RK.squareB ds.length dj && (RK.squareB ds.length dp && (RK.belowB ds.length (.int z) && RK.belowB ds.length (.int o))))) = true
    rw [el, qj, qp, bz z zn, bz o on, decide_eq_true ⟨n2, n16⟩]; rfl
  have eF : firstF dj dp (.int z) (.int o) = RK.restF n J M z o := by
    unfold firstF sizF
    rw [if_pos eS, ec, el, ez, ez]
    exact restF_congr ej ep zn on (fun a b ha hb => by rw [ej a b ha hb]; exact wj a b ha hb) (fun a b ha hb => by rw [ep a b ha hb]; exact wp a b ha hb)
  refine ⟨x, dx, _, _, _, _, dj, dp, .int z, .int o, rfl, ex, OQ.dqd_of hj, OQ.dqd_of hp, .int _, .int _, fun e H' kx rf => ?_, fun f e => kE f (eF ▸ e)⟩
  rw [ec, el, ez, ez] at rf
  exact k (eF ▸ e) H' kx (rf.congr ej ep)

/-! ### reckonings compared -/
open OQ (TabX RowX SeqAt)
def tabl (n : Nat) (f : Nat → Nat → Nat) : List (List Nat) := (List.range n).map fun i => (List.range n).map (f i)
def Tq (cs : List (List Nat)) : List PyData := cs.map fun c => .tuple (OQ.Tn c)
theorem Tn_eq2 : ∀ p q : List Nat, PyData.eqvAll (OQ.Tn p) (OQ.Tn q) = decide (p = q)
  | [], [] => by rw [OQ.Tn, List.map_nil, PyData.eqvAll]; rfl
  | [], j :: q => by rw [OQ.Tn, OQ.Tn, List.map_nil, List.map_cons, PyData.eqvAll]; rfl
  | i :: p, [] => by rw [OQ.Tn, OQ.Tn, List.map_nil, List.map_cons, PyData.eqvAll]; rfl
  | i :: p, j :: q => by
    have e1 : OQ.Tn (i :: p) = .int (i : Int) :: OQ.Tn p := rfl
    have e2 : OQ.Tn (j :: q) = .int (j : Int) :: OQ.Tn q := rfl
    rw [e1, e2, PyData.eqvAll, PyData.eqv, Tn_eq2 p q, Bool.eq_iff_iff]
    simp only [Bool.and_eq_true, beq_iff_eq, decide_eq_true_eq, List.cons.injEq]
    constructor
    · rintro ⟨h1, h2⟩; exact ⟨by omega, h2⟩
    · rintro ⟨h1, h2⟩; exact ⟨by omega, h2⟩
theorem Tq_eq : ∀ cs ds : List (List Nat), PyData.eqvAll (Tq cs) (Tq ds) = decide (cs = ds)
  | [], [] => by rw [Tq, List.map_nil, PyData.eqvAll]; rfl
  | [], d :: ds => by rw [Tq, Tq, List.map_nil, List.map_cons, PyData.eqvAll]; rfl
  | c :: cs, [] => by rw [Tq, Tq, List.map_nil, List.map_cons, PyData.eqvAll]; rfl
  | c :: cs, d :: ds => by
    have e1 : Tq (c :: cs) = .tuple (OQ.Tn c) :: Tq cs := rfl
    have e2 : Tq (d :: ds) = .tuple (OQ.Tn d) :: Tq ds := rfl
    rw [e1, e2, PyData.eqvAll, PyData.eqv, Tn_eq2, Tq_eq cs ds, Bool.eq_iff_iff]
    simp only [Bool.and_eq_true, decide_eq_true_eq, List.cons.injEq]
theorem Tq_lay : ∀ cs : List (List Nat), PyData.canLayAll0 (Tq cs) = true ∧ PyData.depthAll (Tq cs) ≤ 1
  | [] => by rw [Tq, List.map_nil, PyData.canLayAll0, PyData.depthAll]; exact ⟨rfl, by omega⟩
  | c :: cs => by
    obtain ⟨h1, h2⟩ := Tq_lay cs
    obtain ⟨g1, g2⟩ := OQ.Tn_lay c
    have e : Tq (c :: cs) = .tuple (OQ.Tn c) :: Tq cs := rfl
    rw [e, PyData.canLayAll0, PyData.canLay0, PyData.depthAll, PyData.depth, h1, g1, g2]
    exact ⟨rfl, by omega⟩
theorem Tq_shaped (cs : List (List Nat)) : SeqAt.shaped (.tuple (Tq cs)) = true := by
  obtain ⟨h1, h2⟩ := Tq_lay cs
  unfold SeqAt.shaped
  rw [PyData.canLay0, PyData.depth, h1, Bool.true_and, decide_eq_true_eq]
  omega
theorem TabXT.dp {K : PySem.W.Frag} {H : Hp} {a : Addr} {n : Nat} {f : Nat → Nat → Nat} (h : TabXT K H a n f) : Dp K H (.ref a) (.tuple (Tq (tabl n f))) := by
  obtain ⟨rs, len, sa, rows⟩ := h
  refine .tup sa ?_
  have gen : ∀ (ts : List Addr) (k : Nat), (∀ (i : Nat) (r : Addr), ts[i]? = some r → SqT K H r ((List.range n).map fun j => V.int (f (k + i) j : Nat))) →
      DpAll K H (ts.map V.ref) (Tq ((List.range' k ts.length).map fun i => (List.range n).map (f i))) := by
    intro ts
    induction ts with
    | nil => intro k _; exact .nil
    | cons t ts ih =>
      intro k h
      have h0 := h 0 t rfl
      refine .cons (.tup h0 ?_) (ih (k + 1) fun i r hr => ?_)
      · have : (List.range n).map (fun j => V.int (f (k + 0) j : Nat)) = WW.Ns ((List.range n).map (f k)) := by
          unfold WW.Ns; rw [List.map_map]; rfl
        rw [this]
        exact OQ.Tn_all _
      · have := h (i + 1) r (by simpa using hr)
        rwa [show k + (i + 1) = k + 1 + i from by omega] at this
  have := gen rs 0 (by simpa using rows)
  unfold tabl
  rw [len, ← List.range_eq_range'] at this
  exact this
theorem tab_ne {K : PySem.W.Frag} {H : Hp} {Q : VK} {a b : Addr} {n m : Nat} {f g : Nat → Nat → Nat} (ha : TabXT K H a n f) (hb : TabXT K H b m g) (k : Q (.bl (!decide (tabl n f = tabl m g))) H) : rNeD K (.ref a) (.ref b) H Q :=
  ⟨_, _, ha.dp, hb.dp, Tq_shaped _, Tq_shaped _, by rw [PyData.eqv, Tq_eq]; exact k⟩
theorem tabl_len {n : Nat} {f : Nat → Nat → Nat} : (tabl n f).length = n := by unfold tabl; rw [List.length_map, List.length_range]
theorem tabl_congr {n : Nat} {f g : Nat → Nat → Nat} (e : Eqn n f g) : tabl n f = tabl n g := by
  unfold tabl
  exact List.map_congr_left fun i mi => List.map_congr_left fun j mj => e i j (List.mem_range.mp mi) (List.mem_range.mp mj)
def spRekEq (K : PySem.W.Frag) (C : Addr) : Sp := fun vs H Q _ => ∃ (x y : Addr) (n : Nat) (J M : Nat → Nat → Nat) (z o n' : Nat) (J' M' : Nat → Nat → Nat) (z' o' : Nat), vs = [.ref x, .ref y] ∧ RekF K C H x n J M z o ∧ RekF K C H y n' J' M' z' o' ∧
  Q (.bl (decide (tabl n J = tabl n' J' ∧ tabl n M = tabl n' M' ∧ z = z' ∧ o = o'))) H
section
variable {P : Program} {w : World} {K : PySem.W.Frag} {mg : Str → Option Value} {base : Heap} {H : Hp} {R : V → Prop}
theorem rfJ (T : Top K mg) {x : Addr} {n : Nat} {J M : Nat → Nat → Nat} {z o : Nat} (h : RekF K T.C_Reckoning H x n J M z o) (k : ∀ jt, TabXT K H jt n J → R (.ref jt)) : ∃ a' C dx fs v, V.ref x = .ref a' ∧ H a' = some (.ins C dx fs) ∧ Cls K C ∧ NoAttr K C "joins" ∧ fs.lookup ("joins" : Str) = some v ∧ R v := by
  obtain ⟨dx, jt, pt, mt, lt, rt, e, t1, _⟩ := h
  exact ⟨x, _, dx, _, _, rfl, e, T.cl_Reckoning, T.na_Reckoning_joins, lk_eq, k jt t1⟩
theorem rfP (T : Top K mg) {x : Addr} {n : Nat} {J M : Nat → Nat → Nat} {z o : Nat} (h : RekF K T.C_Reckoning H x n J M z o) (k : ∀ jt, TabXT K H jt n M → R (.ref jt)) : ∃ a' C dx fs v, V.ref x = .ref a' ∧ H a' = some (.ins C dx fs) ∧ Cls K C ∧ NoAttr K C "products" ∧ fs.lookup ("products" : Str) = some v ∧ R v := by
  obtain ⟨dx, jt, pt, mt, lt, rt, e, t1, t2, _⟩ := h
  exact ⟨x, _, dx, _, _, rfl, e, T.cl_Reckoning, T.na_Reckoning_products, (lk_ne (by decide +kernel)).trans lk_eq, k pt t2⟩
theorem rfN (T : Top K mg) {x : Addr} {n : Nat} {J M : Nat → Nat → Nat} {z o : Nat} (h : RekF K T.C_Reckoning H x n J M z o) (k : R (.int z)) : ∃ a' C dx fs v, V.ref x = .ref a' ∧ H a' = some (.ins C dx fs) ∧ Cls K C ∧ NoAttr K C "none" ∧ fs.lookup ("none" : Str) = some v ∧ R v := by
  obtain ⟨dx, jt, pt, mt, lt, rt, e, t1, t2, _⟩ := h
  exact ⟨x, _, dx, _, _, rfl, e, T.cl_Reckoning, T.na_Reckoning_none, (lk_ne (by decide +kernel)).trans ((lk_ne (by decide +kernel)).trans lk_eq), k⟩
theorem rfO (T : Top K mg) {x : Addr} {n : Nat} {J M : Nat → Nat → Nat} {z o : Nat} (h : RekF K T.C_Reckoning H x n J M z o) (k : R (.int o)) : ∃ a' C dx fs v, V.ref x = .ref a' ∧ H a' = some (.ins C dx fs) ∧ Cls K C ∧ NoAttr K C "one" ∧ fs.lookup ("one" : Str) = some v ∧ R v := by
  obtain ⟨dx, jt, pt, mt, lt, rt, e, t1, t2, _⟩ := h
  exact ⟨x, _, dx, _, _, rfl, e, T.cl_Reckoning, T.na_Reckoning_one, (lk_ne (by decide +kernel)).trans ((lk_ne (by decide +kernel)).trans ((lk_ne (by decide +kernel)).trans lk_eq)), k⟩
theorem rfTy (T : Top K mg) {x : Addr} {n : Nat} {J M : Nat → Nat → Nat} {z o : Nat} (h : RekF K T.C_Reckoning H x n J M z o) : TyX K H (.ref x) (.ref T.C_Reckoning) := by
  obtain ⟨dx, jt, pt, mt, lt, rt, e, _⟩ := h
  exact .base (.ins e T.cl_Reckoning T.ha_Reckoning T.hnO T.htO T.hm_Reckoning)
theorem rfM {C : Addr} {x : Addr} {n : Nat} {J M : Nat → Nat → Nat} {z o : Nat} {m : Str} {R : Prop} (h : RekF K C H x n J M z o) (hm : m ∈ ([("_joined" : Str), ("_meet" : Str), ("_left" : Str), ("_right" : Str), ("is_worth" : Str), ("beneath" : Str), ("join" : Str), ("times" : Str), ("meet" : Str), ("greatest" : Str), ("left" : Str), ("right" : Str)] : List Str)) (k : R) : ∃ a' dx fs, V.ref x = .ref a' ∧ H a' = some (.ins C dx fs) ∧ fs.lookup m = none ∧ R := rekM h.rek hm k
theorem ok_Reckoning__eq (T : Top K mg) : FnOk P w K mg base CX0 2 T.f_Reckoning__eq T.fd_Reckoning__eq ["self", "other"] (spRekEq K T.C_Reckoning) := by
  refine T.F_Reckoning__eq.ok sc_Reckoning__eq (fun vs H Q E h => ?_) (fun cdv A outer s H vs Q E hr h => ?_)
  · obtain ⟨x, y, n, J, M, z, o, n', J', M', z', o', rfl, _⟩ := h; rfl
  · obtain ⟨x, y, n, J, M, z, o, n', J', M', z', o', rfl, rx, ry, k⟩ := h
    refine ⟨_, (pss_cons (ps_if (pt_not (pt_val (pe_callB call_isi (by rfl) T.n_isinstance (by decide +kernel) (pa_cons (pv 1) (pa_cons (pe_glob (v := V.ref T.C_Reckoning) (by rfl) T.g_Reckoning rfl) pa_nil)))))
 (pss_one (ps_ret pe_bl))
 pss_nil)
 (pss_cons (ps_if (PW.pt (pw_or (pt_cmpR (op_neD hr.units) (pe_fld (pv 0) (by rfl)) (pe_fld (pv 1) (by rfl)) (nomark _)) (pw_or1 (pt_cmpR (op_neD hr.units) (pe_fld (pv 0) (by rfl)) (pe_fld (pv 1) (by rfl)) (nomark _)))))
 (pss_one (ps_ret pe_bl))
 pss_nil)
 (pss_one (ps_ret (pe_and (pe_cmpR op_eq (pe_fld (pv 0) (by rfl)) (pe_fld (pv 1) (by rfl)) (nomark _)) (pe_one (pe_cmpR op_eq (pe_fld (pv 0) (by rfl)) (pe_fld (pv 1) (by rfl)) (nomark _)))))))), ?_⟩
    walk_at "tx"
    refine RD.d_isi (.own _) (rfTy T ry) T.kRR ?_
    refine ⟨true, rfl, RD.d_iteNT ?_⟩
    walk_at "tx"
    refine rfJ T rx (fun jt tj => ?_)
    walk_at "tx"
    refine rfJ T ry (fun jt' tj' => ?_)
    refine tab_ne tj tj' ?_
    walk_at "tx"
    refine RD.iteN (fun c1 => ?_) (fun c1 => ?_)
    · rw [decide_eq_false (fun z => c1 z.1)] at k
      walk_at "tx"
      exact k
    walk_at "tx"
    refine rfP T rx (fun pt tp => ?_)
    walk_at "tx"
    refine rfP T ry (fun pt' tp' => ?_)
    refine tab_ne tp tp' ?_
    walk_at "tx"
    refine RD.iteN (fun c2 => ?_) (fun c2 => ?_)
    · rw [decide_eq_false (fun z => c2 z.2.1)] at k
      walk_at "tx"
      exact k
    walk_at "tx"
    refine rfN T rx ?_
    walk_at "tx"
    refine rfN T ry ?_
    walk_at "tx"
    refine RD.iteD (fun c3 => ?_) (fun c3 => ?_)
    · walk_at "tx"
      refine rfO T rx ?_
      walk_at "tx"
      refine rfO T ry ?_
      walk_at "tx"
      have : decide (tabl n J = tabl n' J' ∧ tabl n M = tabl n' M' ∧ z = z' ∧ o = o') = decide ((o : Int) = (o' : Int)) := by
        rw [decide_eq_decide]
        exact ⟨fun z => by omega, fun z => ⟨c1, c2, by omega, by omega⟩⟩
      rw [this] at k
      exact k
    · rw [decide_eq_false (fun z => c3 (by omega))] at k
      exact k
end

/-! ### the law's draws -/
def handV (c : Addr) (p q m n : Int) : List V := [.ref c, .int p, .int q, .int m, .int n]
/-- the hand at h -/
def HandAt (H : Hp) (h c : Addr) : Prop := ∃ (cs : List Int) (p q m n : Int), H h = some (.lst (handV c p q m n)) ∧ H c = some (.lst (cs.map V.int)) ∧ c ≠ h ∧ 0 ≤ p
/-- all but what stands at h is as it was -/
def But (h : Addr) (H H' : Hp) : Prop := ∀ b, b ≠ h → H' b = H b
def spDraw : Sp := fun vs H Q _ => ∃ (h c : Addr) (many : Int), vs = [.ref h, .int many] ∧ HandAt H h c ∧ 0 < many ∧ many.natAbs.log2 < 9000 ∧
  ∀ (r : Int) (H' : Hp), 0 ≤ r → r < many → HandAt H' h c → But h H H' → Q (.int r) H'
def spHand (K : PySem.W.Frag) : Sp := fun vs H Q _ => ∃ (a : Addr) (ns : List Int), vs = [.ref a] ∧ SqL K H a (ns.map V.int) ∧ ns.length ≤ 63 ∧
  ∀ (h c : Addr) (H' : Hp), HandAt H' h c → Same H H' → H h = none → Q (.ref h) H'
theorem upd_upd {H : Hp} {p : Addr} {o u : HO} : upd (upd H p o) p u = upd H p u := by
  funext b
  by_cases e : b = p
  · subst e; rw [upd_same, upd_same]
  · rw [upd_ne e, upd_ne e, upd_ne e]
theorem upd_id {H : Hp} {p : Addr} {o : HO} (e : H p = some o) : upd H p o = H := by
  funext b
  by_cases h : b = p
  · subst h; rw [upd_same, e]
  · rw [upd_ne h]
theorem upd_none {H : Hp} {p q : Addr} {o : HO} (e : upd H p o q = none) : q ≠ p ∧ H q = none := by
  by_cases h : q = p
  · subst h; rw [upd_same] at e; cases e
  · rw [upd_ne h] at e; exact ⟨h, e⟩
theorem ne_of_free {H : Hp} {p q : Addr} {o : HO} (e : upd H p o q = none) : q ≠ p := (upd_none e).1

/-! ### what a draw leaves -/
theorem HandAt.same {H H' : Hp} {h c : Addr} (x : HandAt H h c) (s : Same H H') : HandAt H' h c := by
  obtain ⟨cs, p, q, m, n, e1, e2, ne, hp⟩ := x
  exact ⟨cs, p, q, m, n, s _ _ e1, s _ _ e2, ne, hp⟩
theorem log2_lt {i : Int} (k : i.natAbs < 2 ^ 64) : i.natAbs.log2 < 9000 := by
  by_cases z : i.natAbs = 0
  · rw [z]; decide
  · exact Nat.lt_trans ((Nat.log2_lt z).mpr k) (by decide)
theorem But.sqT {K : PySem.W.Frag} {H H' : Hp} {h c a : Addr} {xs : List V} (b : But h H H') (x : HandAt H h c) (s : SqT K H a xs) : SqT K H' a xs := by
  obtain ⟨cs, p, q, m, n, e1, _⟩ := x
  rcases s with (s | ⟨o, s⟩) | s
  · exact .inl (.inl (by rw [b a (fun z => by subst z; rw [s] at e1; cases e1)]; exact s))
  · exact .inl (.inr ⟨o, by rw [b a (fun z => by subst z; rw [s] at e1; cases e1)]; exact s⟩)
  · exact .inr s
theorem But.tabT {K : PySem.W.Frag} {H H' : Hp} {h c a : Addr} {n : Nat} {f : Nat → Nat → Nat} (b : But h H H') (x : HandAt H h c) (s : TabXT K H a n f) : TabXT K H' a n f := by
  obtain ⟨rs, l, e, q⟩ := s
  exact ⟨rs, l, b.sqT x e, fun i r z => b.sqT x (q i r z)⟩
theorem But.tabL {H H' : Hp} {h c a : Addr} {n : Nat} {f : Nat → Nat → Nat} (b : But h H H') (x : HandAt H h c) (n2 : 2 ≤ n) (s : TabXL H a n f) : TabXL H' a n f := by
  obtain ⟨rs, l, e, q⟩ := s
  obtain ⟨cs, p, q', m, k, e1, _⟩ := x
  refine ⟨rs, l, ?_, fun i r z => ?_⟩
  · rw [b a (fun z => ?_)]; exact e
    subst z
    rw [e] at e1
    have := HO.lst.inj (Option.some.inj e1)
    match rs, l with
    | [], l => simp at l; omega
    | [_], l => simp at l; omega
    | _ :: _ :: _, _ => simp [handV] at this
  · have qr := q i r z
    rw [b r (fun y => ?_)]; exact qr
    subst y
    rw [qr] at e1
    have := HO.lst.inj (Option.some.inj e1)
    match n, n2 with
    | n + 1, _ =>
      rw [List.range_succ_eq_map] at this
      simp [handV] at this
theorem But.ins {H H' : Hp} {h c a C dx : Addr} {fs : List (Str × V)} (b : But h H H') (x : HandAt H h c) (s : H a = some (.ins C dx fs)) : H' a = some (.ins C dx fs) := by
  obtain ⟨cs, p, q, m, n, e1, _⟩ := x
  rw [b a (fun z => by subst z; rw [s] at e1; cases e1)]; exact s
theorem RekF.but {K : PySem.W.Frag} {C : Addr} {H H' : Hp} {x h c : Addr} {n : Nat} {J M : Nat → Nat → Nat} {z o : Nat} (r : RekF K C H x n J M z o) (b : But h H H') (hd : HandAt H h c) : RekF K C H' x n J M z o := by
  obtain ⟨dx, jt, pt, mt, lt, rt, e, t1, t2, t3, t4, t5, rf, n2, rest⟩ := r
  exact ⟨dx, jt, pt, mt, lt, rt, b.ins hd e, b.tabT hd t1, b.tabT hd t2, b.tabL hd n2 t3, b.tabL hd n2 t4, b.tabL hd n2 t5, rf, n2, rest⟩

section
variable {P : Program} {w : World} {K : PySem.W.Frag} {mg : Str → Option Value} {base : Heap}
theorem ok_law_draw (T : Top K mg) : FnOk P w K mg base CX0 1 T.f_law_draw T.fd_law_draw ["hand", "many"] spDraw := by
  refine T.F_law_draw.ok sc_law_draw (fun vs H Q E h => ?_) (fun cdv A outer s H vs Q E hr h => ?_)
  · obtain ⟨h, c, many, rfl, _⟩ := h; rfl
  · obtain ⟨h, c, many, rfl, ⟨cs, p, q, m, n, e1, e2, ne, hp⟩, m0, ml, k⟩ := h
    refine ⟨_, (C8.pss_cut (ps_if (PW.pt (pw_and (pt_cmpR op_eq (pe_ix ix_list (pv 0) pe_int (fun _ _ => rfl)) pe_int (nomark _)) (pw_and1 (pt_cmpR op_lt (pe_ix ix_list (pv 0) pe_int (fun _ _ => rfl)) (pe_callB RD.c_len (by rfl) T.n_len (by decide +kernel) (pa_cons (pe_ix ix_list (pv 0) pe_int (fun _ _ => rfl)) pa_nil)) (nomark _)))))
 (pss_cons (ps_set (i := 2) sc_law_draw.nd rfl (Or.inl rfl) (pe_ix ix_list (pe_ix ix_list (pv 0) pe_int (fun _ _ => rfl)) (pe_ix ix_list (pv 0) pe_int (fun _ _ => rfl)) (fun _ _ => rfl)))
 (pss_cons (ps_asg (pe_op op_add (pe_ix ix_list (pv 0) pe_int (fun _ _ => rfl)) pe_int) (pg_sub (pv 0) pe_int set_list))
 (pss_cons (ps_asg (pe_op op_mod (pe_callTy RD.c_int (by rfl) T.n_int (by decide +kernel) (pa_cons (pe_op op_add (pe_op op_add (pe_op op_mul (pe_ix ix_list (pv 0) pe_int (fun _ _ => rfl)) pe_int) (pv 2)) pe_int) pa_nil)) pe_int) (pg_sub (pv 0) pe_int set_list))
 (pss_one (ps_if (pt_cmpR op_ge (pv 2) (pe_op op_pow pe_int pe_int) (nomark _))
 (pss_one (ps_asg (pv 2) (pg_sub (pv 0) pe_int set_list)))
 pss_nil)))))
 pss_nil)
 (pss_cons (ps_if (pt_cmpR op_gt (pe_ix ix_list (pv 0) pe_int (fun _ _ => rfl)) pe_int (nomark _))
 (pss_cons (ps_set (i := 3) sc_law_draw.nd rfl (Or.inl rfl) (pe_op op_mod (pe_callTy RD.c_int (by rfl) T.n_int (by decide +kernel) (pa_cons (pe_ix ix_list (pv 0) pe_int (fun _ _ => rfl)) pa_nil)) (pv 1)))
 (pss_cons (ps_asg (pe_op op_fdivW (pe_ix ix_list (pv 0) pe_int (fun _ _ => rfl)) (pv 1)) (pg_sub (pv 0) pe_int set_list))
 (pss_one (ps_ret (pv 3)))))
 pss_nil)
 (pss_cons (ps_asg (pe_op op_add (pe_ix ix_list (pv 0) pe_int (fun _ _ => rfl)) pe_int) (pg_sub (pv 0) pe_int set_list))
 (pss_cons (ps_set (i := 4) sc_law_draw.nd rfl (Or.inl rfl) (pe_op op_mod (pe_callTy RD.c_int (by rfl) T.n_int (by decide +kernel) (pa_cons (pe_op op_mul (pe_callTy RD.c_int (by rfl) T.n_int (by decide +kernel) (pa_cons (pe_op op_add (pe_ix ix_list (pv 0) pe_int (fun _ _ => rfl)) (pe_op op_mul pe_int (pe_ix ix_list (pv 0) pe_int (fun _ _ => rfl)))) pa_nil)) pe_int) pa_nil)) pe_int))
 (pss_cons (ps_set (i := 4) sc_law_draw.nd rfl (Or.inl rfl) (pe_op op_mod (pe_callTy RD.c_int (by rfl) T.n_int (by decide +kernel) (pa_cons (pe_op op_mul (pv 4) (pe_op op_add (pe_op op_fdivW (pv 4) pe_int) pe_int)) pa_nil)) pe_int))
 (pss_cons (ps_set (i := 4) sc_law_draw.nd rfl (Or.inl rfl) (pe_op op_mod (pe_callTy RD.c_int (by rfl) T.n_int (by decide +kernel) (pa_cons (pe_op op_mul (pv 4) (pe_op op_add (pe_op op_fdivW (pv 4) pe_int) pe_int)) pa_nil)) pe_int))
 (pss_one (ps_ret (pe_op op_mod (pe_callTy RD.c_int (by rfl) T.n_int (by decide +kernel) (pa_cons (pe_op op_fdivW (pv 4) pe_int) pa_nil)) (pv 1)))))))))), ?_⟩
    unfold handV at e1
    refine RD.d_cut (fun σ' H' => ∃ x p' q' m', σ' = [some (.ref h), some (.int many), x, none, none] ∧ H' = upd H h (.lst [.ref c, .int p', .int q', .int m', .int n]) ∧ 0 ≤ p') ?_ ?_
    · walk_at "rd"
      refine RD.iteD (fun c1 => ?_) (fun c1 => ?_)
      · walk_at "rd"
        refine RD.iteD (fun c2 => ?_) (fun c2 => ?_)
        · have hl : p.toNat < cs.length := by rw [List.length_map] at c2; omega
          have hg : (cs.map V.int)[p.toNat]? = some (V.int cs[p.toNat]) := by simp [hl]
          have ha : atI (cs.map V.int) p = some (V.int cs[p.toNat]) := by
            have z := atI_nat hg
            rwa [Int.toNat_of_nonneg hp] at z
          walk_at "rd"
          refine RD.d_ixL (SqL.of e2) ha ?_
          walk_at "rd"
          refine RD.iteD (fun c3 => ?_) (fun c3 => ?_)
          · walk_at "rd"
            exact ⟨_, p + 1, cs[p.toNat], (m * 69621 + cs[p.toNat] + 11) % 2147483629, rfl, (by rw [upd_upd, upd_upd]; rfl), by omega⟩
          · walk_at "rd"
            exact ⟨_, p + 1, q, (m * 69621 + cs[p.toNat] + 11) % 2147483629, rfl, (by rw [upd_upd]; rfl), by omega⟩
        · walk_at "rd"
          exact ⟨none, p, q, m, rfl, (upd_id e1).symm, hp⟩
      · walk_at "rd"
        exact ⟨none, p, q, m, rfl, (upd_id e1).symm, hp⟩
    · rintro σ' H' ⟨x, p', q', m', rfl, rfl, hp'⟩
      have fin : ∀ q2 n2 : Int, HandAt (upd H h (.lst [.ref c, .int p', .int q2, .int m', .int n2])) h c ∧ But h H (upd H h (.lst [.ref c, .int p', .int q2, .int m', .int n2])) := fun q2 n2 =>
        ⟨⟨cs, p', q2, m', n2, upd_same, (by rw [upd_ne ne]; exact e2), ne, hp'⟩, fun b hb => upd_ne hb⟩
      walk_at "rd"
      refine RD.iteD (fun c1 => ?_) (fun c1 => ?_)
      · walk_at "rd"
        rw [upd_upd]
        exact k _ _ (Int.emod_nonneg _ (by omega)) (Int.emod_lt_of_pos _ m0) (fin _ _).1 (fin _ _).2
      · walk_at "rd"
        rw [upd_upd]
        exact k _ _ (Int.emod_nonneg _ (by omega)) (Int.emod_lt_of_pos _ m0) (fin _ _).1 (fin _ _).2
end
section
variable {P : Program} {w : World} {K : PySem.W.Frag} {mg : Str → Option Value} {base : Heap}
theorem ok_law_hand (T : Top K mg) : FnOk P w K mg base CX0 1 T.f_law_hand T.fd_law_hand ["script"] (spHand K) := by
  refine T.F_law_hand.ok sc_law_hand (fun vs H Q E h => ?_) (fun cdv A outer s H vs Q E hr h => ?_)
  · obtain ⟨a, ns, rfl, _⟩ := h; rfl
  · obtain ⟨a, ns, rfl, hS, hl, k⟩ := h
    refine ⟨_, (pss_cons (ps_setLc (i := 1) (own := [("cell", 2)]) (g := (gName 2)) (tt := tYes) rfl sc_law_hand.nd rfl rfl (sw_true rfl rfl rfl (by decide +kernel)) (pi_list (pe_slice sl_list (pv 0) po_none (po_some pe_int))) (blkOk_by (own := [("cell", 2)]) (N := ["script", "cells", "cell"]) (sc := defScope s_law_hand) (by decide +kernel)) (fun _ _ _ _ _ => (pg_name (i := 2) sc_law_hand.nd rfl (Or.inl rfl))) (fun _ _ _ _ _ => pts_nil) (fun _ _ _ _ _ => (pe_callB RD.c_abs (by rfl) T.n_abs (by decide +kernel) (pa_cons (pe_callTy RD.c_int (by rfl) T.n_int (by decide +kernel) (pa_cons (pv 2) pa_nil)) pa_nil))))
 (pss_one (ps_ret (pe_lst (pa_cons (pv 1) (pa_cons pe_int (pa_cons pe_int (pa_cons (pe_op op_add pe_int (pe_callB RD.c_len (by rfl) T.n_len (by decide +kernel) (pa_cons (pv 1) pa_nil))) (pa_cons pe_int pa_nil))))))))), ?_⟩
    walk_at "rd"
    refine ⟨a, ns.map V.int, rfl, hS, fun p hp => ?_⟩
    walk_at "rd"
    intro D hD
    have nD : D ≠ p := ne_of_free hD
    have hz : ∀ v ∈ cutV (ns.map V.int) none (some 63), ∃ z : Int, v = V.int z := fun v hv => by
      have q := List.mem_of_mem_take hv
      have q2 := List.mem_of_mem_drop q
      obtain ⟨z, _, rfl⟩ := List.mem_map.mp q2
      exact ⟨z, rfl⟩
    have hlen : (cutV (ns.map V.int) none (some 63)).length ≤ 63 := Nat.le_trans (cutV_length _ _ _) (by rw [List.length_map]; exact hl)
    refine lc_list (K := K) (a := p) (xs := cutV (ns.map V.int) none (some 63)) (fun i H' => Same H H' ∧ H D = none ∧ H' p = some (.lst (cutV (ns.map V.int) none (some 63))) ∧ ∃ cs : List Int, H' D = some (.lst (cs.map V.int)) ∧ cs.length ≤ i) ?_ ?_ ?_ ?_
    · refine ⟨fun b o e => ?_, (upd_none hD).2, by rw [upd_ne nD.symm, upd_same], [], upd_same, Nat.le_refl _⟩
      rw [upd_ne (ne_of_none e (upd_none hD).2), upd_ne (ne_of_none e hp)]; exact e
    · exact fun i H' _ q => SqL.of q.2.2.1
    · rintro i x H' hi ⟨s0, d0, hp', cs, hc, hcl⟩
      obtain ⟨z, rfl⟩ := hz x (List.mem_of_getElem? hi)
      have hi' : i < 63 := Nat.lt_of_lt_of_le (List.getElem?_eq_some_iff.mp hi).1 hlen
      walk_at "rd"
      refine ⟨_, hc, Nat.lt_of_le_of_lt (by rw [List.length_map]; exact hcl) (Nat.lt_of_lt_of_le hi' (by decide)), fun b o e => ?_, d0, by rw [upd_ne nD.symm]; exact hp', cs ++ [_], by rw [upd_same, List.map_append]; rfl, by simp; omega⟩
      rw [upd_ne (ne_of_none e d0)]; exact s0 b o e
    · rintro H' ⟨s0, d0, hp', cs, hc, hcl⟩
      walk_at "rd"
      refine ⟨by show 5 ≤ sizeLine; decide, fun h hh => ?_⟩
      refine k h D _ ⟨cs, 0, 0, _, 0, upd_same, by rw [upd_ne (ne_of_none hc hh)]; exact hc, ne_of_none hc hh, Int.le_refl _⟩ (fun b o e => ?_) (s0.free hh)
      rw [upd_ne (ne_of_none (s0 b o e) hh)]; exact s0 b o e
end

/-! ### lots of things -/
open OQ (TabX RowX SeqAt)
open RK (Gd Mo lotP Lb)
theorem bit_odd {a x : Nat} : (((a / 2 ^ x % 2 : Nat) : Int) = 1) ↔ a.testBit x = true := by
  rw [Nat.testBit_eq_decide_div_mod_eq, decide_eq_true_eq]
  omega
theorem shr_nat {a i : Nat} : V.int ((a : Int) / 2 ^ ((0 : Int) + i).toNat) = V.int ((a / 2 ^ i : Nat) : Int) := by
  rw [Int.zero_add, Int.toNat_natCast, Int.natCast_ediv, Int.natCast_pow]; rfl
theorem bor {f p : Nat} : Builtin.bitOr (f : Int) (1 * 2 ^ ((p : Nat) : Int).toNat) = ((f ||| 2 ^ p : Nat) : Int) := by
  have e : (1 : Int) * 2 ^ ((p : Nat) : Int).toNat = ((2 ^ p : Nat) : Int) := by rw [Int.one_mul, Int.toNat_natCast, Int.natCast_pow]; rfl
  rw [e, bitOr_nn (Int.natCast_nonneg _) (Int.natCast_nonneg _), Int.toNat_natCast, Int.toNat_natCast]
/-- what is found while the pairs behind (i, j) are still to come -/
def Lp (n : Nat) (P : Nat → Nat → Nat) (a c i j f : Nat) : Prop := ∀ z, f.testBit z = true ↔ ∃ x y, (x < i ∨ (x = i ∧ y < j)) ∧ x < n ∧ y < n ∧ a.testBit x = true ∧ c.testBit y = true ∧ P x y = z
theorem Lp.zero {n : Nat} {P : Nat → Nat → Nat} {a c : Nat} : Lp n P a c 0 0 0 := fun z => by
  constructor
  · intro h; simp at h
  · rintro ⟨x, y, h, _⟩; omega
theorem Lp.next {n : Nat} {P : Nat → Nat → Nat} {a c i f : Nat} (h : Lp n P a c i n f) : Lp n P a c (i + 1) 0 f := fun z => by
  rw [h z]
  constructor
  · rintro ⟨x, y, h1, h2, h3, h4⟩; exact ⟨x, y, by omega, h2, h3, h4⟩
  · rintro ⟨x, y, h1, h2, h3, h4⟩; exact ⟨x, y, by omega, h2, h3, h4⟩
theorem Lp.end {n : Nat} {P : Nat → Nat → Nat} {a c f : Nat} (h : Lp n P a c n 0 f) : f = lotP n P a c := RK.bits_eq fun z => by
  rw [h z, RK.lot_bit]
  constructor
  · rintro ⟨x, y, h1, h2, h3, h4⟩; exact ⟨x, y, h2, h3, h4⟩
  · rintro ⟨x, y, h2, h3, h4⟩; exact ⟨x, y, by omega, h2, h3, h4⟩
theorem Lp.no {n : Nat} {P : Nat → Nat → Nat} {a c i j f : Nat} (h : Lp n P a c i j f) (b : ¬ (a.testBit i = true ∧ c.testBit j = true)) : Lp n P a c i (j + 1) f := fun z => by
  rw [h z]
  constructor
  · rintro ⟨x, y, h1, h2, h3, h4⟩; exact ⟨x, y, by omega, h2, h3, h4⟩
  · rintro ⟨x, y, h1, h2, h3, h4⟩
    refine ⟨x, y, ?_, h2, h3, h4⟩
    by_cases e : x = i ∧ y = j
    · exact absurd (by rw [← e.1, ← e.2]; exact ⟨h4.1, h4.2.1⟩) b
    · omega
theorem Lp.yes {n : Nat} {P : Nat → Nat → Nat} {a c i j f : Nat} (h : Lp n P a c i j f) (hi : i < n) (hj : j < n) (b1 : a.testBit i = true) (b2 : c.testBit j = true) : Lp n P a c i (j + 1) (f ||| 2 ^ P i j) := fun z => by
  rw [Nat.testBit_or, Bool.or_eq_true, h z, Nat.testBit_two_pow, decide_eq_true_eq]
  constructor
  · rintro (⟨x, y, h1, h2, h3, h4⟩ | e)
    · exact ⟨x, y, by omega, h2, h3, h4⟩
    · exact ⟨i, j, by omega, hi, hj, b1, b2, e⟩
  · rintro ⟨x, y, h1, h2, h3, h4⟩
    by_cases e : x = i ∧ y = j
    · right; rw [← e.1, ← e.2]; exact h4.2.2
    · exact .inl ⟨x, y, by omega, h2, h3, h4⟩
theorem shl1 {n : Nat} : (1 : Int) * 2 ^ ((n : Nat) : Int).toNat = ((2 ^ n : Nat) : Int) := by rw [Int.one_mul, Int.toNat_natCast, Int.natCast_pow]; rfl
theorem rI_sh {n : Nat} {H : Hp} {Q : VK} (h : n ≤ 1000000) (k : Q (.int ((2 ^ n : Nat) : Int)) H) : rI CPow (fun i j => .int (i * 2 ^ j.toNat)) (.int 1) (.int ((n : Nat) : Int)) H Q := ⟨1, ((n : Nat) : Int), rfl, rfl, ⟨by omega, by omega, by decide⟩, by show Q (.int (1 * 2 ^ ((n : Nat) : Int).toNat)) H; rw [shl1]; exact k⟩

/-! ### lots of things -/
open OQ (TabX RowX SeqAt)
open RK (Gd Mo lotP Lb Fl FltAt)
def spProd (K : PySem.W.Frag) : Sp := fun vs H Q _ => ∃ (b : Addr) (n a c : Nat) (P : Nat → Nat → Nat), vs = [.ref b, .int a, .int c] ∧ TabX K H b n P ∧ n ≤ 4 ∧ (∀ x y, x < n → y < n → P x y < n) ∧ ∀ H', Same H H' → Q (.int (lotP n P a c : Nat)) H'
/-- the fault of products and one -/
def lotB (dp dn : PyData) : Bool := match RK.rowsOf dp with
  | some ds => decide (1 ≤ ds.length ∧ ds.length ≤ 4) && (RK.squareB ds.length dp && RK.belowB ds.length dn)
  | none => false
def moF (n : Nat) (P : Nat → Nat → Nat) (o : Nat) : Fl := (RK.oneF n P o).or (RK.groupF "product" n P)
def lotF (dp dn : PyData) : Fl := if lotB dp dn = true then moF (RK.cellsOf dp).length (RK.tabf dp) (RK.natOf dn) else some ("size", -1, -1, -1)
theorem lot_ok {dp dn : PyData} (h : lotB dp dn = true) : 1 ≤ (RK.cellsOf dp).length ∧ (RK.cellsOf dp).length ≤ 4 ∧ RK.squareB (RK.cellsOf dp).length dp = true ∧ RK.belowB (RK.cellsOf dp).length dn = true := by
  unfold lotB at h
  split at h
  · rename_i ds e
    have ec : RK.cellsOf dp = ds := by unfold RK.cellsOf; rw [e]; rfl
    simp only [Bool.and_eq_true, decide_eq_true_eq] at h
    rw [ec]
    exact ⟨h.1.1, h.1.2, h.2.1, h.2.2⟩
  · cases h
theorem mo_of {n : Nat} {P : Nat → Nat → Nat} {o : Nat} (on : o < n) (pn : ∀ a b, a < n → b < n → P a b < n) (h : moF n P o = none) : Mo n P o := by
  unfold moF at h
  rw [Option.or_eq_none_iff] at h
  refine ⟨on, pn, fun a ha => ?_, fun a b c ha hb hc => ?_⟩
  · have := List.findSome?_eq_none_iff.mp h.1 a (List.mem_range.mpr ha)
    exact RK.of_ite this
  · have h1 := List.findSome?_eq_none_iff.mp h.2 a (List.mem_range.mpr ha)
    have h2 := List.findSome?_eq_none_iff.mp h1 b (List.mem_range.mpr hb)
    exact RK.of_ite (List.findSome?_eq_none_iff.mp h2 c (List.mem_range.mpr hc))
theorem tru_bit {a i : Nat} : (((a / 2 ^ i % 2 : Nat) : Int) != 0) = a.testBit i := by
  rw [Nat.testBit_eq_decide_div_mod_eq, Bool.eq_iff_iff, bne_iff_ne, decide_eq_true_eq]
  omega
section
variable {P : Program} {w : World} {K : PySem.W.Frag} {mg : Str → Option Value} {base : Heap}
theorem ok_product_of_lots (T : Top K mg) : FnOk P w K mg base CX0 1 T.f_product_of_lots T.fd_product_of_lots ["products", "a", "b"] (spProd K) := by
  refine T.F_product_of_lots.ok sc_product_of_lots (fun vs H Q E h => ?_) (fun cdv A outer s H vs Q E hr h => ?_)
  · obtain ⟨b, n, a, c, P, rfl, _⟩ := h; rfl
  · obtain ⟨b, n, a, c, P, rfl, tb, n4, pn, k⟩ := h
    refine ⟨_, (pss_cons (ps_set (i := 3) sc_product_of_lots.nd rfl (Or.inl rfl) (pe_callTy OQ.cr_range1 (by rfl) T.n_range (by decide +kernel) (pa_cons (pe_callB RD.c_len (by rfl) T.n_len (by decide +kernel) (pa_cons (pv 0) pa_nil)) pa_nil)))
 (pss_cons (ps_set (i := 4) sc_product_of_lots.nd rfl (Or.inl rfl) pe_int)
 (pss_cons (ps_for PassesOwn.never rfl (OQ.pi_rngV (pv 3)) (pg_name (i := 5) sc_product_of_lots.nd rfl (Or.inl rfl))
 (pss_one (ps_for PassesOwn.never rfl (OQ.pi_rngV (pv 3)) (pg_name (i := 6) sc_product_of_lots.nd rfl (Or.inl rfl))
 (pss_one (ps_if (PW.pt (pw_and (pt_truth (pe_op op_odd (pe_op op_shr (pv 1) (pv 5)) pe_int) (fun _ => rfl)) (pw_and1 (pt_truth (pe_op op_odd (pe_op op_shr (pv 2) (pv 6)) pe_int) (fun _ => rfl)))))
 (pss_one (ps_set (i := 4) sc_product_of_lots.nd rfl (Or.inl rfl) (pe_op op_or (pv 4) (pe_op op_shl pe_int (pe_ix OQ.ix_seq (pe_ix OQ.ix_seq (pv 0) (pv 5) (fun _ _ => rfl)) (pv 6) (fun _ _ => rfl))))))
 pss_nil)))))
 (pss_one (ps_ret (pv 4)))))), ?_⟩
    walk_at "tx"
    refine tb.len ?_
    refine ⟨n, rfl, fun p hp => ?_⟩
    have sp := same_upd (o := HO.rng 0 n) hp
    have ep : upd H p (.rng 0 n) p = some (.rng 0 n) := upd_same
    replace tb := tb.same sp
    generalize upd H p (.rng 0 n) = H0 at *
    walk_at "tx"
    refine ⟨p, 0, n, rfl, ep, by omega, ?_⟩
    refine RD.f_range (lo := 0) (n := ((n : Int) - 0).toNat) (fun i σ' H' => H' = H0 ∧ ∃ (f : Nat) (v5 v6 : Option V), σ' = [some (.ref b), some (.int a), some (.int c), some (.ref p), some (.int f), v5, v6] ∧ Lp n P a c i 0 f) ⟨rfl, 0, _, _, rfl, .zero⟩ ?_ ?_
    · rintro i σ' H' hi' ⟨rfl, f, v5, v6, rfl, lp⟩
      have hi : i < n := by omega
      walk_at "tx"
      refine ⟨p, 0, n, rfl, ep, by omega, ?_⟩
      refine RD.f_range (lo := 0) (n := ((n : Int) - 0).toNat) (fun j σ' H'' => H'' = H' ∧ ∃ (f : Nat) (v6 : Option V), σ' = [some (.ref b), some (.int a), some (.int c), some (.ref p), some (.int f), some (.int (0 + i)), v6] ∧ Lp n P a c i j f) ⟨rfl, f, _, rfl, lp⟩ ?_ ?_
      · rintro j σ' H'' hj' ⟨rfl, f, v6, rfl, lp⟩
        have hj : j < n := by omega
        walk_at "tx"
        refine ⟨_, _, rfl, rfl, by omega, ?_⟩
        walk_at "tx"
        refine ⟨a / 2 ^ i, shr_nat, rfl, ?_⟩
        refine ⟨_, rfl, ?_⟩
        rw [tru_bit]
        cases b1 : a.testBit i with
        | false =>
          refine RD.d_iteF ?_
          walk_at "tx"
          exact ⟨rfl, f, _, rfl, lp.no fun z => by rw [b1] at z; cases z.1⟩
        | true =>
          refine RD.d_iteT ?_
          walk_at "tx"
          refine ⟨_, _, rfl, rfl, by omega, ?_⟩
          walk_at "tx"
          refine ⟨c / 2 ^ j, shr_nat, rfl, ?_⟩
          refine ⟨_, rfl, ?_⟩
          rw [tru_bit]
          cases b2 : c.testBit j with
          | false =>
            refine RD.d_iteF ?_
            walk_at "tx"
            exact ⟨rfl, f, _, rfl, lp.no fun z => by rw [b2] at z; cases z.2⟩
          | true =>
            refine RD.d_iteT ?_
            walk_at "tx"
            refine OQ.xT (m := i) tb (by omega) hi (fun r hr => ?_)
            walk_at "tx"
            refine OQ.xR (m := j) hr (by omega) hj ?_
            walk_at "tx"
            have pl := pn i j hi hj
            refine ⟨1, ((P i j : Nat) : Int), rfl, rfl, ⟨by omega, by omega, by decide⟩, ?_⟩
            walk_at "tx"
            rw [bor]
            exact ⟨rfl, _, _, rfl, lp.yes hi hj b1 b2⟩
      · rintro σ' H'' ⟨rfl, f, v6, rfl, lp⟩
        rw [show ((n : Int) - 0).toNat = n by omega] at lp
        exact ⟨rfl, f, _, _, rfl, lp.next⟩
    · rintro σ' H' ⟨rfl, f, v5, v6, rfl, lp⟩
      rw [show ((n : Int) - 0).toNat = n by omega] at lp
      walk_at "tx"
      rw [lp.end]; exact k _ sp
theorem ok_lots_fault (T : Top K mg) : FnOk P w K mg base CX0 8 T.f_lots_fault T.fd_lots_fault ["products", "one"] (spF fun vs H F => ∃ (vp vn : V) (dp dn : PyData), vs = [vp, vn] ∧ OQ.Dqd K H vp dp ∧ OQ.Dqd K H vn dn ∧ F = lotF dp dn) := by
  refine T.F_lots_fault.ok sc_lots_fault (fun vs H Q E h => ?_) (fun cdv A outer s H vs Q E hr h => ?_)
  · obtain ⟨F, ⟨vp, vn, dp, dn, rfl, _⟩, _⟩ := h; rfl
  · obtain ⟨F, ⟨vp, vn, dp, dn, rfl, hp, hn, eF⟩, k⟩ := h
    have bad : lotB dp dn = false → F = some (("size" : Str), -1, -1, -1) := fun z => by rw [eF]; unfold lotF; rw [if_neg (by rw [z]; decide)]
    refine ⟨_, (pss_cons (ps_if (PW.pt (pw_or (pt_not (pt_val (pe_call (ok_is_row T) (hr.mono (by decide)) (by rfl) T.g_is_row T.F_is_row.kp T.b_is_row .nil pass0 (pa_cons (pv 0) pa_nil)))) (pw_or1 (pt_not (pt_chain op_le op_le pe_int (pe_callB RD.c_len (by rfl) T.n_len (by decide +kernel) (pa_cons (pv 0) pa_nil)) (pe_glob (v := V.int 4) (by rfl) T.g_MOST_THINGS ⟨_, rfl⟩))))))
 (pss_one (ps_ret (pe_tup (pa_cons pe_str (pa_cons (pe_un un_neg pe_int) (pa_cons (pe_un un_neg pe_int) (pa_cons (pe_un un_neg pe_int) pa_nil)))))))
 pss_nil)
 (pss_cons (ps_if (PW.pt (pw_or (pt_not (pt_val (pe_call (ok_is_square T) (hr.mono (by decide)) (by rfl) T.g_is_square T.F_is_square.kp T.b_is_square .nil pass0 (pa_cons (pe_callB RD.c_len (by rfl) T.n_len (by decide +kernel) (pa_cons (pv 0) pa_nil)) (pa_cons (pv 0) pa_nil))))) (pw_or1 (pt_not (pt_val (pe_call (ok_is_below T) (hr.mono (by decide)) (by rfl) T.g_is_below T.F_is_below.kp T.b_is_below .nil pass0 (pa_cons (pe_callB RD.c_len (by rfl) T.n_len (by decide +kernel) (pa_cons (pv 0) pa_nil)) (pa_cons (pv 1) pa_nil))))))))
 (pss_one (ps_ret (pe_tup (pa_cons pe_str (pa_cons (pe_un un_neg pe_int) (pa_cons (pe_un un_neg pe_int) (pa_cons (pe_un un_neg pe_int) pa_nil)))))))
 pss_nil)
 (pss_one (ps_ret (pe_orT (pe_call (ok_one_fault T) (hr.mono (by decide)) (by rfl) T.g_one_fault T.F_one_fault.kp T.b_one_fault .nil pass0 (pa_cons (pv 0) (pa_cons (pv 1) pa_nil))) (pe_one (pe_call (ok_grouping_fault T) (hr.mono (by decide)) (by rfl) T.g_grouping_fault T.F_grouping_fault.kp T.b_grouping_fault .nil pass0 (pa_cons pe_str (pa_cons (pv 0) pa_nil))))))))), ?_⟩
    walk_at "tx"
    obtain ⟨t, ty, ek⟩ := OQ.dqd_isRow hp
    refine ⟨vp, t, _, rfl, ty, ek, fun H1 s1 => ?_⟩
    replace hp := OQ.Dqd.same s1 hp
    replace hn := OQ.Dqd.same s1 hn
    cases er : RK.rowsOf dp with
    | none =>
      refine ⟨false, rfl, RD.d_iteNF ?_⟩
      walk_at "tx"
      exact ret4 k s1 (bad (by unfold lotB; rw [er]))
    | some ds =>
      have eB : lotB dp dn = (decide (1 ≤ ds.length ∧ ds.length ≤ 4) && (RK.squareB ds.length dp && RK.belowB ds.length dn)) := by unfold lotB; rw [er]
      have ec : RK.cellsOf dp = ds := by unfold RK.cellsOf; rw [er]; rfl
      rw [eB] at bad
      refine ⟨true, rfl, RD.d_iteNT ?_⟩
      obtain ⟨a, xs, rfl, sa, da⟩ := OQ.dqd_row hp er
      have len := OQ.dqdAll_len da
      walk_at "tx"
      refine sa.len ?_
      walk_at "tx"
      rw [len]
      refine RD.iteD (fun c1 => ?_) (fun c1 => ?_)
      · walk_at "tx"
        refine RD.iteN (fun c2 => ?_) (fun c2 => ?_)
        · walk_at "tx"
          exact ret4 k s1 (bad (by rw [decide_eq_false (by omega), Bool.false_and]))
        rw [decide_eq_true (by omega : 1 ≤ ds.length ∧ ds.length ≤ 4), Bool.true_and] at bad eB
        walk_at "tx"
        refine sa.len ?_
        walk_at "tx"
        rw [len]
        refine ⟨ds.length, _, dp, rfl, by omega, hp, fun H2 s2 => ?_⟩
        have s12 := s1.trans s2
        replace hp := OQ.Dqd.same s2 hp
        replace hn := OQ.Dqd.same s2 hn
        replace sa := OQ.SeqAt.same sa s2
        cases e1 : RK.squareB ds.length dp with
        | false =>
          refine ⟨false, rfl, RD.d_iteNF ?_⟩
          walk_at "tx"
          exact ret4 k s12 (bad (by rw [e1, Bool.false_and]))
        | true =>
          rw [e1, Bool.true_and] at bad eB
          refine ⟨true, rfl, RD.d_iteNT ?_⟩
          walk_at "tx"
          refine sa.len ?_
          walk_at "tx"
          rw [len]
          refine ⟨ds.length, _, _, rfl, Bl.dq hn, ?_⟩
          cases e4 : RK.belowB ds.length dn with
          | false =>
            refine ⟨false, rfl, RD.d_iteNF ?_⟩
            walk_at "tx"
            exact ret4 k s12 (bad e4)
          | true =>
            refine ⟨true, rfl, RD.d_iteNT ?_⟩
            have eF : F = moF ds.length (RK.tabf dp) (RK.natOf dn) := by rw [eF]; unfold lotF; rw [if_pos (eB.trans e4), ec]
            obtain ⟨b, eb, tp, wp⟩ := OQ.dqd_tab hp e1
            cases eb
            obtain ⟨rfl, on⟩ := below_nat hn e4
            unfold moF at eF
            walk_at "tx"
            refine d_orT ?_
            walk_at "tx"
            refine ⟨_, ⟨a, ds.length, RK.tabf dp, RK.natOf dn, rfl, tp, on, by omega, rfl⟩, fun v3 H3 s3 f3 => orF f3 eF (fun f => k _ _ (s12.trans s3) f) (fun eF => ?_)⟩
            walk_at "tx"
            exact ⟨_, ⟨_, a, ds.length, RK.tabf dp, rfl, tp.same s3, by omega, wp, rfl⟩, fun v H' s' f => k _ _ ((s12.trans s3).trans s') (by rw [eF]; exact f)⟩
      · walk_at "tx"
        exact ret4 k s1 (bad (by rw [decide_eq_false (by omega), Bool.false_and]))
/-- lots of products and one: the reckoning, or the fault -/
def spLots (K : PySem.W.Frag) (C CB : Addr) : Sp := fun vs H Q E => ∃ (vp vn : V) (dp dn : PyData), vs = [vp, vn] ∧ OQ.Dqd K H vp dp ∧ OQ.Dqd K H vn dn ∧
  (∀ n P o, lotF dp dn = none → Mo n P o → 1 ≤ n → n ≤ 4 → (∀ i j, i < n → j < n → P i j = RK.tabf dp i j) → (RK.cellsOf dp).length = n → RK.natOf dn = o → ∀ x H', Same H H' → RekF K C H' x (2 ^ n) (fun a b => a ||| b) (lotP n P) 0 (2 ^ o) → Q (.ref x) H') ∧
  (∀ f, lotF dp dn = some f → ∀ u d H', Same H H' → FltAt H' u (some f) → H' d = none → E (.ref CB) (some d) (upd H' d (ErrD u)))
theorem same_made {H : Hp} {x dx C : Addr} (nx : H x = none) (ndx : H dx = none) (ne : dx ≠ x) : Same H (upd (upd H dx (.own x)) x (.ins C dx [])) := same_put (same_upd ndx) nx
theorem ok_lots (T : Top K mg) : FnOk P w K mg base (L2.CX P w) 14 T.f_lots T.fd_lots ["products", "one"] (spLots K T.C_Reckoning T.C_BadReckoning) := by
  refine T.F_lots.okX sc_lots (fun vs H Q E h => ?_) (fun cdv A outer s H vs Q E hr h => ?_)
  · obtain ⟨vp, vn, dp, dn, rfl, _⟩ := h; rfl
  · obtain ⟨vp, vn, dp, dn, rfl, hp, hn, k, kE⟩ := h
    refine ⟨_, (pss_cons (ps_set (i := 2) sc_lots.nd rfl (Or.inl rfl) (pe_call (ok_lots_fault T) (hr.mono (by decide)) (by rfl) T.g_lots_fault T.F_lots_fault.kp T.b_lots_fault .nil pass0 (pa_cons (pv 0) (pa_cons (pv 1) pa_nil))))
 (pss_cons (ps_if (pt_cmpR RD.o_notN (pv 2) pe_non (nomark _))
 (pss_one (ps_raise rfl (takes_of rfl rfl rfl rfl) (pmk_oex T.oex_BadReckoning T.i_BadReckoning T.tI (ok_WayError__init T) (hr.mono (by decide)) T.b_WayError__init .nil pass0 (by rfl) T.g_BadReckoning (pa_cons (pv 2) pa_nil))))
 pss_nil)
 (pss_cons (ps_set (i := 3) sc_lots.nd rfl (Or.inr rfl) (pe_callTy OQ.cr_range1 (by rfl) T.n_range (by decide +kernel) (pa_cons (pe_op op_shl pe_int (pe_callB RD.c_len (by rfl) T.n_len (by decide +kernel) (pa_cons (pv 0) pa_nil))) pa_nil)))
 (pss_one (ps_ret (pe_make T.M_Reckoning (ok_Reckoning__init T) (hr.mono (by decide)) (by rfl) T.g_Reckoning T.b_Reckoning__init .nil (passes_call (takes_of rfl rfl rfl rfl) (fun _ _ _ _ h => h)) (pa_cons (pe_lc (own := [("a", 4)]) (g := (gName 4)) (tt := tYes) rfl sc_lots.nd (OQ.pi_rngV (pv 3)) (blkOk_by (own := [("a", 4)]) (N := ["products", "one", "fault", "every", "a", "b"]) (sc := defScope s_lots) (by decide +kernel)) (fun _ _ _ _ _ => (pg_name (i := 4) sc_lots.nd rfl (by first | exact Or.inl rfl | exact Or.inr rfl))) (fun _ _ _ _ _ => pts_nil) (fun _ _ _ _ _ => (pe_lc (own := [("b", 5)]) (g := (gName 5)) (tt := tYes) rfl sc_lots.nd (OQ.pi_rngV (pv 3)) (blkOk_by (own := [("b", 5)]) (N := ["products", "one", "fault", "every", "a", "b"]) (sc := _) (by kernel_rfl)) (fun _ _ _ _ _ => (pg_name (i := 5) sc_lots.nd rfl (by first | exact Or.inl rfl | exact Or.inr rfl))) (fun _ _ _ _ _ => pts_nil) (fun _ _ _ _ _ => (pe_op op_or (pv 4) (pv 5)))))) (pa_cons (pe_lc (own := [("a", 4)]) (g := (gName 4)) (tt := tYes) rfl sc_lots.nd (OQ.pi_rngV (pv 3)) (blkOk_by (own := [("a", 4)]) (N := ["products", "one", "fault", "every", "a", "b"]) (sc := defScope s_lots) (by decide +kernel)) (fun _ _ _ _ _ => (pg_name (i := 4) sc_lots.nd rfl (by first | exact Or.inl rfl | exact Or.inr rfl))) (fun _ _ _ _ _ => pts_nil) (fun _ _ _ _ _ => (pe_lc (own := [("b", 5)]) (g := (gName 5)) (tt := tYes) rfl sc_lots.nd (OQ.pi_rngV (pv 3)) (blkOk_by (own := [("b", 5)]) (N := ["products", "one", "fault", "every", "a", "b"]) (sc := _) (by kernel_rfl)) (fun _ _ _ _ _ => (pg_name (i := 5) sc_lots.nd rfl (by first | exact Or.inl rfl | exact Or.inr rfl))) (fun _ _ _ _ _ => pts_nil) (fun _ _ _ _ _ => (pe_call (ok_product_of_lots T) (hr.mono (by decide)) (by rfl) T.g_product_of_lots T.F_product_of_lots.kp T.b_product_of_lots .nil pass0 (pa_cons (pv 0) (pa_cons (pv 4) (pa_cons (pv 5) pa_nil)))))))) (pa_cons pe_int (pa_cons (pe_op op_shl pe_int (pv 1)) pa_nil)))))))))), ?_⟩
    walk_at "tx"
    refine ⟨_, ⟨vp, vn, dp, dn, rfl, hp, hn, rfl⟩, fun fv H1 s1 f1 => ?_⟩
    cases eF : lotF dp dn with
    | some f =>
      rw [eF] at f1
      obtain ⟨w', a', b', c'⟩ := f
      obtain ⟨p, rfl, hp'⟩ := id f1
      walk_at "tx"
      exact d_mkO T.oex_BadReckoning T.v_BadReckoning fun d hd => kE _ eF _ d H1 s1 f1 hd
    | none =>
      rw [eF] at f1
      cases f1
      have eB : lotB dp dn = true := by
        cases e : lotB dp dn with
        | true => rfl
        | false => unfold lotF at eF; rw [e] at eF; cases eF
      obtain ⟨n1, n4, qp, qn⟩ := lot_ok eB
      have eM : moF (RK.cellsOf dp).length (RK.tabf dp) (RK.natOf dn) = none := by unfold lotF at eF; rw [if_pos eB] at eF; exact eF
      replace hp := OQ.Dqd.same s1 hp
      replace hn := OQ.Dqd.same s1 hn
      obtain ⟨b, rfl, tp, wp⟩ := OQ.dqd_tab hp qp
      obtain ⟨rfl, on⟩ := below_nat hn qn
      have mo := mo_of on wp eM
      have k := k _ _ _ eF mo n1 n4 (fun _ _ _ _ => rfl) rfl rfl
      clear eM eB qp qn hp hn kE eF
      generalize (RK.cellsOf dp).length = n at *
      generalize RK.tabf dp = P' at *
      generalize RK.natOf dn = o at *
      have gd := mo.lots
      have n16 : 2 ^ n ≤ 16 := Nat.pow_le_pow_right (n := 2) (by omega) n4
      have n2 : 2 ≤ 2 ^ n := Nat.pow_le_pow_right (n := 2) (i := 1) (by omega) n1
      walk_at "tx"
      refine tp.len ?_
      walk_at "tx"
      refine ⟨1, (n : Nat), rfl, rfl, ⟨by omega, by omega, by decide⟩, ?_⟩
      walk_at "tx"
      have en : (1 : Int) * 2 ^ ((n : Nat) : Int).toNat = ((2 ^ n : Nat) : Int) := by rw [Int.one_mul, Int.toNat_natCast, Int.natCast_pow]; rfl
      refine ⟨((2 ^ n : Nat) : Int), by show [V.int (1 * 2 ^ ((n : Nat) : Int).toNat)] = _; rw [en], fun rg hg => ?_⟩
      clear en
      generalize 2 ^ n = N at *
      have sg := same_upd (o := HO.rng 0 N) hg
      have eg : upd H1 rg (.rng 0 N) rg = some (.rng 0 N) := upd_same
      replace s1 := s1.trans sg
      replace tp := tp.same sg
      clear sg hg
      generalize upd H1 rg (.rng 0 N) = H2 at *
      walk_at "tx"
      refine ⟨rg, 0, N, rfl, eg, by omega, ?_⟩
      intro D hD
      refine lc_range (lo := 0) (n := ((N : Int) - 0).toNat) (fun i H' => Same H2 H' ∧ RowsN H' D N i (fun a b => a ||| b)) ⟨same_upd hD, rowsN_zero⟩ ?_ ?_
      · rintro i H' hi' ⟨s2, r1⟩
        have hi : i < N := by omega
        walk_at "tx"
        refine ⟨rg, 0, N, rfl, s2 _ _ eg, by omega, ?_⟩
        intro D2 hD2
        refine lc_range (lo := 0) (n := ((N : Int) - 0).toNat) (fun j H'' => Same H' H'' ∧ H'' D2 = some (.lst ((List.range j).map fun c => V.int ((i ||| c : Nat) : Int)))) ⟨same_upd hD2, upd_same⟩ ?_ ?_
        · rintro j H'' hj' ⟨s3, eD2⟩
          have hj : j < N := by omega
          walk_at "tx"
          exact rowPutN (g := fun c => i ||| c) hD2 s3 (by omega) eD2 (by rw [Int.zero_add, Int.zero_add, bitOr_nn (Int.natCast_nonneg _) (Int.natCast_nonneg _), Int.toNat_natCast, Int.toNat_natCast])
        · rintro H'' ⟨s3, eD2⟩
          rw [show ((N : Int) - 0).toNat = N by omega] at eD2
          exact rowsN_step hD s2 r1 hD2 s3 (by omega) eD2
      rintro H3 ⟨s3, r3⟩
      rw [show ((N : Int) - 0).toNat = N by omega] at r3
      have tj : TabXL H3 D N (fun a b => a ||| b) := rowsN_end r3
      replace tp := tp.same s3
      replace eg := s3 _ _ eg
      replace s1 := s1.trans s3
      clear r3 s3 hD
      walk_at "tx"
      refine ⟨rg, 0, N, rfl, eg, by omega, ?_⟩
      intro D3 hD
      refine lc_range (lo := 0) (n := ((N : Int) - 0).toNat) (fun i H' => Same H3 H' ∧ RowsN H' D3 N i (lotP n P')) ⟨same_upd hD, rowsN_zero⟩ ?_ ?_
      · rintro i H' hi' ⟨s2, r1⟩
        have hi : i < N := by omega
        walk_at "tx"
        refine ⟨rg, 0, N, rfl, s2 _ _ eg, by omega, ?_⟩
        intro D2 hD2
        refine lc_range (lo := 0) (n := ((N : Int) - 0).toNat) (fun j H'' => Same H' H'' ∧ H'' D2 = some (.lst ((List.range j).map fun c => V.int ((lotP n P' i c : Nat) : Int)))) ⟨same_upd hD2, upd_same⟩ ?_ ?_
        · rintro j H'' hj' ⟨s3, eD2⟩
          have hj : j < N := by omega
          walk_at "tx"
          refine ⟨b, n, i, j, P', by rw [Int.zero_add, Int.zero_add]; rfl, (tp.same s2).same s3, n4, wp, fun H4 s4 => ?_⟩
          exact rowPutN (g := fun c => lotP n P' i c) hD2 (s3.trans s4) (by omega) (s4 _ _ eD2) rfl
        · rintro H'' ⟨s3, eD2⟩
          rw [show ((N : Int) - 0).toNat = N by omega] at eD2
          exact rowsN_step hD s2 r1 hD2 s3 (by omega) eD2
      rintro H4 ⟨s4, r4⟩
      rw [show ((N : Int) - 0).toNat = N by omega] at r4
      have tm : TabXL H4 D3 N (lotP n P') := rowsN_end r4
      replace tj := tj.same s4
      replace s1 := s1.trans s4
      walk_at "tx"
      refine ⟨1, (o : Nat), rfl, rfl, ⟨by omega, by omega, by decide⟩, ?_⟩
      have eo : (1 : Int) * 2 ^ ((o : Nat) : Int).toNat = ((2 ^ o : Nat) : Int) := by rw [Int.one_mul, Int.toNat_natCast, Int.natCast_pow]; rfl
      walk_at "tx"
      dsimp only
      rw [eo]
      intro x dx nx ndx ne
      have s5 := same_made (C := T.C_Reckoning) nx ndx ne
      refine spReck_good (n := N) (z := 0) (o := 2 ^ o) (J := fun a b => a ||| b) (M := lotP n P') upd_same (tj.same s5).x (tm.same s5).x n2 n16 gd.zn gd.on gd.jn gd.mn (fun e H6 kx f => ⟨rfl, ?_⟩) (fun f e u d H' s' fl hd => ?_)
      · exact k x H6 (fun b u e => kx _ _ (ne_of_none (s1 _ _ e) nx) (s5 _ _ (s1 _ _ e))) f
      · rw [gd.rest] at e; cases e
end

/-! ### the hand -/
theorem But.kx {h : Addr} {H H' : Hp} (b : But h H H') : Kx h H H' := fun c o n e => by rw [b c n]; exact e
theorem Kx.rfl' {h : Addr} {H : Hp} : Kx h H H := fun _ _ _ e => e
theorem HandAt.ne {H : Hp} {h c a : Addr} (x : HandAt H h c) (e : H a = none) : a ≠ h ∧ a ≠ c := by
  obtain ⟨cs, p, q, m, n, e1, e2, _⟩ := x
  refine ⟨fun z => ?_, fun z => ?_⟩
  · rw [z, e1] at e; cases e
  · rw [z, e2] at e; cases e
theorem HandAt.put {H : Hp} {h c a : Addr} {o : HO} (x : HandAt H h c) (n1 : a ≠ h) (n2 : a ≠ c) : HandAt (upd H a o) h c := by
  obtain ⟨cs, p, q, m, n, e1, e2, ne, hp⟩ := x
  exact ⟨cs, p, q, m, n, by rw [upd_ne n1.symm]; exact e1, by rw [upd_ne n2.symm]; exact e2, ne, hp⟩

/-! ### the law's things -/
open OQ (TabX RowX SeqAt)
theorem tab_same {H H' : Hp} {a : Addr} {n : Nat} {f : Nat → Nat → Nat} (t : TabXL H a n f) (s : Same H H') : TabXL H' a n f := t.same s
/-- the rows at these addresses hold these numbers -/
def RowsAre (H : Hp) : List Addr → List (List Nat) → Prop
  | [], [] => True
  | q :: qs, c :: cs => H q = some (.lst (c.map fun (j : Nat) => V.int j)) ∧ RowsAre H qs cs
  | _, _ => False
theorem RowsAre.get {H : Hp} : ∀ {qs : List Addr} {css : List (List Nat)}, RowsAre H qs css → ∀ {i : Nat} {r : Addr}, qs[i]? = some r → ∃ c, css[i]? = some c ∧ H r = some (.lst (c.map fun (j : Nat) => V.int j))
  | [], _, _, i, r, e => by simp at e
  | q :: qs, [], h, _, _, _ => h.elim
  | q :: qs, c :: cs, h, 0, r, e => by cases e; exact ⟨c, rfl, h.1⟩
  | q :: qs, c :: cs, h, i + 1, r, e => h.2.get (by simpa using e)
theorem tab_lit {H : Hp} {p : Addr} {qs : List Addr} {css : List (List Nat)} {n : Nat} (e : H p = some (.lst (qs.map V.ref))) (l1 : qs.length = n) (_ : css.length = n) (l3 : ∀ c ∈ css, c.length = n) (h : RowsAre H qs css) : TabXL H p n (fun i j => (css.getD i []).getD j 0) := by
  refine ⟨qs, l1, e, fun i r q => ?_⟩
  obtain ⟨c, ec, er⟩ := h.get q
  have lc := l3 c (List.mem_of_getElem? ec)
  rw [er]
  congr 2
  apply List.ext_getElem?
  intro j
  rw [List.getElem?_map, List.getElem?_map]
  by_cases hj : j < n
  · have e2 : css.getD i [] = c := by rw [List.getD_eq_getElem?_getD, ec]; rfl
    rw [List.getElem?_range hj, List.getElem?_eq_getElem (by omega)]
    show some (V.int (c[j] : Nat)) = some (V.int (((css.getD i []).getD j 0 : Nat) : Int))
    rw [e2, List.getD_eq_getElem?_getD, List.getElem?_eq_getElem (by omega)]; rfl
  · rw [List.getElem?_eq_none (by omega : c.length ≤ j), List.getElem?_eq_none (by rw [List.length_range]; omega)]; rfl
/-- a pair of products and one -/
def Th (H : Hp) (v : V) : Prop := ∃ (t b : Addr) (n o : Nat) (P : Nat → Nat → Nat), v = .ref t ∧ H t = some (.tup [.ref b, .int o]) ∧ TabXL H b n P ∧ 1 ≤ n ∧ n ≤ 4 ∧ o < n ∧ ∀ a, a < n → ∀ b, b < n → P a b < n
theorem Th.same {H H' : Hp} {v : V} (h : Th H v) (s : Same H H') : Th H' v := by
  obtain ⟨t, b, n, o, P, e, et, tb, r⟩ := h
  exact ⟨t, b, n, o, P, e, s _ _ et, tb.same s, r⟩
theorem Kx.tab4 {H H' : Hp} {h c a : Addr} {n : Nat} {f : Nat → Nat → Nat} (k : Kx h H H') (x : HandAt H h c) (n4 : n ≤ 4) (s : TabXL H a n f) : TabXL H' a n f := by
  obtain ⟨rs, l, e, q⟩ := s
  obtain ⟨cs, p, q', m, kk, e1, _⟩ := x
  refine ⟨rs, l, k _ _ (fun z => ?_) e, fun i r z => k _ _ (fun y => ?_) (q i r z)⟩
  · subst z
    rw [e] at e1
    have := congrArg List.length (HO.lst.inj (Option.some.inj e1))
    simp [handV] at this
    omega
  · have qr := q i r z
    subst y
    rw [qr] at e1
    have := congrArg List.length (HO.lst.inj (Option.some.inj e1))
    simp [handV] at this
    omega
theorem Th.kx {H H' : Hp} {h c : Addr} {v : V} (t : Th H v) (k : Kx h H H') (x : HandAt H h c) : Th H' v := by
  obtain ⟨t, b, n, o, P, e, et, tb, n1, n4, r⟩ := t
  refine ⟨t, b, n, o, P, e, k _ _ (fun z => ?_) et, k.tab4 x n4 tb, n1, n4, r⟩
  obtain ⟨cs, p, q', m, kk, e1, _⟩ := x
  subst z
  rw [et] at e1; cases e1
def spThings : Sp := fun vs H Q _ => ∃ (h c : Addr), vs = [.ref h] ∧ HandAt H h c ∧ ∀ (v : V) (H' : Hp), HandAt H' h c → Kx h H H' → Th H' v → Q v H'
section
variable {P : Program} {w : World} {K : PySem.W.Frag} {mg : Str → Option Value} {base : Heap} {H : Hp}
set_option maxRecDepth 20000 in
theorem ok_law_things (T : Top K mg) : FnOk P w K mg base CX0 2 T.f_law_things T.fd_law_things ["hand"] spThings := by
  refine T.F_law_things.ok sc_law_things (fun vs H Q E h => ?_) (fun cdv A outer s H vs Q E hr h => ?_)
  · obtain ⟨h, c, rfl, _⟩ := h; rfl
  · obtain ⟨h, c, rfl, hT, k⟩ := h
    refine ⟨_, (pss_cons (ps_set (i := 1) sc_law_things.nd rfl (Or.inl rfl) (pe_lst (pa_cons (pe_tup (pa_cons (pe_lst (pa_cons (pe_lst (pa_cons pe_int pa_nil)) pa_nil)) (pa_cons pe_int pa_nil))) (pa_cons (pe_tup (pa_cons (pe_lst (pa_cons (pe_lst (pa_cons pe_int (pa_cons pe_int pa_nil))) (pa_cons (pe_lst (pa_cons pe_int (pa_cons pe_int pa_nil))) pa_nil))) (pa_cons pe_int pa_nil))) (pa_cons (pe_tup (pa_cons (pe_lst (pa_cons (pe_lst (pa_cons pe_int (pa_cons pe_int pa_nil))) (pa_cons (pe_lst (pa_cons pe_int (pa_cons pe_int pa_nil))) pa_nil))) (pa_cons pe_int pa_nil))) (pa_cons (pe_tup (pa_cons (pe_lst (pa_cons (pe_lst (pa_cons pe_int (pa_cons pe_int (pa_cons pe_int pa_nil)))) (pa_cons (pe_lst (pa_cons pe_int (pa_cons pe_int (pa_cons pe_int pa_nil)))) (pa_cons (pe_lst (pa_cons pe_int (pa_cons pe_int (pa_cons pe_int pa_nil)))) pa_nil)))) (pa_cons pe_int pa_nil))) pa_nil))))))
 (pss_cons (ps_set (i := 1) sc_law_things.nd rfl (Or.inl rfl) (pe_op op_cat (pv 1) (pe_lst (pa_cons (pe_tup (pa_cons (pe_lst (pa_cons (pe_lst (pa_cons pe_int (pa_cons pe_int (pa_cons pe_int pa_nil)))) (pa_cons (pe_lst (pa_cons pe_int (pa_cons pe_int (pa_cons pe_int pa_nil)))) (pa_cons (pe_lst (pa_cons pe_int (pa_cons pe_int (pa_cons pe_int pa_nil)))) pa_nil)))) (pa_cons pe_int pa_nil))) (pa_cons (pe_tup (pa_cons (pe_lst (pa_cons (pe_lst (pa_cons pe_int (pa_cons pe_int (pa_cons pe_int pa_nil)))) (pa_cons (pe_lst (pa_cons pe_int (pa_cons pe_int (pa_cons pe_int pa_nil)))) (pa_cons (pe_lst (pa_cons pe_int (pa_cons pe_int (pa_cons pe_int pa_nil)))) pa_nil)))) (pa_cons pe_int pa_nil))) pa_nil)))))
 (pss_cons (ps_set (i := 1) sc_law_things.nd rfl (Or.inl rfl) (pe_op op_cat (pv 1) (pe_lst (pa_cons (pe_tup (pa_cons (pe_lst (pa_cons (pe_lst (pa_cons pe_int (pa_cons pe_int (pa_cons pe_int (pa_cons pe_int pa_nil))))) (pa_cons (pe_lst (pa_cons pe_int (pa_cons pe_int (pa_cons pe_int (pa_cons pe_int pa_nil))))) (pa_cons (pe_lst (pa_cons pe_int (pa_cons pe_int (pa_cons pe_int (pa_cons pe_int pa_nil))))) (pa_cons (pe_lst (pa_cons pe_int (pa_cons pe_int (pa_cons pe_int (pa_cons pe_int pa_nil))))) pa_nil))))) (pa_cons pe_int pa_nil))) pa_nil))))
 (pss_cons (ps_set (i := 1) sc_law_things.nd rfl (Or.inl rfl) (pe_op op_cat (pv 1) (pe_lst (pa_cons (pe_tup (pa_cons (pe_lst (pa_cons (pe_lst (pa_cons pe_int (pa_cons pe_int (pa_cons pe_int (pa_cons pe_int pa_nil))))) (pa_cons (pe_lst (pa_cons pe_int (pa_cons pe_int (pa_cons pe_int (pa_cons pe_int pa_nil))))) (pa_cons (pe_lst (pa_cons pe_int (pa_cons pe_int (pa_cons pe_int (pa_cons pe_int pa_nil))))) (pa_cons (pe_lst (pa_cons pe_int (pa_cons pe_int (pa_cons pe_int (pa_cons pe_int pa_nil))))) pa_nil))))) (pa_cons pe_int pa_nil))) pa_nil))))
 (pss_cons (ps_set (i := 1) sc_law_things.nd rfl (Or.inl rfl) (pe_op op_cat (pv 1) (pe_lst (pa_cons (pe_tup (pa_cons (pe_lst (pa_cons (pe_lst (pa_cons pe_int (pa_cons pe_int (pa_cons pe_int (pa_cons pe_int pa_nil))))) (pa_cons (pe_lst (pa_cons pe_int (pa_cons pe_int (pa_cons pe_int (pa_cons pe_int pa_nil))))) (pa_cons (pe_lst (pa_cons pe_int (pa_cons pe_int (pa_cons pe_int (pa_cons pe_int pa_nil))))) (pa_cons (pe_lst (pa_cons pe_int (pa_cons pe_int (pa_cons pe_int (pa_cons pe_int pa_nil))))) pa_nil))))) (pa_cons pe_int pa_nil))) pa_nil))))
 (pss_one (ps_ret (pe_ix ix_list (pv 1) (pe_call (ok_law_draw T) (hr.mono (by decide)) (by rfl) T.g_law_draw T.F_law_draw.kp T.b_law_draw .nil pass0 (pa_cons (pv 0) (pa_cons pe_int pa_nil))) (fun _ _ => rfl))))))))), ?_⟩
    walk_at "tx"
    have s0 : Same H H := fun _ _ e => e
    refine ⟨by show 1 ≤ sizeLine; decide, fun r1_0 hr1_0 => ?_⟩
    have sr1_0 := same_upd (o := HO.lst [.int 0]) hr1_0
    have er1_0 : (upd H r1_0 (HO.lst [.int 0])) r1_0 = some (HO.lst [.int 0]) := upd_same
    replace s0 := s0.trans sr1_0
    clear sr1_0 hr1_0
    generalize (upd H r1_0 (HO.lst [.int 0])) = H1 at *
    walk_at "tx"
    refine ⟨by show 1 ≤ sizeLine; decide, fun p1 hp1 => ?_⟩
    have sp1 := same_upd (o := HO.lst [.ref r1_0]) hp1
    have ep1 : (upd H1 p1 (HO.lst [.ref r1_0])) p1 = some (HO.lst [.ref r1_0]) := upd_same
    replace er1_0 := sp1 _ _ er1_0
    replace s0 := s0.trans sp1
    clear sp1 hp1
    generalize (upd H1 p1 (HO.lst [.ref r1_0])) = H2 at *
    walk_at "tx"
    refine ⟨by show 2 ≤ sizeLine; decide, fun w1 hw1 => ?_⟩
    have sw1 := same_upd (o := HO.tup [.ref p1, .int 0]) hw1
    have ew1 : (upd H2 w1 (HO.tup [.ref p1, .int 0])) w1 = some (HO.tup [.ref p1, .int 0]) := upd_same
    replace er1_0 := sw1 _ _ er1_0
    replace ep1 := sw1 _ _ ep1
    replace s0 := s0.trans sw1
    clear sw1 hw1
    generalize (upd H2 w1 (HO.tup [.ref p1, .int 0])) = H3 at *
    walk_at "tx"
    have t1 : Th H3 (.ref w1) := ⟨w1, p1, 1, 0, _, rfl, ew1, tab_lit (qs := [r1_0]) (css := [[0]]) ep1 rfl rfl (by decide) (⟨er1_0, trivial⟩), by omega, by omega, by omega, by decide⟩
    clear er1_0 ep1 ew1
    refine ⟨by show 2 ≤ sizeLine; decide, fun r2_0 hr2_0 => ?_⟩
    have sr2_0 := same_upd (o := HO.lst [.int 0, .int 1]) hr2_0
    have er2_0 : (upd H3 r2_0 (HO.lst [.int 0, .int 1])) r2_0 = some (HO.lst [.int 0, .int 1]) := upd_same
    replace t1 := t1.same sr2_0
    replace s0 := s0.trans sr2_0
    clear sr2_0 hr2_0
    generalize (upd H3 r2_0 (HO.lst [.int 0, .int 1])) = H4 at *
    walk_at "tx"
    refine ⟨by show 2 ≤ sizeLine; decide, fun r2_1 hr2_1 => ?_⟩
    have sr2_1 := same_upd (o := HO.lst [.int 1, .int 1]) hr2_1
    have er2_1 : (upd H4 r2_1 (HO.lst [.int 1, .int 1])) r2_1 = some (HO.lst [.int 1, .int 1]) := upd_same
    replace er2_0 := sr2_1 _ _ er2_0
    replace t1 := t1.same sr2_1
    replace s0 := s0.trans sr2_1
    clear sr2_1 hr2_1
    generalize (upd H4 r2_1 (HO.lst [.int 1, .int 1])) = H5 at *
    walk_at "tx"
    refine ⟨by show 2 ≤ sizeLine; decide, fun p2 hp2 => ?_⟩
    have sp2 := same_upd (o := HO.lst [.ref r2_0, .ref r2_1]) hp2
    have ep2 : (upd H5 p2 (HO.lst [.ref r2_0, .ref r2_1])) p2 = some (HO.lst [.ref r2_0, .ref r2_1]) := upd_same
    replace er2_0 := sp2 _ _ er2_0
    replace er2_1 := sp2 _ _ er2_1
    replace t1 := t1.same sp2
    replace s0 := s0.trans sp2
    clear sp2 hp2
    generalize (upd H5 p2 (HO.lst [.ref r2_0, .ref r2_1])) = H6 at *
    walk_at "tx"
    refine ⟨by show 2 ≤ sizeLine; decide, fun w2 hw2 => ?_⟩
    have sw2 := same_upd (o := HO.tup [.ref p2, .int 0]) hw2
    have ew2 : (upd H6 w2 (HO.tup [.ref p2, .int 0])) w2 = some (HO.tup [.ref p2, .int 0]) := upd_same
    replace er2_0 := sw2 _ _ er2_0
    replace er2_1 := sw2 _ _ er2_1
    replace ep2 := sw2 _ _ ep2
    replace t1 := t1.same sw2
    replace s0 := s0.trans sw2
    clear sw2 hw2
    generalize (upd H6 w2 (HO.tup [.ref p2, .int 0])) = H7 at *
    walk_at "tx"
    have t2 : Th H7 (.ref w2) := ⟨w2, p2, 2, 0, _, rfl, ew2, tab_lit (qs := [r2_0, r2_1]) (css := [[0, 1], [1, 1]]) ep2 rfl rfl (by decide) (⟨er2_0, er2_1, trivial⟩), by omega, by omega, by omega, by decide⟩
    clear er2_0 er2_1 ep2 ew2
    refine ⟨by show 2 ≤ sizeLine; decide, fun r3_0 hr3_0 => ?_⟩
    have sr3_0 := same_upd (o := HO.lst [.int 0, .int 1]) hr3_0
    have er3_0 : (upd H7 r3_0 (HO.lst [.int 0, .int 1])) r3_0 = some (HO.lst [.int 0, .int 1]) := upd_same
    replace t1 := t1.same sr3_0
    replace t2 := t2.same sr3_0
    replace s0 := s0.trans sr3_0
    clear sr3_0 hr3_0
    generalize (upd H7 r3_0 (HO.lst [.int 0, .int 1])) = H8 at *
    walk_at "tx"
    refine ⟨by show 2 ≤ sizeLine; decide, fun r3_1 hr3_1 => ?_⟩
    have sr3_1 := same_upd (o := HO.lst [.int 1, .int 0]) hr3_1
    have er3_1 : (upd H8 r3_1 (HO.lst [.int 1, .int 0])) r3_1 = some (HO.lst [.int 1, .int 0]) := upd_same
    replace er3_0 := sr3_1 _ _ er3_0
    replace t1 := t1.same sr3_1
    replace t2 := t2.same sr3_1
    replace s0 := s0.trans sr3_1
    clear sr3_1 hr3_1
    generalize (upd H8 r3_1 (HO.lst [.int 1, .int 0])) = H9 at *
    walk_at "tx"
    refine ⟨by show 2 ≤ sizeLine; decide, fun p3 hp3 => ?_⟩
    have sp3 := same_upd (o := HO.lst [.ref r3_0, .ref r3_1]) hp3
    have ep3 : (upd H9 p3 (HO.lst [.ref r3_0, .ref r3_1])) p3 = some (HO.lst [.ref r3_0, .ref r3_1]) := upd_same
    replace er3_0 := sp3 _ _ er3_0
    replace er3_1 := sp3 _ _ er3_1
    replace t1 := t1.same sp3
    replace t2 := t2.same sp3
    replace s0 := s0.trans sp3
    clear sp3 hp3
    generalize (upd H9 p3 (HO.lst [.ref r3_0, .ref r3_1])) = H10 at *
    walk_at "tx"
    refine ⟨by show 2 ≤ sizeLine; decide, fun w3 hw3 => ?_⟩
    have sw3 := same_upd (o := HO.tup [.ref p3, .int 0]) hw3
    have ew3 : (upd H10 w3 (HO.tup [.ref p3, .int 0])) w3 = some (HO.tup [.ref p3, .int 0]) := upd_same
    replace er3_0 := sw3 _ _ er3_0
    replace er3_1 := sw3 _ _ er3_1
    replace ep3 := sw3 _ _ ep3
    replace t1 := t1.same sw3
    replace t2 := t2.same sw3
    replace s0 := s0.trans sw3
    clear sw3 hw3
    generalize (upd H10 w3 (HO.tup [.ref p3, .int 0])) = H11 at *
    walk_at "tx"
    have t3 : Th H11 (.ref w3) := ⟨w3, p3, 2, 0, _, rfl, ew3, tab_lit (qs := [r3_0, r3_1]) (css := [[0, 1], [1, 0]]) ep3 rfl rfl (by decide) (⟨er3_0, er3_1, trivial⟩), by omega, by omega, by omega, by decide⟩
    clear er3_0 er3_1 ep3 ew3
    refine ⟨by show 3 ≤ sizeLine; decide, fun r4_0 hr4_0 => ?_⟩
    have sr4_0 := same_upd (o := HO.lst [.int 0, .int 1, .int 2]) hr4_0
    have er4_0 : (upd H11 r4_0 (HO.lst [.int 0, .int 1, .int 2])) r4_0 = some (HO.lst [.int 0, .int 1, .int 2]) := upd_same
    replace t1 := t1.same sr4_0
    replace t2 := t2.same sr4_0
    replace t3 := t3.same sr4_0
    replace s0 := s0.trans sr4_0
    clear sr4_0 hr4_0
    generalize (upd H11 r4_0 (HO.lst [.int 0, .int 1, .int 2])) = H12 at *
    walk_at "tx"
    refine ⟨by show 3 ≤ sizeLine; decide, fun r4_1 hr4_1 => ?_⟩
    have sr4_1 := same_upd (o := HO.lst [.int 1, .int 1, .int 1]) hr4_1
    have er4_1 : (upd H12 r4_1 (HO.lst [.int 1, .int 1, .int 1])) r4_1 = some (HO.lst [.int 1, .int 1, .int 1]) := upd_same
    replace er4_0 := sr4_1 _ _ er4_0
    replace t1 := t1.same sr4_1
    replace t2 := t2.same sr4_1
    replace t3 := t3.same sr4_1
    replace s0 := s0.trans sr4_1
    clear sr4_1 hr4_1
    generalize (upd H12 r4_1 (HO.lst [.int 1, .int 1, .int 1])) = H13 at *
    walk_at "tx"
    refine ⟨by show 3 ≤ sizeLine; decide, fun r4_2 hr4_2 => ?_⟩
    have sr4_2 := same_upd (o := HO.lst [.int 2, .int 2, .int 2]) hr4_2
    have er4_2 : (upd H13 r4_2 (HO.lst [.int 2, .int 2, .int 2])) r4_2 = some (HO.lst [.int 2, .int 2, .int 2]) := upd_same
    replace er4_0 := sr4_2 _ _ er4_0
    replace er4_1 := sr4_2 _ _ er4_1
    replace t1 := t1.same sr4_2
    replace t2 := t2.same sr4_2
    replace t3 := t3.same sr4_2
    replace s0 := s0.trans sr4_2
    clear sr4_2 hr4_2
    generalize (upd H13 r4_2 (HO.lst [.int 2, .int 2, .int 2])) = H14 at *
    walk_at "tx"
    refine ⟨by show 3 ≤ sizeLine; decide, fun p4 hp4 => ?_⟩
    have sp4 := same_upd (o := HO.lst [.ref r4_0, .ref r4_1, .ref r4_2]) hp4
    have ep4 : (upd H14 p4 (HO.lst [.ref r4_0, .ref r4_1, .ref r4_2])) p4 = some (HO.lst [.ref r4_0, .ref r4_1, .ref r4_2]) := upd_same
    replace er4_0 := sp4 _ _ er4_0
    replace er4_1 := sp4 _ _ er4_1
    replace er4_2 := sp4 _ _ er4_2
    replace t1 := t1.same sp4
    replace t2 := t2.same sp4
    replace t3 := t3.same sp4
    replace s0 := s0.trans sp4
    clear sp4 hp4
    generalize (upd H14 p4 (HO.lst [.ref r4_0, .ref r4_1, .ref r4_2])) = H15 at *
    walk_at "tx"
    refine ⟨by show 2 ≤ sizeLine; decide, fun w4 hw4 => ?_⟩
    have sw4 := same_upd (o := HO.tup [.ref p4, .int 0]) hw4
    have ew4 : (upd H15 w4 (HO.tup [.ref p4, .int 0])) w4 = some (HO.tup [.ref p4, .int 0]) := upd_same
    replace er4_0 := sw4 _ _ er4_0
    replace er4_1 := sw4 _ _ er4_1
    replace er4_2 := sw4 _ _ er4_2
    replace ep4 := sw4 _ _ ep4
    replace t1 := t1.same sw4
    replace t2 := t2.same sw4
    replace t3 := t3.same sw4
    replace s0 := s0.trans sw4
    clear sw4 hw4
    generalize (upd H15 w4 (HO.tup [.ref p4, .int 0])) = H16 at *
    walk_at "tx"
    have t4 : Th H16 (.ref w4) := ⟨w4, p4, 3, 0, _, rfl, ew4, tab_lit (qs := [r4_0, r4_1, r4_2]) (css := [[0, 1, 2], [1, 1, 1], [2, 2, 2]]) ep4 rfl rfl (by decide) (⟨er4_0, er4_1, er4_2, trivial⟩), by omega, by omega, by omega, by decide⟩
    clear er4_0 er4_1 er4_2 ep4 ew4
    refine ⟨by show 4 ≤ sizeLine; decide, fun L0 hL0 => ?_⟩
    have sL0 := same_upd (o := HO.lst [.ref w1, .ref w2, .ref w3, .ref w4]) hL0
    have eL0 : (upd H16 L0 (HO.lst [.ref w1, .ref w2, .ref w3, .ref w4])) L0 = some (HO.lst [.ref w1, .ref w2, .ref w3, .ref w4]) := upd_same
    replace t1 := t1.same sL0
    replace t2 := t2.same sL0
    replace t3 := t3.same sL0
    replace t4 := t4.same sL0
    replace s0 := s0.trans sL0
    clear sL0 hL0
    generalize (upd H16 L0 (HO.lst [.ref w1, .ref w2, .ref w3, .ref w4])) = H17 at *
    walk_at "tx"
    refine ⟨by show 3 ≤ sizeLine; decide, fun r5_0 hr5_0 => ?_⟩
    have sr5_0 := same_upd (o := HO.lst [.int 0, .int 1, .int 2]) hr5_0
    have er5_0 : (upd H17 r5_0 (HO.lst [.int 0, .int 1, .int 2])) r5_0 = some (HO.lst [.int 0, .int 1, .int 2]) := upd_same
    replace eL0 := sr5_0 _ _ eL0
    replace t1 := t1.same sr5_0
    replace t2 := t2.same sr5_0
    replace t3 := t3.same sr5_0
    replace t4 := t4.same sr5_0
    replace s0 := s0.trans sr5_0
    clear sr5_0 hr5_0
    generalize (upd H17 r5_0 (HO.lst [.int 0, .int 1, .int 2])) = H18 at *
    walk_at "tx"
    refine ⟨by show 3 ≤ sizeLine; decide, fun r5_1 hr5_1 => ?_⟩
    have sr5_1 := same_upd (o := HO.lst [.int 1, .int 1, .int 2]) hr5_1
    have er5_1 : (upd H18 r5_1 (HO.lst [.int 1, .int 1, .int 2])) r5_1 = some (HO.lst [.int 1, .int 1, .int 2]) := upd_same
    replace eL0 := sr5_1 _ _ eL0
    replace er5_0 := sr5_1 _ _ er5_0
    replace t1 := t1.same sr5_1
    replace t2 := t2.same sr5_1
    replace t3 := t3.same sr5_1
    replace t4 := t4.same sr5_1
    replace s0 := s0.trans sr5_1
    clear sr5_1 hr5_1
    generalize (upd H18 r5_1 (HO.lst [.int 1, .int 1, .int 2])) = H19 at *
    walk_at "tx"
    refine ⟨by show 3 ≤ sizeLine; decide, fun r5_2 hr5_2 => ?_⟩
    have sr5_2 := same_upd (o := HO.lst [.int 2, .int 1, .int 2]) hr5_2
    have er5_2 : (upd H19 r5_2 (HO.lst [.int 2, .int 1, .int 2])) r5_2 = some (HO.lst [.int 2, .int 1, .int 2]) := upd_same
    replace eL0 := sr5_2 _ _ eL0
    replace er5_0 := sr5_2 _ _ er5_0
    replace er5_1 := sr5_2 _ _ er5_1
    replace t1 := t1.same sr5_2
    replace t2 := t2.same sr5_2
    replace t3 := t3.same sr5_2
    replace t4 := t4.same sr5_2
    replace s0 := s0.trans sr5_2
    clear sr5_2 hr5_2
    generalize (upd H19 r5_2 (HO.lst [.int 2, .int 1, .int 2])) = H20 at *
    walk_at "tx"
    refine ⟨by show 3 ≤ sizeLine; decide, fun p5 hp5 => ?_⟩
    have sp5 := same_upd (o := HO.lst [.ref r5_0, .ref r5_1, .ref r5_2]) hp5
    have ep5 : (upd H20 p5 (HO.lst [.ref r5_0, .ref r5_1, .ref r5_2])) p5 = some (HO.lst [.ref r5_0, .ref r5_1, .ref r5_2]) := upd_same
    replace eL0 := sp5 _ _ eL0
    replace er5_0 := sp5 _ _ er5_0
    replace er5_1 := sp5 _ _ er5_1
    replace er5_2 := sp5 _ _ er5_2
    replace t1 := t1.same sp5
    replace t2 := t2.same sp5
    replace t3 := t3.same sp5
    replace t4 := t4.same sp5
    replace s0 := s0.trans sp5
    clear sp5 hp5
    generalize (upd H20 p5 (HO.lst [.ref r5_0, .ref r5_1, .ref r5_2])) = H21 at *
    walk_at "tx"
    refine ⟨by show 2 ≤ sizeLine; decide, fun w5 hw5 => ?_⟩
    have sw5 := same_upd (o := HO.tup [.ref p5, .int 0]) hw5
    have ew5 : (upd H21 w5 (HO.tup [.ref p5, .int 0])) w5 = some (HO.tup [.ref p5, .int 0]) := upd_same
    replace eL0 := sw5 _ _ eL0
    replace er5_0 := sw5 _ _ er5_0
    replace er5_1 := sw5 _ _ er5_1
    replace er5_2 := sw5 _ _ er5_2
    replace ep5 := sw5 _ _ ep5
    replace t1 := t1.same sw5
    replace t2 := t2.same sw5
    replace t3 := t3.same sw5
    replace t4 := t4.same sw5
    replace s0 := s0.trans sw5
    clear sw5 hw5
    generalize (upd H21 w5 (HO.tup [.ref p5, .int 0])) = H22 at *
    walk_at "tx"
    have t5 : Th H22 (.ref w5) := ⟨w5, p5, 3, 0, _, rfl, ew5, tab_lit (qs := [r5_0, r5_1, r5_2]) (css := [[0, 1, 2], [1, 1, 2], [2, 1, 2]]) ep5 rfl rfl (by decide) (⟨er5_0, er5_1, er5_2, trivial⟩), by omega, by omega, by omega, by decide⟩
    clear er5_0 er5_1 er5_2 ep5 ew5
    refine ⟨by show 3 ≤ sizeLine; decide, fun r6_0 hr6_0 => ?_⟩
    have sr6_0 := same_upd (o := HO.lst [.int 0, .int 1, .int 2]) hr6_0
    have er6_0 : (upd H22 r6_0 (HO.lst [.int 0, .int 1, .int 2])) r6_0 = some (HO.lst [.int 0, .int 1, .int 2]) := upd_same
    replace eL0 := sr6_0 _ _ eL0
    replace t1 := t1.same sr6_0
    replace t2 := t2.same sr6_0
    replace t3 := t3.same sr6_0
    replace t4 := t4.same sr6_0
    replace t5 := t5.same sr6_0
    replace s0 := s0.trans sr6_0
    clear sr6_0 hr6_0
    generalize (upd H22 r6_0 (HO.lst [.int 0, .int 1, .int 2])) = H23 at *
    walk_at "tx"
    refine ⟨by show 3 ≤ sizeLine; decide, fun r6_1 hr6_1 => ?_⟩
    have sr6_1 := same_upd (o := HO.lst [.int 1, .int 2, .int 0]) hr6_1
    have er6_1 : (upd H23 r6_1 (HO.lst [.int 1, .int 2, .int 0])) r6_1 = some (HO.lst [.int 1, .int 2, .int 0]) := upd_same
    replace eL0 := sr6_1 _ _ eL0
    replace er6_0 := sr6_1 _ _ er6_0
    replace t1 := t1.same sr6_1
    replace t2 := t2.same sr6_1
    replace t3 := t3.same sr6_1
    replace t4 := t4.same sr6_1
    replace t5 := t5.same sr6_1
    replace s0 := s0.trans sr6_1
    clear sr6_1 hr6_1
    generalize (upd H23 r6_1 (HO.lst [.int 1, .int 2, .int 0])) = H24 at *
    walk_at "tx"
    refine ⟨by show 3 ≤ sizeLine; decide, fun r6_2 hr6_2 => ?_⟩
    have sr6_2 := same_upd (o := HO.lst [.int 2, .int 0, .int 1]) hr6_2
    have er6_2 : (upd H24 r6_2 (HO.lst [.int 2, .int 0, .int 1])) r6_2 = some (HO.lst [.int 2, .int 0, .int 1]) := upd_same
    replace eL0 := sr6_2 _ _ eL0
    replace er6_0 := sr6_2 _ _ er6_0
    replace er6_1 := sr6_2 _ _ er6_1
    replace t1 := t1.same sr6_2
    replace t2 := t2.same sr6_2
    replace t3 := t3.same sr6_2
    replace t4 := t4.same sr6_2
    replace t5 := t5.same sr6_2
    replace s0 := s0.trans sr6_2
    clear sr6_2 hr6_2
    generalize (upd H24 r6_2 (HO.lst [.int 2, .int 0, .int 1])) = H25 at *
    walk_at "tx"
    refine ⟨by show 3 ≤ sizeLine; decide, fun p6 hp6 => ?_⟩
    have sp6 := same_upd (o := HO.lst [.ref r6_0, .ref r6_1, .ref r6_2]) hp6
    have ep6 : (upd H25 p6 (HO.lst [.ref r6_0, .ref r6_1, .ref r6_2])) p6 = some (HO.lst [.ref r6_0, .ref r6_1, .ref r6_2]) := upd_same
    replace eL0 := sp6 _ _ eL0
    replace er6_0 := sp6 _ _ er6_0
    replace er6_1 := sp6 _ _ er6_1
    replace er6_2 := sp6 _ _ er6_2
    replace t1 := t1.same sp6
    replace t2 := t2.same sp6
    replace t3 := t3.same sp6
    replace t4 := t4.same sp6
    replace t5 := t5.same sp6
    replace s0 := s0.trans sp6
    clear sp6 hp6
    generalize (upd H25 p6 (HO.lst [.ref r6_0, .ref r6_1, .ref r6_2])) = H26 at *
    walk_at "tx"
    refine ⟨by show 2 ≤ sizeLine; decide, fun w6 hw6 => ?_⟩
    have sw6 := same_upd (o := HO.tup [.ref p6, .int 0]) hw6
    have ew6 : (upd H26 w6 (HO.tup [.ref p6, .int 0])) w6 = some (HO.tup [.ref p6, .int 0]) := upd_same
    replace eL0 := sw6 _ _ eL0
    replace er6_0 := sw6 _ _ er6_0
    replace er6_1 := sw6 _ _ er6_1
    replace er6_2 := sw6 _ _ er6_2
    replace ep6 := sw6 _ _ ep6
    replace t1 := t1.same sw6
    replace t2 := t2.same sw6
    replace t3 := t3.same sw6
    replace t4 := t4.same sw6
    replace t5 := t5.same sw6
    replace s0 := s0.trans sw6
    clear sw6 hw6
    generalize (upd H26 w6 (HO.tup [.ref p6, .int 0])) = H27 at *
    walk_at "tx"
    have t6 : Th H27 (.ref w6) := ⟨w6, p6, 3, 0, _, rfl, ew6, tab_lit (qs := [r6_0, r6_1, r6_2]) (css := [[0, 1, 2], [1, 2, 0], [2, 0, 1]]) ep6 rfl rfl (by decide) (⟨er6_0, er6_1, er6_2, trivial⟩), by omega, by omega, by omega, by decide⟩
    clear er6_0 er6_1 er6_2 ep6 ew6
    refine ⟨by show 2 ≤ sizeLine; decide, fun L1 hL1 => ?_⟩
    have sL1 := same_upd (o := HO.lst [.ref w5, .ref w6]) hL1
    have eL1 : (upd H27 L1 (HO.lst [.ref w5, .ref w6])) L1 = some (HO.lst [.ref w5, .ref w6]) := upd_same
    replace eL0 := sL1 _ _ eL0
    replace t1 := t1.same sL1
    replace t2 := t2.same sL1
    replace t3 := t3.same sL1
    replace t4 := t4.same sL1
    replace t5 := t5.same sL1
    replace t6 := t6.same sL1
    replace s0 := s0.trans sL1
    clear sL1 hL1
    generalize (upd H27 L1 (HO.lst [.ref w5, .ref w6])) = H28 at *
    walk_at "tx"
    refine ⟨L0, L1, _, _, rfl, rfl, eL0, eL1, by show 6 ≤ sizeLine; decide, fun C1 hC1 => ?_⟩
    rw [show [V.ref w1, V.ref w2, V.ref w3, V.ref w4] ++ [V.ref w5, V.ref w6] = [V.ref w1, V.ref w2, V.ref w3, V.ref w4, V.ref w5, V.ref w6] from rfl]
    have sC1 := same_upd (o := HO.lst [V.ref w1, V.ref w2, V.ref w3, V.ref w4, V.ref w5, V.ref w6]) hC1
    have eC1 : upd H28 C1 (HO.lst [V.ref w1, V.ref w2, V.ref w3, V.ref w4, V.ref w5, V.ref w6]) C1 = some (HO.lst [V.ref w1, V.ref w2, V.ref w3, V.ref w4, V.ref w5, V.ref w6]) := upd_same
    replace t1 := t1.same sC1
    replace t2 := t2.same sC1
    replace t3 := t3.same sC1
    replace t4 := t4.same sC1
    replace t5 := t5.same sC1
    replace t6 := t6.same sC1
    replace s0 := s0.trans sC1
    clear sC1 hC1 eL0 eL1
    replace eC1 : upd H28 C1 (HO.lst [V.ref w1, V.ref w2, V.ref w3, V.ref w4, V.ref w5, V.ref w6]) C1 = some (HO.lst [V.ref w1, V.ref w2, V.ref w3, V.ref w4, V.ref w5, V.ref w6]) := eC1
    skip
    generalize hG : upd H28 C1 (HO.lst [V.ref w1, V.ref w2, V.ref w3, V.ref w4, V.ref w5, V.ref w6]) = H29 at *
    walk_at "tx"
    refine ⟨by show 4 ≤ sizeLine; decide, fun r7_0 hr7_0 => ?_⟩
    have sr7_0 := same_upd (o := HO.lst [.int 0, .int 1, .int 2, .int 3]) hr7_0
    have er7_0 : (upd H29 r7_0 (HO.lst [.int 0, .int 1, .int 2, .int 3])) r7_0 = some (HO.lst [.int 0, .int 1, .int 2, .int 3]) := upd_same
    replace eC1 := sr7_0 _ _ eC1
    replace t1 := t1.same sr7_0
    replace t2 := t2.same sr7_0
    replace t3 := t3.same sr7_0
    replace t4 := t4.same sr7_0
    replace t5 := t5.same sr7_0
    replace t6 := t6.same sr7_0
    replace s0 := s0.trans sr7_0
    clear sr7_0 hr7_0
    generalize (upd H29 r7_0 (HO.lst [.int 0, .int 1, .int 2, .int 3])) = H30 at *
    walk_at "tx"
    refine ⟨by show 4 ≤ sizeLine; decide, fun r7_1 hr7_1 => ?_⟩
    have sr7_1 := same_upd (o := HO.lst [.int 1, .int 1, .int 1, .int 1]) hr7_1
    have er7_1 : (upd H30 r7_1 (HO.lst [.int 1, .int 1, .int 1, .int 1])) r7_1 = some (HO.lst [.int 1, .int 1, .int 1, .int 1]) := upd_same
    replace eC1 := sr7_1 _ _ eC1
    replace er7_0 := sr7_1 _ _ er7_0
    replace t1 := t1.same sr7_1
    replace t2 := t2.same sr7_1
    replace t3 := t3.same sr7_1
    replace t4 := t4.same sr7_1
    replace t5 := t5.same sr7_1
    replace t6 := t6.same sr7_1
    replace s0 := s0.trans sr7_1
    clear sr7_1 hr7_1
    generalize (upd H30 r7_1 (HO.lst [.int 1, .int 1, .int 1, .int 1])) = H31 at *
    walk_at "tx"
    refine ⟨by show 4 ≤ sizeLine; decide, fun r7_2 hr7_2 => ?_⟩
    have sr7_2 := same_upd (o := HO.lst [.int 2, .int 2, .int 2, .int 2]) hr7_2
    have er7_2 : (upd H31 r7_2 (HO.lst [.int 2, .int 2, .int 2, .int 2])) r7_2 = some (HO.lst [.int 2, .int 2, .int 2, .int 2]) := upd_same
    replace eC1 := sr7_2 _ _ eC1
    replace er7_0 := sr7_2 _ _ er7_0
    replace er7_1 := sr7_2 _ _ er7_1
    replace t1 := t1.same sr7_2
    replace t2 := t2.same sr7_2
    replace t3 := t3.same sr7_2
    replace t4 := t4.same sr7_2
    replace t5 := t5.same sr7_2
    replace t6 := t6.same sr7_2
    replace s0 := s0.trans sr7_2
    clear sr7_2 hr7_2
    generalize (upd H31 r7_2 (HO.lst [.int 2, .int 2, .int 2, .int 2])) = H32 at *
    walk_at "tx"
    refine ⟨by show 4 ≤ sizeLine; decide, fun r7_3 hr7_3 => ?_⟩
    have sr7_3 := same_upd (o := HO.lst [.int 3, .int 3, .int 3, .int 3]) hr7_3
    have er7_3 : (upd H32 r7_3 (HO.lst [.int 3, .int 3, .int 3, .int 3])) r7_3 = some (HO.lst [.int 3, .int 3, .int 3, .int 3]) := upd_same
    replace eC1 := sr7_3 _ _ eC1
    replace er7_0 := sr7_3 _ _ er7_0
    replace er7_1 := sr7_3 _ _ er7_1
    replace er7_2 := sr7_3 _ _ er7_2
    replace t1 := t1.same sr7_3
    replace t2 := t2.same sr7_3
    replace t3 := t3.same sr7_3
    replace t4 := t4.same sr7_3
    replace t5 := t5.same sr7_3
    replace t6 := t6.same sr7_3
    replace s0 := s0.trans sr7_3
    clear sr7_3 hr7_3
    generalize (upd H32 r7_3 (HO.lst [.int 3, .int 3, .int 3, .int 3])) = H33 at *
    walk_at "tx"
    refine ⟨by show 4 ≤ sizeLine; decide, fun p7 hp7 => ?_⟩
    have sp7 := same_upd (o := HO.lst [.ref r7_0, .ref r7_1, .ref r7_2, .ref r7_3]) hp7
    have ep7 : (upd H33 p7 (HO.lst [.ref r7_0, .ref r7_1, .ref r7_2, .ref r7_3])) p7 = some (HO.lst [.ref r7_0, .ref r7_1, .ref r7_2, .ref r7_3]) := upd_same
    replace eC1 := sp7 _ _ eC1
    replace er7_0 := sp7 _ _ er7_0
    replace er7_1 := sp7 _ _ er7_1
    replace er7_2 := sp7 _ _ er7_2
    replace er7_3 := sp7 _ _ er7_3
    replace t1 := t1.same sp7
    replace t2 := t2.same sp7
    replace t3 := t3.same sp7
    replace t4 := t4.same sp7
    replace t5 := t5.same sp7
    replace t6 := t6.same sp7
    replace s0 := s0.trans sp7
    clear sp7 hp7
    generalize (upd H33 p7 (HO.lst [.ref r7_0, .ref r7_1, .ref r7_2, .ref r7_3])) = H34 at *
    walk_at "tx"
    refine ⟨by show 2 ≤ sizeLine; decide, fun w7 hw7 => ?_⟩
    have sw7 := same_upd (o := HO.tup [.ref p7, .int 0]) hw7
    have ew7 : (upd H34 w7 (HO.tup [.ref p7, .int 0])) w7 = some (HO.tup [.ref p7, .int 0]) := upd_same
    replace eC1 := sw7 _ _ eC1
    replace er7_0 := sw7 _ _ er7_0
    replace er7_1 := sw7 _ _ er7_1
    replace er7_2 := sw7 _ _ er7_2
    replace er7_3 := sw7 _ _ er7_3
    replace ep7 := sw7 _ _ ep7
    replace t1 := t1.same sw7
    replace t2 := t2.same sw7
    replace t3 := t3.same sw7
    replace t4 := t4.same sw7
    replace t5 := t5.same sw7
    replace t6 := t6.same sw7
    replace s0 := s0.trans sw7
    clear sw7 hw7
    generalize (upd H34 w7 (HO.tup [.ref p7, .int 0])) = H35 at *
    walk_at "tx"
    have t7 : Th H35 (.ref w7) := ⟨w7, p7, 4, 0, _, rfl, ew7, tab_lit (qs := [r7_0, r7_1, r7_2, r7_3]) (css := [[0, 1, 2, 3], [1, 1, 1, 1], [2, 2, 2, 2], [3, 3, 3, 3]]) ep7 rfl rfl (by decide) (⟨er7_0, er7_1, er7_2, er7_3, trivial⟩), by omega, by omega, by omega, by decide⟩
    clear er7_0 er7_1 er7_2 er7_3 ep7 ew7
    refine ⟨by show 1 ≤ sizeLine; decide, fun L2 hL2 => ?_⟩
    have sL2 := same_upd (o := HO.lst [.ref w7]) hL2
    have eL2 : (upd H35 L2 (HO.lst [.ref w7])) L2 = some (HO.lst [.ref w7]) := upd_same
    replace eC1 := sL2 _ _ eC1
    replace t1 := t1.same sL2
    replace t2 := t2.same sL2
    replace t3 := t3.same sL2
    replace t4 := t4.same sL2
    replace t5 := t5.same sL2
    replace t6 := t6.same sL2
    replace t7 := t7.same sL2
    replace s0 := s0.trans sL2
    clear sL2 hL2
    generalize (upd H35 L2 (HO.lst [.ref w7])) = H36 at *
    walk_at "tx"
    refine ⟨C1, L2, _, _, rfl, rfl, eC1, eL2, by show 7 ≤ sizeLine; decide, fun C2 hC2 => ?_⟩
    rw [show [V.ref w1, V.ref w2, V.ref w3, V.ref w4, V.ref w5, V.ref w6] ++ [V.ref w7] = [V.ref w1, V.ref w2, V.ref w3, V.ref w4, V.ref w5, V.ref w6, V.ref w7] from rfl]
    have sC2 := same_upd (o := HO.lst [V.ref w1, V.ref w2, V.ref w3, V.ref w4, V.ref w5, V.ref w6, V.ref w7]) hC2
    have eC2 : upd H36 C2 (HO.lst [V.ref w1, V.ref w2, V.ref w3, V.ref w4, V.ref w5, V.ref w6, V.ref w7]) C2 = some (HO.lst [V.ref w1, V.ref w2, V.ref w3, V.ref w4, V.ref w5, V.ref w6, V.ref w7]) := upd_same
    replace t1 := t1.same sC2
    replace t2 := t2.same sC2
    replace t3 := t3.same sC2
    replace t4 := t4.same sC2
    replace t5 := t5.same sC2
    replace t6 := t6.same sC2
    replace t7 := t7.same sC2
    replace s0 := s0.trans sC2
    clear sC2 hC2 eC1 eL2
    replace eC2 : upd H36 C2 (HO.lst [V.ref w1, V.ref w2, V.ref w3, V.ref w4, V.ref w5, V.ref w6, V.ref w7]) C2 = some (HO.lst [V.ref w1, V.ref w2, V.ref w3, V.ref w4, V.ref w5, V.ref w6, V.ref w7]) := eC2
    skip
    generalize hG : upd H36 C2 (HO.lst [V.ref w1, V.ref w2, V.ref w3, V.ref w4, V.ref w5, V.ref w6, V.ref w7]) = H37 at *
    walk_at "tx"
    refine ⟨by show 4 ≤ sizeLine; decide, fun r8_0 hr8_0 => ?_⟩
    have sr8_0 := same_upd (o := HO.lst [.int 0, .int 1, .int 2, .int 3]) hr8_0
    have er8_0 : (upd H37 r8_0 (HO.lst [.int 0, .int 1, .int 2, .int 3])) r8_0 = some (HO.lst [.int 0, .int 1, .int 2, .int 3]) := upd_same
    replace eC2 := sr8_0 _ _ eC2
    replace t1 := t1.same sr8_0
    replace t2 := t2.same sr8_0
    replace t3 := t3.same sr8_0
    replace t4 := t4.same sr8_0
    replace t5 := t5.same sr8_0
    replace t6 := t6.same sr8_0
    replace t7 := t7.same sr8_0
    replace s0 := s0.trans sr8_0
    clear sr8_0 hr8_0
    generalize (upd H37 r8_0 (HO.lst [.int 0, .int 1, .int 2, .int 3])) = H38 at *
    walk_at "tx"
    refine ⟨by show 4 ≤ sizeLine; decide, fun r8_1 hr8_1 => ?_⟩
    have sr8_1 := same_upd (o := HO.lst [.int 1, .int 0, .int 3, .int 2]) hr8_1
    have er8_1 : (upd H38 r8_1 (HO.lst [.int 1, .int 0, .int 3, .int 2])) r8_1 = some (HO.lst [.int 1, .int 0, .int 3, .int 2]) := upd_same
    replace eC2 := sr8_1 _ _ eC2
    replace er8_0 := sr8_1 _ _ er8_0
    replace t1 := t1.same sr8_1
    replace t2 := t2.same sr8_1
    replace t3 := t3.same sr8_1
    replace t4 := t4.same sr8_1
    replace t5 := t5.same sr8_1
    replace t6 := t6.same sr8_1
    replace t7 := t7.same sr8_1
    replace s0 := s0.trans sr8_1
    clear sr8_1 hr8_1
    generalize (upd H38 r8_1 (HO.lst [.int 1, .int 0, .int 3, .int 2])) = H39 at *
    walk_at "tx"
    refine ⟨by show 4 ≤ sizeLine; decide, fun r8_2 hr8_2 => ?_⟩
    have sr8_2 := same_upd (o := HO.lst [.int 2, .int 3, .int 0, .int 1]) hr8_2
    have er8_2 : (upd H39 r8_2 (HO.lst [.int 2, .int 3, .int 0, .int 1])) r8_2 = some (HO.lst [.int 2, .int 3, .int 0, .int 1]) := upd_same
    replace eC2 := sr8_2 _ _ eC2
    replace er8_0 := sr8_2 _ _ er8_0
    replace er8_1 := sr8_2 _ _ er8_1
    replace t1 := t1.same sr8_2
    replace t2 := t2.same sr8_2
    replace t3 := t3.same sr8_2
    replace t4 := t4.same sr8_2
    replace t5 := t5.same sr8_2
    replace t6 := t6.same sr8_2
    replace t7 := t7.same sr8_2
    replace s0 := s0.trans sr8_2
    clear sr8_2 hr8_2
    generalize (upd H39 r8_2 (HO.lst [.int 2, .int 3, .int 0, .int 1])) = H40 at *
    walk_at "tx"
    refine ⟨by show 4 ≤ sizeLine; decide, fun r8_3 hr8_3 => ?_⟩
    have sr8_3 := same_upd (o := HO.lst [.int 3, .int 2, .int 1, .int 0]) hr8_3
    have er8_3 : (upd H40 r8_3 (HO.lst [.int 3, .int 2, .int 1, .int 0])) r8_3 = some (HO.lst [.int 3, .int 2, .int 1, .int 0]) := upd_same
    replace eC2 := sr8_3 _ _ eC2
    replace er8_0 := sr8_3 _ _ er8_0
    replace er8_1 := sr8_3 _ _ er8_1
    replace er8_2 := sr8_3 _ _ er8_2
    replace t1 := t1.same sr8_3
    replace t2 := t2.same sr8_3
    replace t3 := t3.same sr8_3
    replace t4 := t4.same sr8_3
    replace t5 := t5.same sr8_3
    replace t6 := t6.same sr8_3
    replace t7 := t7.same sr8_3
    replace s0 := s0.trans sr8_3
    clear sr8_3 hr8_3
    generalize (upd H40 r8_3 (HO.lst [.int 3, .int 2, .int 1, .int 0])) = H41 at *
    walk_at "tx"
    refine ⟨by show 4 ≤ sizeLine; decide, fun p8 hp8 => ?_⟩
    have sp8 := same_upd (o := HO.lst [.ref r8_0, .ref r8_1, .ref r8_2, .ref r8_3]) hp8
    have ep8 : (upd H41 p8 (HO.lst [.ref r8_0, .ref r8_1, .ref r8_2, .ref r8_3])) p8 = some (HO.lst [.ref r8_0, .ref r8_1, .ref r8_2, .ref r8_3]) := upd_same
    replace eC2 := sp8 _ _ eC2
    replace er8_0 := sp8 _ _ er8_0
    replace er8_1 := sp8 _ _ er8_1
    replace er8_2 := sp8 _ _ er8_2
    replace er8_3 := sp8 _ _ er8_3
    replace t1 := t1.same sp8
    replace t2 := t2.same sp8
    replace t3 := t3.same sp8
    replace t4 := t4.same sp8
    replace t5 := t5.same sp8
    replace t6 := t6.same sp8
    replace t7 := t7.same sp8
    replace s0 := s0.trans sp8
    clear sp8 hp8
    generalize (upd H41 p8 (HO.lst [.ref r8_0, .ref r8_1, .ref r8_2, .ref r8_3])) = H42 at *
    walk_at "tx"
    refine ⟨by show 2 ≤ sizeLine; decide, fun w8 hw8 => ?_⟩
    have sw8 := same_upd (o := HO.tup [.ref p8, .int 0]) hw8
    have ew8 : (upd H42 w8 (HO.tup [.ref p8, .int 0])) w8 = some (HO.tup [.ref p8, .int 0]) := upd_same
    replace eC2 := sw8 _ _ eC2
    replace er8_0 := sw8 _ _ er8_0
    replace er8_1 := sw8 _ _ er8_1
    replace er8_2 := sw8 _ _ er8_2
    replace er8_3 := sw8 _ _ er8_3
    replace ep8 := sw8 _ _ ep8
    replace t1 := t1.same sw8
    replace t2 := t2.same sw8
    replace t3 := t3.same sw8
    replace t4 := t4.same sw8
    replace t5 := t5.same sw8
    replace t6 := t6.same sw8
    replace t7 := t7.same sw8
    replace s0 := s0.trans sw8
    clear sw8 hw8
    generalize (upd H42 w8 (HO.tup [.ref p8, .int 0])) = H43 at *
    walk_at "tx"
    have t8 : Th H43 (.ref w8) := ⟨w8, p8, 4, 0, _, rfl, ew8, tab_lit (qs := [r8_0, r8_1, r8_2, r8_3]) (css := [[0, 1, 2, 3], [1, 0, 3, 2], [2, 3, 0, 1], [3, 2, 1, 0]]) ep8 rfl rfl (by decide) (⟨er8_0, er8_1, er8_2, er8_3, trivial⟩), by omega, by omega, by omega, by decide⟩
    clear er8_0 er8_1 er8_2 er8_3 ep8 ew8
    refine ⟨by show 1 ≤ sizeLine; decide, fun L3 hL3 => ?_⟩
    have sL3 := same_upd (o := HO.lst [.ref w8]) hL3
    have eL3 : (upd H43 L3 (HO.lst [.ref w8])) L3 = some (HO.lst [.ref w8]) := upd_same
    replace eC2 := sL3 _ _ eC2
    replace t1 := t1.same sL3
    replace t2 := t2.same sL3
    replace t3 := t3.same sL3
    replace t4 := t4.same sL3
    replace t5 := t5.same sL3
    replace t6 := t6.same sL3
    replace t7 := t7.same sL3
    replace t8 := t8.same sL3
    replace s0 := s0.trans sL3
    clear sL3 hL3
    generalize (upd H43 L3 (HO.lst [.ref w8])) = H44 at *
    walk_at "tx"
    refine ⟨C2, L3, _, _, rfl, rfl, eC2, eL3, by show 8 ≤ sizeLine; decide, fun C3 hC3 => ?_⟩
    rw [show [V.ref w1, V.ref w2, V.ref w3, V.ref w4, V.ref w5, V.ref w6, V.ref w7] ++ [V.ref w8] = [V.ref w1, V.ref w2, V.ref w3, V.ref w4, V.ref w5, V.ref w6, V.ref w7, V.ref w8] from rfl]
    have sC3 := same_upd (o := HO.lst [V.ref w1, V.ref w2, V.ref w3, V.ref w4, V.ref w5, V.ref w6, V.ref w7, V.ref w8]) hC3
    have eC3 : upd H44 C3 (HO.lst [V.ref w1, V.ref w2, V.ref w3, V.ref w4, V.ref w5, V.ref w6, V.ref w7, V.ref w8]) C3 = some (HO.lst [V.ref w1, V.ref w2, V.ref w3, V.ref w4, V.ref w5, V.ref w6, V.ref w7, V.ref w8]) := upd_same
    replace t1 := t1.same sC3
    replace t2 := t2.same sC3
    replace t3 := t3.same sC3
    replace t4 := t4.same sC3
    replace t5 := t5.same sC3
    replace t6 := t6.same sC3
    replace t7 := t7.same sC3
    replace t8 := t8.same sC3
    replace s0 := s0.trans sC3
    clear sC3 hC3 eC2 eL3
    replace eC3 : upd H44 C3 (HO.lst [V.ref w1, V.ref w2, V.ref w3, V.ref w4, V.ref w5, V.ref w6, V.ref w7, V.ref w8]) C3 = some (HO.lst [V.ref w1, V.ref w2, V.ref w3, V.ref w4, V.ref w5, V.ref w6, V.ref w7, V.ref w8]) := eC3
    skip
    generalize hG : upd H44 C3 (HO.lst [V.ref w1, V.ref w2, V.ref w3, V.ref w4, V.ref w5, V.ref w6, V.ref w7, V.ref w8]) = H45 at *
    walk_at "tx"
    refine ⟨by show 4 ≤ sizeLine; decide, fun r9_0 hr9_0 => ?_⟩
    have sr9_0 := same_upd (o := HO.lst [.int 0, .int 1, .int 2, .int 3]) hr9_0
    have er9_0 : (upd H45 r9_0 (HO.lst [.int 0, .int 1, .int 2, .int 3])) r9_0 = some (HO.lst [.int 0, .int 1, .int 2, .int 3]) := upd_same
    replace eC3 := sr9_0 _ _ eC3
    replace t1 := t1.same sr9_0
    replace t2 := t2.same sr9_0
    replace t3 := t3.same sr9_0
    replace t4 := t4.same sr9_0
    replace t5 := t5.same sr9_0
    replace t6 := t6.same sr9_0
    replace t7 := t7.same sr9_0
    replace t8 := t8.same sr9_0
    replace s0 := s0.trans sr9_0
    clear sr9_0 hr9_0
    generalize (upd H45 r9_0 (HO.lst [.int 0, .int 1, .int 2, .int 3])) = H46 at *
    walk_at "tx"
    refine ⟨by show 4 ≤ sizeLine; decide, fun r9_1 hr9_1 => ?_⟩
    have sr9_1 := same_upd (o := HO.lst [.int 1, .int 1, .int 2, .int 2]) hr9_1
    have er9_1 : (upd H46 r9_1 (HO.lst [.int 1, .int 1, .int 2, .int 2])) r9_1 = some (HO.lst [.int 1, .int 1, .int 2, .int 2]) := upd_same
    replace eC3 := sr9_1 _ _ eC3
    replace er9_0 := sr9_1 _ _ er9_0
    replace t1 := t1.same sr9_1
    replace t2 := t2.same sr9_1
    replace t3 := t3.same sr9_1
    replace t4 := t4.same sr9_1
    replace t5 := t5.same sr9_1
    replace t6 := t6.same sr9_1
    replace t7 := t7.same sr9_1
    replace t8 := t8.same sr9_1
    replace s0 := s0.trans sr9_1
    clear sr9_1 hr9_1
    generalize (upd H46 r9_1 (HO.lst [.int 1, .int 1, .int 2, .int 2])) = H47 at *
    walk_at "tx"
    refine ⟨by show 4 ≤ sizeLine; decide, fun r9_2 hr9_2 => ?_⟩
    have sr9_2 := same_upd (o := HO.lst [.int 2, .int 1, .int 2, .int 1]) hr9_2
    have er9_2 : (upd H47 r9_2 (HO.lst [.int 2, .int 1, .int 2, .int 1])) r9_2 = some (HO.lst [.int 2, .int 1, .int 2, .int 1]) := upd_same
    replace eC3 := sr9_2 _ _ eC3
    replace er9_0 := sr9_2 _ _ er9_0
    replace er9_1 := sr9_2 _ _ er9_1
    replace t1 := t1.same sr9_2
    replace t2 := t2.same sr9_2
    replace t3 := t3.same sr9_2
    replace t4 := t4.same sr9_2
    replace t5 := t5.same sr9_2
    replace t6 := t6.same sr9_2
    replace t7 := t7.same sr9_2
    replace t8 := t8.same sr9_2
    replace s0 := s0.trans sr9_2
    clear sr9_2 hr9_2
    generalize (upd H47 r9_2 (HO.lst [.int 2, .int 1, .int 2, .int 1])) = H48 at *
    walk_at "tx"
    refine ⟨by show 4 ≤ sizeLine; decide, fun r9_3 hr9_3 => ?_⟩
    have sr9_3 := same_upd (o := HO.lst [.int 3, .int 1, .int 2, .int 0]) hr9_3
    have er9_3 : (upd H48 r9_3 (HO.lst [.int 3, .int 1, .int 2, .int 0])) r9_3 = some (HO.lst [.int 3, .int 1, .int 2, .int 0]) := upd_same
    replace eC3 := sr9_3 _ _ eC3
    replace er9_0 := sr9_3 _ _ er9_0
    replace er9_1 := sr9_3 _ _ er9_1
    replace er9_2 := sr9_3 _ _ er9_2
    replace t1 := t1.same sr9_3
    replace t2 := t2.same sr9_3
    replace t3 := t3.same sr9_3
    replace t4 := t4.same sr9_3
    replace t5 := t5.same sr9_3
    replace t6 := t6.same sr9_3
    replace t7 := t7.same sr9_3
    replace t8 := t8.same sr9_3
    replace s0 := s0.trans sr9_3
    clear sr9_3 hr9_3
    generalize (upd H48 r9_3 (HO.lst [.int 3, .int 1, .int 2, .int 0])) = H49 at *
    walk_at "tx"
    refine ⟨by show 4 ≤ sizeLine; decide, fun p9 hp9 => ?_⟩
    have sp9 := same_upd (o := HO.lst [.ref r9_0, .ref r9_1, .ref r9_2, .ref r9_3]) hp9
    have ep9 : (upd H49 p9 (HO.lst [.ref r9_0, .ref r9_1, .ref r9_2, .ref r9_3])) p9 = some (HO.lst [.ref r9_0, .ref r9_1, .ref r9_2, .ref r9_3]) := upd_same
    replace eC3 := sp9 _ _ eC3
    replace er9_0 := sp9 _ _ er9_0
    replace er9_1 := sp9 _ _ er9_1
    replace er9_2 := sp9 _ _ er9_2
    replace er9_3 := sp9 _ _ er9_3
    replace t1 := t1.same sp9
    replace t2 := t2.same sp9
    replace t3 := t3.same sp9
    replace t4 := t4.same sp9
    replace t5 := t5.same sp9
    replace t6 := t6.same sp9
    replace t7 := t7.same sp9
    replace t8 := t8.same sp9
    replace s0 := s0.trans sp9
    clear sp9 hp9
    generalize (upd H49 p9 (HO.lst [.ref r9_0, .ref r9_1, .ref r9_2, .ref r9_3])) = H50 at *
    walk_at "tx"
    refine ⟨by show 2 ≤ sizeLine; decide, fun w9 hw9 => ?_⟩
    have sw9 := same_upd (o := HO.tup [.ref p9, .int 0]) hw9
    have ew9 : (upd H50 w9 (HO.tup [.ref p9, .int 0])) w9 = some (HO.tup [.ref p9, .int 0]) := upd_same
    replace eC3 := sw9 _ _ eC3
    replace er9_0 := sw9 _ _ er9_0
    replace er9_1 := sw9 _ _ er9_1
    replace er9_2 := sw9 _ _ er9_2
    replace er9_3 := sw9 _ _ er9_3
    replace ep9 := sw9 _ _ ep9
    replace t1 := t1.same sw9
    replace t2 := t2.same sw9
    replace t3 := t3.same sw9
    replace t4 := t4.same sw9
    replace t5 := t5.same sw9
    replace t6 := t6.same sw9
    replace t7 := t7.same sw9
    replace t8 := t8.same sw9
    replace s0 := s0.trans sw9
    clear sw9 hw9
    generalize (upd H50 w9 (HO.tup [.ref p9, .int 0])) = H51 at *
    walk_at "tx"
    have t9 : Th H51 (.ref w9) := ⟨w9, p9, 4, 0, _, rfl, ew9, tab_lit (qs := [r9_0, r9_1, r9_2, r9_3]) (css := [[0, 1, 2, 3], [1, 1, 2, 2], [2, 1, 2, 1], [3, 1, 2, 0]]) ep9 rfl rfl (by decide) (⟨er9_0, er9_1, er9_2, er9_3, trivial⟩), by omega, by omega, by omega, by decide⟩
    clear er9_0 er9_1 er9_2 er9_3 ep9 ew9
    refine ⟨by show 1 ≤ sizeLine; decide, fun L4 hL4 => ?_⟩
    have sL4 := same_upd (o := HO.lst [.ref w9]) hL4
    have eL4 : (upd H51 L4 (HO.lst [.ref w9])) L4 = some (HO.lst [.ref w9]) := upd_same
    replace eC3 := sL4 _ _ eC3
    replace t1 := t1.same sL4
    replace t2 := t2.same sL4
    replace t3 := t3.same sL4
    replace t4 := t4.same sL4
    replace t5 := t5.same sL4
    replace t6 := t6.same sL4
    replace t7 := t7.same sL4
    replace t8 := t8.same sL4
    replace t9 := t9.same sL4
    replace s0 := s0.trans sL4
    clear sL4 hL4
    generalize (upd H51 L4 (HO.lst [.ref w9])) = H52 at *
    walk_at "tx"
    refine ⟨C3, L4, _, _, rfl, rfl, eC3, eL4, by show 9 ≤ sizeLine; decide, fun C4 hC4 => ?_⟩
    rw [show [V.ref w1, V.ref w2, V.ref w3, V.ref w4, V.ref w5, V.ref w6, V.ref w7, V.ref w8] ++ [V.ref w9] = [V.ref w1, V.ref w2, V.ref w3, V.ref w4, V.ref w5, V.ref w6, V.ref w7, V.ref w8, V.ref w9] from rfl]
    have sC4 := same_upd (o := HO.lst [V.ref w1, V.ref w2, V.ref w3, V.ref w4, V.ref w5, V.ref w6, V.ref w7, V.ref w8, V.ref w9]) hC4
    have eC4 : upd H52 C4 (HO.lst [V.ref w1, V.ref w2, V.ref w3, V.ref w4, V.ref w5, V.ref w6, V.ref w7, V.ref w8, V.ref w9]) C4 = some (HO.lst [V.ref w1, V.ref w2, V.ref w3, V.ref w4, V.ref w5, V.ref w6, V.ref w7, V.ref w8, V.ref w9]) := upd_same
    replace t1 := t1.same sC4
    replace t2 := t2.same sC4
    replace t3 := t3.same sC4
    replace t4 := t4.same sC4
    replace t5 := t5.same sC4
    replace t6 := t6.same sC4
    replace t7 := t7.same sC4
    replace t8 := t8.same sC4
    replace t9 := t9.same sC4
    replace s0 := s0.trans sC4
    clear sC4 hC4 eC3 eL4
    replace eC4 : upd H52 C4 (HO.lst [V.ref w1, V.ref w2, V.ref w3, V.ref w4, V.ref w5, V.ref w6, V.ref w7, V.ref w8, V.ref w9]) C4 = some (HO.lst [V.ref w1, V.ref w2, V.ref w3, V.ref w4, V.ref w5, V.ref w6, V.ref w7, V.ref w8, V.ref w9]) := eC4
    skip
    generalize hG : upd H52 C4 (HO.lst [V.ref w1, V.ref w2, V.ref w3, V.ref w4, V.ref w5, V.ref w6, V.ref w7, V.ref w8, V.ref w9]) = H53 at *
    walk_at "tx"
    have all : ∀ v ∈ [V.ref w1, V.ref w2, V.ref w3, V.ref w4, V.ref w5, V.ref w6, V.ref w7, V.ref w8, V.ref w9], Th H53 v := by
      refine List.forall_mem_cons.mpr ⟨t1, ?_⟩
      refine List.forall_mem_cons.mpr ⟨t2, ?_⟩
      refine List.forall_mem_cons.mpr ⟨t3, ?_⟩
      refine List.forall_mem_cons.mpr ⟨t4, ?_⟩
      refine List.forall_mem_cons.mpr ⟨t5, ?_⟩
      refine List.forall_mem_cons.mpr ⟨t6, ?_⟩
      refine List.forall_mem_cons.mpr ⟨t7, ?_⟩
      refine List.forall_mem_cons.mpr ⟨t8, ?_⟩
      refine List.forall_mem_cons.mpr ⟨t9, ?_⟩
      exact fun _ m => nomatch m
    have lx : [V.ref w1, V.ref w2, V.ref w3, V.ref w4, V.ref w5, V.ref w6, V.ref w7, V.ref w8, V.ref w9].length = 9 := rfl
    generalize [V.ref w1, V.ref w2, V.ref w3, V.ref w4, V.ref w5, V.ref w6, V.ref w7, V.ref w8, V.ref w9] = xs at *
    have hT1 := hT.same s0
    refine ⟨h, c, 9, rfl, hT1, by decide, log2_lt (by decide), fun r H' r0 r9 hT2 b2 => ?_⟩
    obtain ⟨r, rfl⟩ := Int.eq_ofNat_of_zero_le r0
    have rl : r < xs.length := by omega
    have nC : C4 ≠ h := fun z => by
      subst z
      obtain ⟨_, _, _, _, _, e, _⟩ := hT1
      rw [eC4] at e
      have := HO.lst.inj (Option.some.inj e)
      rw [this] at lx
      simp [handV] at lx
    replace eC4 := b2.kx _ _ nC eC4
    refine RD.d_ixL (SqL.of eC4) (v := xs[r]) (atI_nat (List.getElem?_eq_getElem rl)) ?_
    exact k _ _ hT2 ((Same.kx s0).trans b2.kx) ((all _ (List.getElem_mem rl)).kx b2.kx hT1)
end

/-! ### rows that are all new -/
open OQ (TabX RowX SeqAt)
def upf (f : Nat → Nat → Nat) (a b v : Nat) : Nat → Nat → Nat := fun i j => if i = a ∧ j = b then v else f i j
theorem set_row {n b v : Nat} {g : Nat → Nat} : ((List.range n).map fun j => V.int (g j : Nat)).set b (V.int (v : Nat)) = (List.range n).map fun j => V.int ((if j = b then v else g j : Nat) : Int) := by
  apply List.ext_getElem?
  intro j
  rw [List.getElem?_set]
  by_cases e : b = j
  · subst e
    rw [if_pos rfl]
    by_cases hb : b < n
    · rw [if_pos (by rw [List.length_map, List.length_range]; exact hb), List.getElem?_map, List.getElem?_range hb]
      simp
    · rw [if_neg (by rw [List.length_map, List.length_range]; exact hb), List.getElem?_eq_none (by rw [List.length_map, List.length_range]; omega)]
  · rw [if_neg e]
    by_cases hj : j < n
    · rw [List.getElem?_map, List.getElem?_map, List.getElem?_range hj]
      show some (V.int (g j : Nat)) = some (V.int ((if j = b then v else g j : Nat) : Int))
      rw [if_neg fun z => e z.symm]
    · rw [List.getElem?_eq_none (by rw [List.length_map, List.length_range]; omega), List.getElem?_eq_none (by rw [List.length_map, List.length_range]; omega)]
/-- the first i rows stand in the list at D, all of them new behind H0, no two the same -/
def RowsC (H0 H : Hp) (D : Addr) (n i : Nat) (f : Nat → Nat → Nat) : Prop := ∃ us : List Addr, us.length = i ∧ us.Nodup ∧ D ∉ us ∧ (∀ u ∈ us, H0 u = none) ∧ H D = some (.lst (us.map V.ref)) ∧ ∀ (j : Nat) (u : Addr), us[j]? = some u → H u = some (.lst ((List.range n).map fun c => V.int (f j c : Nat)))
theorem rowsC_zero {H0 H : Hp} {D : Addr} {n : Nat} {f : Nat → Nat → Nat} : RowsC H0 (upd H D (.lst [])) D n 0 f := ⟨[], rfl, .nil, (fun z => nomatch z), (fun _ z => nomatch z), upd_same, (fun _ _ e => nomatch e)⟩
theorem rowsC_step {H0 H' H'' : Hp} {D D2 : Addr} {n i : Nat} {f : Nat → Nat → Nat} (hD : H0 D = none) (s1 : Same H0 H') (r : RowsC H0 H' D n i f) (hD2 : H' D2 = none) (s2 : Same H' H'') (hi : i ≤ 100) (e2 : H'' D2 = some (.lst ((List.range n).map fun c => V.int (f i c : Nat)))) :
    ∃ acc, H'' D = some (.lst acc) ∧ acc.length < sizeLine ∧ Same H0 (upd H'' D (.lst (acc ++ [V.ref D2]))) ∧ RowsC H0 (upd H'' D (.lst (acc ++ [V.ref D2]))) D n (i + 1) f := by
  obtain ⟨us, lu, nd, nD', fr, eD, all⟩ := r
  have nD : D2 ≠ D := fun z => by rw [z, eD] at hD2; cases hD2
  have n2 : D2 ∉ us := fun m => by
    obtain ⟨j, hj⟩ := List.getElem?_of_mem m
    rw [all j _ hj] at hD2; cases hD2
  refine ⟨_, s2 _ _ eD, by rw [List.length_map, lu]; exact Nat.lt_of_le_of_lt hi (by decide), fun b u e => ?_, us ++ [D2], by rw [List.length_append, lu]; rfl, WW.nodup_snoc nd n2, ?_, ?_, by rw [upd_same, List.map_append]; rfl, fun j u e => ?_⟩
  · rw [upd_ne (ne_of_none e hD)]; exact s2 _ _ (s1 _ _ e)
  · intro m
    rcases List.mem_append.mp m with m | m
    · exact nD' m
    · exact nD (List.mem_singleton.mp m).symm
  · intro u m
    rcases List.mem_append.mp m with m | m
    · exact fr u m
    · rw [List.mem_singleton.mp m]; exact s1.free hD2
  · by_cases lj : j < us.length
    · rw [List.getElem?_append_left lj] at e
      have nu : u ≠ D := fun z => nD' (z ▸ List.mem_of_getElem? e)
      rw [upd_ne nu]; exact s2 _ _ (all j u e)
    · have q : j = i := by
        have := (List.getElem?_eq_some_iff.mp e).1
        rw [List.length_append, lu] at this
        simp at this
        omega
      subst q
      rw [List.getElem?_append_right (by omega), lu, Nat.sub_self] at e
      cases e
      rw [upd_ne nD]; exact e2
theorem RowsC.l {H0 H : Hp} {D : Addr} {n : Nat} {f : Nat → Nat → Nat} (r : RowsC H0 H D n n f) : TabXL H D n f := by
  obtain ⟨us, lu, nd, nD', fr, eD, all⟩ := r
  exact ⟨us, lu, eD, all⟩
theorem RowsC.but {H0 H H' : Hp} {h c D : Addr} {n i : Nat} {f : Nat → Nat → Nat} (r : RowsC H0 H D n i f) (b : But h H H') (x : HandAt H0 h c) (hD : H0 D = none) : RowsC H0 H' D n i f := by
  obtain ⟨us, lu, nd, nD', fr, eD, all⟩ := r
  exact ⟨us, lu, nd, nD', fr, by rw [b D (x.ne hD).1]; exact eD, fun j u e => by rw [b u (x.ne (fr u (List.mem_of_getElem? e))).1]; exact all j u e⟩
theorem RowsC.kx {H0 H H' : Hp} {h c D : Addr} {n i : Nat} {f : Nat → Nat → Nat} (r : RowsC H0 H D n i f) (b : Kx h H H') (x : HandAt H0 h c) (hD : H0 D = none) : RowsC H0 H' D n i f := by
  obtain ⟨us, lu, nd, nD', fr, eD, all⟩ := r
  exact ⟨us, lu, nd, nD', fr, b _ _ (x.ne hD).1 eD, fun j u e => b _ _ (x.ne (fr u (List.mem_of_getElem? e))).1 (all j u e)⟩
/-- one cell set -/
theorem RowsC.set {H0 H : Hp} {h c D : Addr} {n a b v : Nat} {f : Nat → Nat → Nat} (r : RowsC H0 H D n n f) (ha : a < n) (x : HandAt H0 h c) (y : HandAt H h c) (k : Kx h H0 H) :
    ∃ u xs, atI xs (a : Int) = some (V.ref u) ∧ H D = some (.lst xs) ∧ H u = some (.lst ((List.range n).map fun j => V.int (f a j : Nat))) ∧
      HandAt (upd H u (.lst (((List.range n).map fun j => V.int (f a j : Nat)).set b (V.int (v : Nat))))) h c ∧ Kx h H0 (upd H u (.lst (((List.range n).map fun j => V.int (f a j : Nat)).set b (V.int (v : Nat))))) ∧
      RowsC H0 (upd H u (.lst (((List.range n).map fun j => V.int (f a j : Nat)).set b (V.int (v : Nat))))) D n n (upf f a b v) := by
  obtain ⟨us, lu, nd, nD', fr, eD, all⟩ := r
  have al : a < us.length := by omega
  have ea : us[a]? = some us[a] := List.getElem?_eq_getElem al
  have f0 := fr _ (List.getElem_mem al)
  refine ⟨us[a], _, atI_nat (by rw [List.getElem?_map, ea]; rfl), eD, all a _ ea, y.put (x.ne f0).1 (x.ne f0).2, fun q o n e => by rw [upd_ne (ne_of_none e f0)]; exact k q o n e, us, lu, nd, nD', fr, ?_, fun j u e => ?_⟩
  · rw [upd_ne (fun z => nD' (by rw [z]; exact List.getElem_mem al))]; exact eD
  · by_cases c2 : j = a
    · subst c2
      rw [ea] at e
      cases e
      rw [upd_same, set_row]
      unfold upf
      simp
    · have nu : u ≠ us[a] := fun z => by
        subst z
        exact c2 ((List.getElem?_inj (List.getElem?_eq_some_iff.mp e).1 nd).mp (e.trans ea.symm))
      rw [upd_ne nu]
      have : (fun c => V.int ((upf f a b v j c : Nat) : Int)) = fun c => V.int ((f j c : Nat) : Int) := by
        funext c
        unfold upf
        rw [if_neg (fun z => c2 z.1)]
      rw [this]
      exact all j u e

/-- a table whose list and rows are all new behind H0 -/
theorem RowsC.put {H0 H : Hp} {D q : Addr} {n : Nat} {f : Nat → Nat → Nat} {o : HO} (r : RowsC H0 H D n n f) (e : H0 q ≠ none) (hD : H0 D = none) : TabXL (upd H q o) D n f := by
  obtain ⟨us, lu, nd, nD', fr, eD, all⟩ := r
  have ne : ∀ {u : Addr}, H0 u = none → u ≠ q := fun h z => e (by rw [← z]; exact h)
  exact ⟨us, lu, by rw [upd_ne (ne hD)]; exact eD, fun i u z => by rw [upd_ne (ne (fr u (List.mem_of_getElem? z)))]; exact all i u z⟩

/-! ### rows by their names -/
open OQ (TabX RowX SeqAt)
/-- rows, by name -/
def RowsU (us : List Addr) (H0 H : Hp) (D : Addr) (n : Nat) (f : Nat → Nat → Nat) : Prop := us.length = n ∧ us.Nodup ∧ D ∉ us ∧ (∀ u ∈ us, H0 u = none) ∧ H D = some (.lst (us.map V.ref)) ∧ ∀ (j : Nat) (u : Addr), us[j]? = some u → H u = some (.lst ((List.range n).map fun c => V.int (f j c : Nat)))
theorem RowsU.kx {us : List Addr} {H0 H H' : Hp} {h c D : Addr} {n : Nat} {f : Nat → Nat → Nat} (r : RowsU us H0 H D n f) (b : Kx h H H') (x : HandAt H0 h c) (hD : H0 D = none) : RowsU us H0 H' D n f := by
  obtain ⟨lu, nd, nD', fr, eD, all⟩ := r
  exact ⟨lu, nd, nD', fr, b _ _ (x.ne hD).1 eD, fun j u e => b _ _ (x.ne (fr u (List.mem_of_getElem? e))).1 (all j u e)⟩
theorem RowsU.get {us : List Addr} {H0 H : Hp} {D : Addr} {n a : Nat} {f : Nat → Nat → Nat} (r : RowsU us H0 H D n f) (ha : a < n) : ∃ u, us[a]? = some u ∧ atI (us.map V.ref) (a : Int) = some (V.ref u) ∧ H u = some (.lst ((List.range n).map fun c => V.int (f a c : Nat))) := by
  obtain ⟨lu, nd, nD', fr, eD, all⟩ := r
  have al : a < us.length := by omega
  have ea : us[a]? = some us[a] := List.getElem?_eq_getElem al
  exact ⟨_, ea, atI_nat (by rw [List.getElem?_map, ea]; rfl), all a _ ea⟩

theorem RowsU.same {us : List Addr} {H0 H H' : Hp} {D : Addr} {n : Nat} {f : Nat → Nat → Nat} (r : RowsU us H0 H D n f) (s : Same H H') : RowsU us H0 H' D n f := by
  obtain ⟨lu, nd, nD', fr, eD, all⟩ := r
  exact ⟨lu, nd, nD', fr, s _ _ eD, fun j u e => s _ _ (all j u e)⟩
theorem RowsU.l {us : List Addr} {H0 H : Hp} {D : Addr} {n : Nat} {f : Nat → Nat → Nat} (r : RowsU us H0 H D n f) : TabXL H D n f := by
  obtain ⟨lu, nd, nD', fr, eD, all⟩ := r
  exact ⟨us, lu, eD, all⟩
/-- another object written -/
theorem RowsU.off {us : List Addr} {H0 H : Hp} {D q : Addr} {n : Nat} {f : Nat → Nat → Nat} {o : HO} (r : RowsU us H0 H D n f) (n1 : D ≠ q) (n2 : q ∉ us) : RowsU us H0 (upd H q o) D n f := by
  obtain ⟨lu, nd, nD', fr, eD, all⟩ := r
  exact ⟨lu, nd, nD', fr, by rw [upd_ne n1]; exact eD, fun j u e => by rw [upd_ne (fun z => n2 (by rw [← z]; exact List.mem_of_getElem? e))]; exact all j u e⟩
theorem RowsU.set {us : List Addr} {H0 H : Hp} {D u : Addr} {n a b v : Nat} {f : Nat → Nat → Nat} (r : RowsU us H0 H D n f) (ea : us[a]? = some u) : RowsU us H0 (upd H u (.lst (((List.range n).map fun j => V.int (f a j : Nat)).set b (V.int (v : Nat))))) D n (upf f a b v) := by
  obtain ⟨lu, nd, nD', fr, eD, all⟩ := r
  have um := List.mem_of_getElem? ea
  refine ⟨lu, nd, nD', fr, ?_, fun j x e => ?_⟩
  · rw [upd_ne (fun z => nD' (by rw [z]; exact um))]; exact eD
  · by_cases c2 : j = a
    · subst c2
      rw [ea] at e
      cases e
      rw [upd_same, set_row]
      unfold upf
      simp
    · have nu : x ≠ u := fun z => by
        subst z
        exact c2 ((List.getElem?_inj (List.getElem?_eq_some_iff.mp e).1 nd).mp (e.trans ea.symm))
      rw [upd_ne nu]
      have : (fun c => V.int ((upf f a b v j c : Nat) : Int)) = fun c => V.int ((f j c : Nat) : Int) := by
        funext c
        unfold upf
        rw [if_neg (fun z => c2 z.1)]
      rw [this]
      exact all j x e
theorem upf_lt {n v : Nat} {f : Nat → Nat → Nat} {a b : Nat} (hv : v < n) (w : ∀ i j, i < n → j < n → f i j < n) : ∀ i j, i < n → j < n → upf f a b v i j < n := fun i j hi hj => by
  unfold upf
  split
  · exact hv
  · exact w i j hi hj
theorem cell_ix {n b : Nat} {g : Nat → Nat} (hb : b < n) : ixN ((List.range n).map fun j => V.int (g j : Nat)).length (b : Int) = some b := by
  rw [List.length_map, List.length_range]
  unfold ixN
  rw [if_pos (by omega), if_pos (by omega)]
  simp

/-! ### things named anew, the law's own fault -/
open OQ (TabX RowX SeqAt)
open RK (Gd Bij ren Fl FltAt)
theorem er_map {α β : Type} {f : α → β} : ∀ {l : List α} {i : Nat}, (l.map f).eraseIdx i = (l.eraseIdx i).map f
  | [], _ => rfl
  | _ :: _, 0 => rfl
  | a :: l, i + 1 => by rw [List.map_cons, List.eraseIdx_cons_succ, List.eraseIdx_cons_succ, List.map_cons, er_map]
theorem er_perm {α : Type} : ∀ {l : List α} {i : Nat} (h : i < l.length), (l[i] :: l.eraseIdx i).Perm l
  | a :: l, 0, _ => .refl _
  | a :: l, i + 1, h => by
    rw [List.getElem_cons_succ, List.eraseIdx_cons_succ]
    exact (List.Perm.swap _ _ _).trans ((er_perm (Nat.lt_of_succ_lt_succ h)).cons a)
theorem rgV_nat {n : Nat} : rgV 0 (n : Int) = (List.range n).map fun (j : Nat) => V.int j := by
  unfold rgV
  rw [show ((n : Int) - 0).toNat = n by omega]
  exact List.map_congr_left fun j _ => by rw [Int.zero_add]
def sg (os : List Nat) (a : Nat) : Nat := os.getD a 0
def ta (os : List Nat) (a : Nat) : Nat := os.idxOf a
theorem sg_get {os : List Nat} {a : Nat} (h : a < os.length) : os[a]? = some (sg os a) := by
  unfold sg
  rw [List.getD_eq_getElem?_getD, List.getElem?_eq_getElem h]; rfl
theorem perm_bij {os : List Nat} {n : Nat} (h : os.Perm (List.range n)) : Bij n (sg os) (ta os) := by
  have ln : os.length = n := by rw [h.length_eq, List.length_range]
  have nd : os.Nodup := h.nodup_iff.mpr List.nodup_range
  have mem : ∀ a, a < n → a ∈ os := fun a ha => h.mem_iff.mpr (List.mem_range.mpr ha)
  have tl : ∀ a, a < n → ta os a < os.length := fun a ha => List.idxOf_lt_length_of_mem (mem a ha)
  refine ⟨fun a ha => ?_, fun a ha => by rw [← ln]; exact tl a ha, fun a ha => ?_, fun a ha => ?_⟩
  · exact List.mem_range.mp (h.mem_iff.mp (List.mem_of_getElem? (sg_get (by omega))))
  · have e := sg_get (os := os) (a := a) (by omega)
    have m := List.mem_of_getElem? e
    have e2 : os[ta os (sg os a)]? = some (sg os a) := by
      unfold ta
      rw [List.getElem?_eq_getElem (List.idxOf_lt_length_of_mem m), List.getElem_idxOf]
    exact ((List.getElem?_inj (by rw [ln]; exact ha) nd).mp (e.trans e2.symm)).symm
  · have e2 : os[ta os a]? = some a := by
      have l := tl a ha
      unfold ta at *
      rw [List.getElem?_eq_getElem l, List.getElem_idxOf]
    have e := (sg_get (tl a ha)).symm.trans e2
    exact Option.some.inj e
theorem ta_get {os : List Nat} {n a : Nat} (h : os.Perm (List.range n)) (ha : a < n) : os[ta os a]? = some a := by
  have m : a ∈ os := h.mem_iff.mpr (List.mem_range.mpr ha)
  unfold ta
  rw [List.getElem?_eq_getElem (List.idxOf_lt_length_of_mem m), List.getElem_idxOf]
theorem eqV_int {i j : Int} : eqV (.int i) (.int j) = true ↔ i = j := by
  unfold eqV
  simp
theorem TabXL.row {H : Hp} {a : Addr} {n i : Nat} {f : Nat → Nat → Nat} (h : TabXL H a n f) (hi : i < n) : ∃ xs r, H a = some (.lst xs) ∧ atI xs (i : Int) = some (.ref r) ∧ H r = some (.lst ((List.range n).map fun j => V.int (f i j : Nat))) := by
  obtain ⟨rs, l, e, q⟩ := h
  have e2 : rs[i]? = some rs[i] := List.getElem?_eq_getElem (by omega)
  exact ⟨_, _, e, atI_nat (by rw [List.getElem?_map, e2]; rfl), q i _ e2⟩
theorem row_cell {n j : Nat} {g : Nat → Nat} (hj : j < n) : atI ((List.range n).map fun j => V.int (g j : Nat)) (j : Int) = some (.int (g j : Nat)) := atI_nat (by rw [List.getElem?_map, List.getElem?_range hj]; rfl)
def spNamed : Sp := fun vs H Q _ => ∃ (h c b : Addr) (n o : Nat) (P : Nat → Nat → Nat), vs = [.ref h, .ref b, .int o] ∧ HandAt H h c ∧ TabXL H b n P ∧ 1 ≤ n ∧ n ≤ 4 ∧ o < n ∧ (∀ a b, a < n → b < n → P a b < n) ∧
  ∀ (t D : Addr) (us : List Addr) (f : Nat → Nat → Nat) (o' : Nat) (H' : Hp), HandAt H' h c → Kx h H H' → H' t = some (.tup [.ref D, .int o']) → H D = none → RowsU us H H' D n f → o' < n → (∀ a b, a < n → b < n → f a b < n) → Q (.ref t) H'
section
variable {P : Program} {w : World} {K : PySem.W.Frag} {mg : Str → Option Value} {base : Heap}
theorem ok_law_named (T : Top K mg) : FnOk P w K mg base CX0 2 T.f_law_named T.fd_law_named ["hand", "products", "one"] spNamed := by
  refine T.F_law_named.ok sc_law_named (fun vs H Q E h => ?_) (fun cdv A outer s H vs Q E hr h => ?_)
  · obtain ⟨h, c, b, n, o, P, rfl, _⟩ := h; rfl
  · obtain ⟨h, c, b, n, o, P, rfl, hT, tb, n1, n4, on, pn, k⟩ := h
    refine ⟨_, (pss_cons (ps_set (i := 3) sc_law_named.nd rfl (by first | exact Or.inr rfl | exact Or.inl rfl) (pe_callB RD.c_len (by rfl) T.n_len (by decide +kernel) (pa_cons (pv 1) pa_nil)))
 (pss_cons (ps_set (i := 4) sc_law_named.nd rfl (Or.inl rfl) (pe_listRg (by rfl) (by rfl) T.n_list (prg_1 (by rfl) T.n_range (pv 3))))
 (pss_cons (ps_set (i := 5) sc_law_named.nd rfl (by first | exact Or.inr rfl | exact Or.inl rfl) (pe_lst pa_nil))
 (pss_cons (ps_for PassesOwn.never rfl (pi_range1 (by rfl) T.n_range (pa_cons (pv 3) pa_nil)) (pg_name (i := 6) sc_law_named.nd rfl (Or.inl rfl))
 (pss_one (ps_expr (pe_bm PySem.F.plainAttrs_list PySem.F.slot_list_append PySem.F.type_list_append mt_append (pv 5) (pa_cons (pe_bm PySem.F.plainAttrs_list PySem.F.slot_list_pop PySem.F.type_list_pop mt_popAt (pv 4) (pa_cons (pe_call (ok_law_draw T) (hr.mono (by decide)) (by rfl) T.g_law_draw T.F_law_draw.kp T.b_law_draw .nil pass0 (pa_cons (pv 0) (pa_cons (pe_callB RD.c_len (by rfl) T.n_len (by decide +kernel) (pa_cons (pv 4) pa_nil)) pa_nil))) pa_nil)) pa_nil)))))
 (pss_cons (ps_set (i := 7) sc_law_named.nd rfl (by first | exact Or.inr rfl | exact Or.inl rfl) (pe_lc (own := [("a", 8)]) (g := (gName 8)) (tt := tYes) rfl sc_law_named.nd (pi_range1 (by rfl) T.n_range (pa_cons (pv 3) pa_nil)) (blkOk_by (own := [("a", 8)]) (N := ["hand", "products", "one", "many", "rest", "order", "turn", "back", "a", "b"]) (sc := defScope s_law_named) (by decide +kernel)) (fun _ _ _ _ _ => (pg_name (i := 8) sc_law_named.nd rfl (by first | exact Or.inr rfl | exact Or.inl rfl))) (fun _ _ _ _ _ => pts_nil) (fun _ _ _ _ _ => (OQ.bmK K (pe_bm PySem.F.plainAttrs_list PySem.F.slot_list_index PySem.F.type_list_index (OQ.mt_indexK K) (pv 5) (pa_cons (pv 8) pa_nil))))))
 (pss_one (ps_ret (pe_tup (pa_cons (pe_lc (own := [("a", 8)]) (g := (gName 8)) (tt := tYes) rfl sc_law_named.nd (pi_range1 (by rfl) T.n_range (pa_cons (pv 3) pa_nil)) (blkOk_by (own := [("a", 8)]) (N := ["hand", "products", "one", "many", "rest", "order", "turn", "back", "a", "b"]) (sc := defScope s_law_named) (by decide +kernel)) (fun _ _ _ _ _ => (pg_name (i := 8) sc_law_named.nd rfl (by first | exact Or.inl rfl | exact Or.inr rfl))) (fun _ _ _ _ _ => pts_nil) (fun _ _ _ _ _ => (pe_lc (own := [("b", 9)]) (g := (gName 9)) (tt := tYes) rfl sc_law_named.nd (pi_range1 (by rfl) T.n_range (pa_cons (pv 3) pa_nil)) (blkOk_by (own := [("b", 9)]) (N := ["hand", "products", "one", "many", "rest", "order", "turn", "back", "a", "b"]) (sc := _) (by kernel_rfl)) (fun _ _ _ _ _ => (pg_name (i := 9) sc_law_named.nd rfl (by first | exact Or.inl rfl | exact Or.inr rfl))) (fun _ _ _ _ _ => pts_nil) (fun _ _ _ _ _ => (pe_ix (OQ.ixL K) (pv 5) (pe_ix (OQ.ixL K) (pe_ix (OQ.ixL K) (pv 1) (pe_ix (OQ.ixL K) (pv 7) (pv 8) (fun _ _ => rfl)) (fun _ _ => rfl)) (pe_ix (OQ.ixL K) (pv 7) (pv 9) (fun _ _ => rfl)) (fun _ _ => rfl)) (fun _ _ => rfl)))))) (pa_cons (pe_ix ix_list (pv 5) (pv 2) (fun _ _ => rfl)) pa_nil)))))))))), ?_⟩
    walk_at "tx"
    refine tb.x.len ?_
    walk_at "tx"
    refine RD.d_lstRg ?_
    walk_at "tx"
    refine ⟨RgOk.of_le (by omega) (by omega) (by omega) (by omega), fun R hR => ?_⟩
    have sR := same_upd (o := HO.lst (rgV 0 (n : Int))) hR
    have eR : upd H R (.lst (rgV 0 (n : Int))) R = some (.lst ((List.range n).map fun (j : Nat) => V.int j)) := by
      rw [upd_same, rgV_nat]
    have nR := (hT.ne hR).1
    have cR := (hT.ne hR).2
    have hT1 := hT.same sR
    generalize upd H R (.lst (rgV 0 (n : Int))) = H1 at *
    walk_at "tx"
    refine ⟨by show 0 ≤ sizeLine; decide, fun F hF => ?_⟩
    have sF := same_upd (o := HO.lst []) hF
    have eF : upd H1 F (.lst []) F = some (.lst []) := upd_same
    have nF := (hT1.ne hF).1
    have cF := (hT1.ne hF).2
    have nRF := ne_of_none eR hF
    replace eR := sF _ _ eR
    have hT2 := hT1.same sF
    have k2 : Kx h H (upd H1 F (.lst [])) := Same.kx (sR.trans sF)
    have hF0 : H F = none := sR.free hF
    generalize upd H1 F (.lst []) = H2 at *
    walk_at "tx"
    refine ⟨n, rfl, by omega, by omega, ?_⟩
    refine RD.f_range (lo := 0) (n := (n : Int).toNat) (fun i σ' H' => (∃ v4 : Option V, σ' = [some (.ref h), some (.ref b), some (.int o), some (.int n), some (.ref R), some (.ref F), v4, none, none, none]) ∧ HandAt H' h c ∧ Kx h H H' ∧ ∃ os rs : List Nat, H' R = some (.lst (rs.map fun (j : Nat) => V.int j)) ∧ H' F = some (.lst (os.map fun (j : Nat) => V.int j)) ∧ (os ++ rs).Perm (List.range n) ∧ os.length = i) ⟨⟨_, rfl⟩, hT2, k2, [], List.range n, eR, eF, .refl _, rfl⟩ ?_ ?_
    · rintro i σ' H3 hi' ⟨⟨v4, rfl⟩, hT3, k3, os, rs, eR3, eF3, pm, lo⟩
      have hi : i < n := by omega
      have ll : os.length + rs.length = n := by have := pm.length_eq; rwa [List.length_append, List.length_range] at this
      walk_at "tx"
      refine ⟨RD.tyL eF3, ?_⟩
      walk_at "tx"
      refine ⟨RD.tyL eR3, ?_⟩
      walk_at "tx"
      rw [List.length_map]
      refine ⟨h, c, ((rs.length : Nat) : Int), rfl, hT3, by omega, log2_lt (by omega), fun r H4 r0 r1 hT4 b4 => ?_⟩
      obtain ⟨r, rfl⟩ := Int.eq_ofNat_of_zero_le r0
      have rl : r < rs.length := by omega
      replace eR3 := (b4 R nR).trans eR3
      replace eF3 := (b4 F nF).trans eF3
      have k4 : Kx h H H4 := fun q o nq e => by rw [b4 q nq]; exact k3 q o nq e
      clear b4 k3 hT3
      walk_at "tx"
      refine ⟨R, _, (r : Int), r, .int (rs[r] : Nat), rfl, rfl, eR3, by omega, by omega, ?_, ?_, ?_⟩
      · unfold seqIndex?
        rw [List.length_map]
        simp only [show ¬ ((r : Int) < 0) by omega, if_false, Int.toNat_natCast]
        rw [if_pos (by simp; omega)]
      · rw [List.getElem?_map, List.getElem?_eq_getElem rl]; rfl
      walk_at "tx"
      have eF5 : upd H4 R (.lst ((rs.map fun (j : Nat) => V.int j).eraseIdx r)) F = some (.lst (os.map fun (j : Nat) => V.int j)) := by rw [upd_ne nRF.symm]; exact eF3
      refine RD.d_app eF5 (by rw [List.length_map]; exact Nat.lt_of_le_of_lt (by omega : os.length ≤ 16) (by decide)) ?_
      refine ⟨⟨_, rfl⟩, (hT4.put nR cR).put nF cF, fun q o nq e => by rw [upd_ne (ne_of_none e hF0), upd_ne (ne_of_none e hR)]; exact k4 q o nq e, os ++ [rs[r]], rs.eraseIdx r, ?_, ?_, ?_, ?_⟩
      · rw [upd_ne nRF, upd_same, er_map]
      · rw [upd_same, List.map_append]; rfl
      · rw [List.append_assoc]
        exact ((er_perm rl).append_left os).trans pm
      · rw [List.length_append, lo]; rfl
    rintro σ' H3 ⟨⟨v4, rfl⟩, hT3, k3, os, rs, eR3, eF3, pm, lo⟩
    have rn : rs = [] := by
      have := pm.length_eq
      rw [List.length_append, List.length_range, lo, Int.toNat_natCast] at this
      exact List.length_eq_zero_iff.mp (by omega)
    subst rn
    rw [List.append_nil] at pm
    have ln : os.length = n := by rw [pm.length_eq, List.length_range]
    have bj := perm_bij pm
    have tb3 := k3.tab4 hT n4 tb
    clear eR3 hT2 k2 hT1 eR eF sR sF
    generalize F = p at *
    walk_at "tx"
    refine ⟨n, rfl, by omega, by omega, fun D hD => ?_⟩
    refine lc_range (lo := 0) (n := (n : Int).toNat) (fun i H' => Same H3 H' ∧ H' D = some (.lst ((List.range i).map fun c => V.int ((Toy.ta os c : Nat) : Int)))) ⟨same_upd hD, upd_same⟩ ?_ ?_
    · rintro i H' hi' ⟨s1, eD⟩
      have hi : i < n := by omega
      have ep1 := s1 _ _ eF3
      walk_at "tx"
      refine ⟨RD.tyL ep1, ?_⟩
      walk_at "tx"
      rw [Int.zero_add]
      refine ⟨p, _, .int i, Toy.ta os i, .int i, rfl, rfl, SqL.of ep1, rfl, ?_, ?_, ?_, ?_, ?_⟩
      · exact List.all_eq_true.mpr fun x m => by obtain ⟨j, _, rfl⟩ := List.mem_map.mp m; rfl
      · rw [List.getElem?_map, ta_get pm hi]; rfl
      · exact eqV_int.mpr rfl
      · intro m z' hm e
        rw [List.getElem?_map] at e
        cases hq : os[m]? with
        | none => rw [hq] at e; cases e
        | some y =>
          rw [hq] at e; cases e
          cases he : eqV (.int (y : Nat)) (.int (i : Nat)) with
          | false => rfl
          | true =>
            have : y = i := by have := eqV_int.mp he; omega
            subst this
            have nd : os.Nodup := pm.nodup_iff.mpr List.nodup_range
            have := (List.getElem?_inj (List.getElem?_eq_some_iff.mp hq).1 nd).mp (hq.trans (ta_get pm hi).symm)
            omega
      exact rowPutN (g := Toy.ta os) hD s1 (by omega) eD rfl
    rintro H4 ⟨s4, eD4⟩
    rw [Int.toNat_natCast] at eD4
    have hT4 := hT3.same s4
    have k4 := k3.trans (Same.kx s4)
    have ep4 := s4 _ _ eF3
    have tb4 := tb3.same s4
    have hDD : ∀ {a : Addr}, H4 a = none → H a = none := fun {a} e => by
      cases q : H a with
      | none => rfl
      | some z =>
        by_cases ne : a = h
        · subst ne
          obtain ⟨_, _, _, _, _, e1, _⟩ := hT4
          rw [e1] at e; cases e
        · rw [k4 _ _ ne q] at e; cases e
    clear s4 tb3 eF3 hT3 k3 hD
    walk_at "tx"
    refine ⟨n, rfl, by omega, by omega, fun Dn hDn => ?_⟩
    have hDn0 := hDD hDn
    refine lc_range (lo := 0) (n := (n : Int).toNat) (fun i H' => Same H4 H' ∧ RowsC H4 H' Dn n i (ren (sg os) (Toy.ta os) P)) ⟨same_upd hDn, rowsC_zero⟩ ?_ ?_
    · rintro i1 H' hi' ⟨s5, r5⟩
      have hi1 : i1 < n := by omega
      walk_at "tx"
      refine ⟨n, rfl, by omega, by omega, fun D2 hD2 => ?_⟩
      refine lc_range (lo := 0) (n := (n : Int).toNat) (fun j H'' => Same H' H'' ∧ H'' D2 = some (.lst ((List.range j).map fun c => V.int ((ren (sg os) (Toy.ta os) P i1 c : Nat) : Int)))) ⟨same_upd hD2, upd_same⟩ ?_ ?_
      · rintro j H'' hj' ⟨s6, eD2⟩
        have hj : j < n := by omega
        have s46 := s5.trans s6
        obtain ⟨xs, r', ex, er, e5⟩ := (tb4.same s46).row (bj.tn i1 hi1)
        have lf := pn _ _ (bj.tn i1 hi1) (bj.tn j hj)
        walk_at "tx"
        refine RD.d_ixL (SqL.of (s46 _ _ eD4)) (by rw [Int.zero_add]; exact row_cell hi1) ?_
        walk_at "tx"
        refine RD.d_ixL (SqL.of ex) er ?_
        walk_at "tx"
        refine RD.d_ixL (SqL.of (s46 _ _ eD4)) (by rw [Int.zero_add]; exact row_cell hj) ?_
        walk_at "tx"
        refine RD.d_ixL (SqL.of e5) (row_cell (bj.tn j hj)) ?_
        walk_at "tx"
        refine RD.d_ixL (SqL.of (s46 _ _ ep4)) (atI_nat (by rw [List.getElem?_map, sg_get (by rw [ln]; exact lf)]; rfl)) ?_
        exact rowPutN (g := fun c => ren (sg os) (Toy.ta os) P i1 c) hD2 s6 (by omega) eD2 rfl
      · rintro H'' ⟨s6, eD2⟩
        rw [Int.toNat_natCast] at eD2
        exact rowsC_step hDn s5 r5 hD2 s6 (by omega) eD2
    · rintro H5 ⟨s5, us, r5⟩
      rw [Int.toNat_natCast] at r5
      have r5 : RowsU us H4 H5 Dn n (ren (sg os) (Toy.ta os) P) := r5
      walk_at "tx"
      refine RD.d_ixL (SqL.of (s5 _ _ ep4)) (atI_nat (by rw [List.getElem?_map, sg_get (by rw [ln]; exact on)]; rfl)) ?_
      walk_at "tx"
      refine ⟨by show 2 ≤ sizeLine; decide, fun t ht => ?_⟩
      have s6 := same_upd (o := HO.tup [V.ref Dn, V.int (sg os o : Nat)]) ht
      obtain ⟨lu, nd, nD', fr, eD, all⟩ := r5.same s6
      exact k t Dn us _ (sg os o) _ ((hT4.same s5).same s6) (k4.trans (Same.kx (s5.trans s6))) upd_same hDn0 ⟨lu, nd, nD', fun u m => hDD (fr u m), eD, all⟩ (bj.sn o on) (fun a b ha hb => bj.sn _ (pn _ _ (bj.tn a ha) (bj.tn b hb)))
end

/-! ### the law's own fault and lots -/
open OQ (TabX RowX SeqAt)
open RK (Gd Mo lotP Lb Fl FltAt)
/-- keys of a dict that holds True everywhere -/
def Sd (kvs : List (Key × V)) (ks : List Nat) : Prop := kvs = ks.map (fun (k : Nat) => ((Sum.inl (k : Int) : Key), V.bl true)) ∧ ks.Nodup
theorem Sd.nil : Sd [] [] := ⟨rfl, .nil⟩
theorem Sd.put {kvs : List (Key × V)} {ks : List Nat} (h : Sd kvs ks) (v : Nat) : ∃ ks', Sd (putK kvs (Sum.inl (v : Int)) (.bl true)) ks' ∧ ∀ w, w ∈ ks' ↔ w = v ∨ w ∈ ks := by
  obtain ⟨rfl, nd⟩ := h
  by_cases m : v ∈ ks
  · refine ⟨ks, ⟨?_, nd⟩, fun w => ⟨.inr, fun z => z.elim (fun z => z.symm ▸ m) id⟩⟩
    unfold putK
    rw [if_pos (List.any_eq_true.mpr ⟨_, List.mem_map.mpr ⟨v, m, rfl⟩, by simp⟩), List.map_map]
    refine List.map_congr_left fun k _ => ?_
    show (if (Sum.inl (k : Int) : Key) = Sum.inl (v : Int) then ((Sum.inl (k : Int) : Key), V.bl true) else ((Sum.inl (k : Int) : Key), V.bl true)) = _
    split <;> rfl
  · refine ⟨ks ++ [v], ⟨?_, WW.nodup_snoc nd m⟩, fun w => by rw [List.mem_append, List.mem_singleton]; exact Or.comm⟩
    unfold putK
    rw [if_neg, List.map_append]; · rfl
    intro z
    obtain ⟨kv, m1, e⟩ := List.any_eq_true.mp z
    obtain ⟨k, mk, rfl⟩ := List.mem_map.mp m1
    have : (Sum.inl (k : Int) : Key) = Sum.inl (v : Int) := of_decide_eq_true e
    have : (k : Int) = v := Sum.inl.inj this
    exact m (by rw [← show k = v by omega]; exact mk)
def spSum34 : Sp := fun vs H Q _ => ∃ (d : Addr) (kvs : List (Key × V)) (ks : List Nat), vs = [.ref d] ∧ H d = some (.dK kvs) ∧ Sd kvs ks ∧ (∀ k ∈ ks, k < 16) ∧ ks.length < 64 ∧ ∀ (t : Nat) (H' : Hp), Same H H' → (∀ z, t.testBit z = true ↔ z ∈ ks) → Q (.int t) H'
/-- bits so far, the next one above them all -/
theorem bit_more {t k : Nat} {l : List Nat} (h : ∀ z, t.testBit z = true ↔ z ∈ l) (lt : ∀ z ∈ l, z < k) : ∀ z, (t + 2 ^ k).testBit z = true ↔ z ∈ l ++ [k] := fun z => by
  have tk : t < 2 ^ k := RK.lt_bits fun x e => lt x ((h x).mp e)
  have := Nat.two_pow_add_eq_or_of_lt tk 1
  rw [Nat.mul_one] at this
  rw [Nat.add_comm, this, Nat.testBit_or, Bool.or_eq_true, h z, Nat.testBit_two_pow, decide_eq_true_eq, List.mem_append, List.mem_singleton]
  constructor
  · rintro (e | e)
    · exact .inr e.symm
    · exact .inl e
  · rintro (e | e)
    · exact .inr e
    · exact .inl e.symm
theorem perm_nats {ks : List Nat} : ∀ {ns : List Int}, (∀ i ∈ ns, ∃ k : Nat, i = k) → ∃ l : List Nat, ns = l.map fun (k : Nat) => (k : Int)
  | [], _ => ⟨[], rfl⟩
  | i :: ns, h => by
    obtain ⟨k, rfl⟩ := h i (List.mem_cons_self ..)
    obtain ⟨l, rfl⟩ := perm_nats (ks := ks) (ns := ns) fun j m => h j (List.mem_cons_of_mem _ m)
    exact ⟨k :: l, rfl⟩
section
variable {P : Program} {w : World} {K : PySem.W.Frag} {mg : Str → Option Value} {base : Heap}
theorem ok_law_sum (T : Top K mg) : FnOk P w K mg base CX0 1 T.f_law_sum T.fd_law_sum ["things"] spSum34 := by
  refine T.F_law_sum.ok sc_law_sum (fun vs H Q E h => ?_) (fun cdv A outer s H vs Q E hr h => ?_)
  · obtain ⟨d, kvs, ks, rfl, _⟩ := h; rfl
  · obtain ⟨d, kvs, ks, rfl, ed, sd, lt, l64, k⟩ := h
    refine ⟨_, (pss_cons (ps_set (i := 1) sc_law_sum.nd rfl (Or.inl rfl) pe_int)
 (pss_cons (ps_for PassesOwn.never rfl (pi_list (pe_callB cr_sorted (by rfl) T.n_sorted (by decide +kernel) (pa_cons (pe_callTy (call_list_dK rfl) (by rfl) T.n_list (by decide +kernel) (pa_cons (pv 0) pa_nil)) pa_nil))) (pg_name (i := 2) sc_law_sum.nd rfl (Or.inl rfl))
 (pss_one (ps_set (i := 1) sc_law_sum.nd rfl (Or.inl rfl) (pe_op op_add (pv 1) (pe_op op_shl pe_int (pv 2))))))
 (pss_one (ps_ret (pv 1))))), ?_⟩
    walk_at "tx"
    refine ⟨d, kvs, rfl, ed, fun q hq => ?_⟩
    have s1 := same_upd (o := HO.lst (kvs.map fun kv => kV kv.1)) hq
    have eq : upd H q (.lst (kvs.map fun kv => kV kv.1)) q = some (.lst ((ks.map fun (k : Nat) => (k : Int)).map V.int)) := by
      rw [upd_same, sd.1, List.map_map, List.map_map]; rfl
    generalize upd H q (.lst (kvs.map fun kv => kV kv.1)) = H1 at *
    walk_at "tx"
    refine ⟨q, _, rfl, SqL.of eq, by rw [List.length_map]; exact l64, fun ns' p pm up hp => ?_⟩
    obtain ⟨l, rfl⟩ := perm_nats (ks := ks) (ns := ns') fun i m => by
      obtain ⟨k, _, rfl⟩ := List.mem_map.mp (pm.mem_iff.mp m)
      exact ⟨k, rfl⟩
    have ml : ∀ z : Nat, z ∈ l ↔ z ∈ ks := fun z => by
      have := pm.mem_iff (a := (z : Int))
      rw [List.mem_map, List.mem_map] at this
      constructor
      · intro m
        obtain ⟨a, ma, e⟩ := this.mp ⟨z, m, rfl⟩
        rw [← show a = z by omega]; exact ma
      · intro m
        obtain ⟨a, ma, e⟩ := this.mpr ⟨z, m, rfl⟩
        rw [← show a = z by omega]; exact ma
    have ndl : (l.map fun (k : Nat) => (k : Int)).Nodup := pm.nodup_iff.mpr (by unfold List.Nodup; rw [List.pairwise_map]; exact List.Pairwise.imp (fun ne q => ne (by omega)) sd.2)
    have s2 := same_upd (o := HO.lst ((l.map fun (k : Nat) => (k : Int)).map V.int)) hp
    have ep : upd H1 p (.lst ((l.map fun (k : Nat) => (k : Int)).map V.int)) p = some (.lst ((l.map fun (k : Nat) => (k : Int)).map V.int)) := upd_same
    generalize upd H1 p (.lst ((l.map fun (k : Nat) => (k : Int)).map V.int)) = H2 at *
    walk_at "tx"
    refine RD.f_list (K := K) (a := p) (xs := (l.map fun (k : Nat) => (k : Int)).map V.int) (fun i σ' H' => H' = H2 ∧ ∃ (t : Nat) (v2 : Option V), σ' = [some (.ref d), some (.int t), v2] ∧ ∀ z, t.testBit z = true ↔ z ∈ l.take i) ⟨rfl, 0, _, rfl, fun z => by simp⟩ (fun i σ' H' _ z => by rw [z.1]; exact SqL.of ep) ?_ ?_
    · rintro i x σ' H' hi ⟨rfl, t, v2, rfl, ht⟩
      rw [List.getElem?_map, List.getElem?_map] at hi
      cases e : l[i]? with
      | none => rw [e] at hi; cases hi
      | some y =>
        rw [e] at hi
        cases hi
        have y16 : y < 16 := lt y ((ml y).mp (List.mem_of_getElem? e))
        walk_at "tx"
        refine ⟨1, (y : Nat), rfl, rfl, ⟨by omega, by omega, by decide⟩, ?_⟩
        walk_at "tx"
        have il := (List.getElem?_eq_some_iff.mp e).1
        have up2 : ∀ z ∈ l.take i, z < y := fun z m => by
          obtain ⟨j, hj⟩ := List.getElem?_of_mem m
          have jl : j < i := by
            have := (List.getElem?_eq_some_iff.mp hj).1
            rw [List.length_take] at this; omega
          rw [List.getElem?_take_of_lt jl] at hj
          have a1 : (l.map fun (k : Nat) => (k : Int))[j]? = some (z : Int) := by rw [List.getElem?_map, hj]; rfl
          have a2 : (l.map fun (k : Nat) => (k : Int))[i]? = some (y : Int) := by rw [List.getElem?_map, e]; rfl
          have h1 := List.getElem?_eq_some_iff.mp a1
          have h2 := List.getElem?_eq_some_iff.mp a2
          have le := List.pairwise_iff_getElem.mp up j i h1.1 h2.1 jl
          have ne : (z : Int) ≠ y := fun q => by
            have := (List.getElem?_inj h1.1 ndl).mp (a1.trans (by rw [q]; exact a2.symm))
            omega
          rw [h1.2, h2.2] at le
          omega
        refine ⟨rfl, t + 2 ^ y, some (V.int (y : Nat)), ?_, ?_⟩
        · have : (1 : Int) * 2 ^ ((y : Nat) : Int).toNat = ((2 ^ y : Nat) : Int) := by rw [Int.one_mul, Int.toNat_natCast, Int.natCast_pow]; rfl
          show [some (V.ref d), some (V.int ((t : Int) + 1 * 2 ^ ((y : Nat) : Int).toNat)), some (V.int (y : Nat))] = _
          rw [this, Int.natCast_add]
        · have : l.take (i + 1) = l.take i ++ [y] := by rw [List.take_succ, e]; rfl
          rw [this]
          exact bit_more ht up2
    · rintro σ' H' ⟨rfl, t, v2, rfl, ht⟩
      walk_at "tx"
      refine k t _ (s1.trans s2) fun z => ?_
      rw [ht z, List.length_map, List.length_map, List.take_length, ml]
theorem ok_law_broken (T : Top K mg) : FnOk P w K mg base CX0 1 T.f_law_broken T.fd_law_broken ["products", "one"] (spF fun vs H F => ∃ (b : Addr) (n o : Nat) (P : Nat → Nat → Nat), vs = [.ref b, .int o] ∧ TabXL H b n P ∧ n ≤ 4 ∧ o < n ∧ (∀ a b, a < n → b < n → P a b < n) ∧ F = moF n P o) := by
  refine T.F_law_broken.ok sc_law_broken (fun vs H Q E h => ?_) (fun cdv A outer s H vs Q E hr h => ?_)
  · obtain ⟨F, ⟨b, n, o, P, rfl, _⟩, _⟩ := h; rfl
  · obtain ⟨F, ⟨b, n, o, P, rfl, tb, n4, on, pn, eF⟩, k⟩ := h
    refine ⟨_, (pss_cons (ps_set (i := 2) sc_law_broken.nd rfl (Or.inl rfl) (pe_listRg (by rfl) (by rfl) T.n_list (prg_1 (by rfl) T.n_range (pe_callB RD.c_len (by rfl) T.n_len (by decide +kernel) (pa_cons (pv 0) pa_nil)))))
 (pss_cons (ps_for PassesOwn.never rfl (pi_list (pv 2)) (pg_name (i := 3) sc_law_broken.nd rfl (Or.inl rfl))
 (pss_one (ps_if (PW.pt (pw_or (pt_cmpR op_ne (pe_ix ix_list (pe_ix ix_list (pv 0) (pv 1) (fun _ _ => rfl)) (pv 3) (fun _ _ => rfl)) (pv 3) (nomark _)) (pw_or1 (pt_cmpR op_ne (pe_ix ix_list (pe_ix ix_list (pv 0) (pv 3) (fun _ _ => rfl)) (pv 1) (fun _ _ => rfl)) (pv 3) (nomark _)))))
 (pss_one (ps_ret (pe_tup (pa_cons pe_str (pa_cons (pv 3) (pa_cons (pe_un un_neg pe_int) (pa_cons (pe_un un_neg pe_int) pa_nil)))))))
 pss_nil)))
 (pss_cons (ps_for PassesOwn.never rfl (pi_list (pv 2)) (pg_name (i := 3) sc_law_broken.nd rfl (Or.inl rfl))
 (pss_one (ps_for PassesOwn.never rfl (pi_list (pv 2)) (pg_name (i := 4) sc_law_broken.nd rfl (Or.inl rfl))
 (pss_one (ps_for PassesOwn.never rfl (pi_list (pv 2)) (pg_name (i := 5) sc_law_broken.nd rfl (Or.inl rfl))
 (pss_one (ps_if (pt_cmpR op_ne (pe_ix ix_list (pe_ix ix_list (pv 0) (pe_ix ix_list (pe_ix ix_list (pv 0) (pv 3) (fun _ _ => rfl)) (pv 4) (fun _ _ => rfl)) (fun _ _ => rfl)) (pv 5) (fun _ _ => rfl)) (pe_ix ix_list (pe_ix ix_list (pv 0) (pv 3) (fun _ _ => rfl)) (pe_ix ix_list (pe_ix ix_list (pv 0) (pv 4) (fun _ _ => rfl)) (pv 5) (fun _ _ => rfl)) (fun _ _ => rfl)) (nomark _))
 (pss_one (ps_ret (pe_tup (pa_cons pe_str (pa_cons (pv 3) (pa_cons (pv 4) (pa_cons (pv 5) pa_nil)))))))
 pss_nil)))))))
 (pss_one (ps_ret pe_non))))), ?_⟩
    walk_at "tx"
    refine tb.x.len ?_
    refine ⟨(n : Int), rfl, RgOk.of_le (by omega) (by omega) (by omega) (by omega), fun R hR => ?_⟩
    have sR := same_upd (o := HO.lst (rgV 0 (n : Int))) hR
    have eR : upd H R (.lst (rgV 0 (n : Int))) R = some (.lst ((List.range n).map fun (j : Nat) => V.int j)) := by
      rw [upd_same, rgV_nat]
    replace tb := tb.same sR
    generalize upd H R (.lst (rgV 0 (n : Int))) = H1 at *
    have cell : ∀ {i : Nat} {x : V}, ((List.range n).map fun (j : Nat) => V.int j)[i]? = some x → i < n ∧ x = .int (i : Nat) := fun {i x} e => by
      have il : i < n := by have := (List.getElem?_eq_some_iff.mp e).1; rw [List.length_map, List.length_range] at this; exact this
      rw [List.getElem?_map, List.getElem?_range il] at e
      cases e; exact ⟨il, rfl⟩
    have ll : ((List.range n).map fun (j : Nat) => V.int j).length = n := by rw [List.length_map, List.length_range]
    have oneF : ∀ {a : Nat}, a < n → (∀ i, i < a → P o i = i ∧ P i o = i) → ¬ (P o a = a ∧ P a o = a) → F = some (("one" : Str), (a : Int), -1, -1) := fun {a} ha ok ng => by
      rw [eF]; unfold moF
      have : RK.oneF n P o = some (("one" : Str), (a : Int), -1, -1) := RK.fnd_at (t := a) (fun i hi => if_pos (ok i hi)) ha (if_neg ng)
      rw [this]; rfl
    walk_at "tx"
    refine RD.f_list (K := K) (a := R) (xs := (List.range n).map fun (j : Nat) => V.int j) (fun t σ' H' => (∀ i, i < t → P o i = i ∧ P i o = i) ∧ ∃ v3 : Option V, σ' = [some (.ref b), some (.int o), some (.ref R), v3, none, none] ∧ H' = H1) ⟨fun i z => by omega, none, rfl, rfl⟩ (fun i σ' H' _ z => by obtain ⟨_, _, _, rfl⟩ := z; exact SqL.of eR) ?_ ?_
    · rintro t x σ' H' hi ⟨ok, v3, rfl, rfl⟩
      obtain ⟨ht, rfl⟩ := cell hi
      obtain ⟨xs, r, ex, er, ev⟩ := tb.row on
      obtain ⟨xs2, r2, ex2, er2, ev2⟩ := tb.row ht
      walk_at "tx"
      refine RD.d_ixL (SqL.of ex) er ?_
      walk_at "tx"
      refine RD.d_ixL (SqL.of ev) (row_cell ht) ?_
      walk_at "tx"
      refine RD.iteN (fun c1 => ?_) (fun c1 => ?_)
      · walk_at "tx"
        exact ret4 k sR (oneF ht ok fun z => c1 (by omega))
      walk_at "tx"
      refine RD.d_ixL (SqL.of ex2) er2 ?_
      walk_at "tx"
      refine RD.d_ixL (SqL.of ev2) (row_cell on) ?_
      walk_at "tx"
      refine RD.iteN (fun c2 => ?_) (fun c2 => ?_)
      · walk_at "tx"
        exact ret4 k sR (oneF ht ok fun z => c2 (by omega))
      walk_at "tx"
      refine ⟨fun i hi' => ?_, _, rfl, rfl⟩
      by_cases e : i = t
      · subst e; omega
      · exact ok i (by omega)
    rintro σ' H' ⟨ok1, v3, rfl, rfl⟩
    rw [ll] at ok1
    have e1 : RK.oneF n P o = none := RK.fnd_none fun i hi => if_pos (ok1 i hi)
    have eF : F = RK.groupF "product" n P := by rw [eF]; unfold moF; rw [e1]; rfl
    walk_at "tx"
    refine RD.f_list (K := K) (a := R) (xs := (List.range n).map fun (j : Nat) => V.int j) (fun t σ' H2 => (∀ a, a < t → ∀ b, b < n → ∀ c, c < n → P (P a b) c = P a (P b c)) ∧ ∃ v3 v4 v5 : Option V, σ' = [some (.ref b), some (.int o), some (.ref R), v3, v4, v5] ∧ H2 = H') ⟨fun i z => by omega, _, _, _, rfl, rfl⟩ (fun i σ' H' _ z => by obtain ⟨_, _, _, _, _, rfl⟩ := z; exact SqL.of eR) ?_ ?_
    · rintro t x σ' H2 hi ⟨ok, v3, v4, v5, rfl, rfl⟩
      obtain ⟨ht, rfl⟩ := cell hi
      walk_at "tx"
      refine RD.f_list (K := K) (a := R) (xs := (List.range n).map fun (j : Nat) => V.int j) (fun u σ' H3 => (∀ b, b < u → ∀ c, c < n → P (P t b) c = P t (P b c)) ∧ ∃ v4 v5 : Option V, σ' = [some (.ref b), some (.int o), some (.ref R), some (.int t), v4, v5] ∧ H3 = H2) ⟨fun i z => by omega, _, _, rfl, rfl⟩ (fun i σ' H' _ z => by obtain ⟨_, _, _, _, rfl⟩ := z; exact SqL.of eR) ?_ ?_
      · rintro u x σ' H3 hi ⟨ok2, v4, v5, rfl, rfl⟩
        obtain ⟨hu, rfl⟩ := cell hi
        walk_at "tx"
        refine RD.f_list (K := K) (a := R) (xs := (List.range n).map fun (j : Nat) => V.int j) (fun c σ' H4 => (∀ d, d < c → P (P t u) d = P t (P u d)) ∧ ∃ v5 : Option V, σ' = [some (.ref b), some (.int o), some (.ref R), some (.int t), some (.int u), v5] ∧ H4 = H3) ⟨fun i z => by omega, _, rfl, rfl⟩ (fun i σ' H' _ z => by obtain ⟨_, _, _, rfl⟩ := z; exact SqL.of eR) ?_ ?_
        · rintro c x σ' H4 hi ⟨ok3, v5, rfl, rfl⟩
          obtain ⟨hc, rfl⟩ := cell hi
          have ptu := pn t u ht hu
          have puc := pn u c hu hc
          obtain ⟨xt, rt, ext, ert, evt⟩ := tb.row ht
          obtain ⟨xu, ru, exu, eru, evu⟩ := tb.row hu
          obtain ⟨xv, rv, exv, erv, evv⟩ := tb.row ptu
          walk_at "tx"
          refine RD.d_ixL (SqL.of ext) ert ?_
          walk_at "tx"
          refine RD.d_ixL (SqL.of evt) (row_cell hu) ?_
          refine RD.d_ixL (SqL.of exv) erv ?_
          walk_at "tx"
          refine RD.d_ixL (SqL.of evv) (row_cell hc) ?_
          walk_at "tx"
          refine RD.d_ixL (SqL.of ext) ert ?_
          walk_at "tx"
          refine RD.d_ixL (SqL.of exu) eru ?_
          walk_at "tx"
          refine RD.d_ixL (SqL.of evu) (row_cell hc) ?_
          refine RD.d_ixL (SqL.of evt) (row_cell puc) ?_
          walk_at "tx"
          refine RD.iteN (fun c1 => ?_) (fun c1 => ?_)
          · walk_at "tx"
            refine ret4 k sR ?_
            rw [eF]
            refine RK.fnd_at (t := t) (fun i hi => RK.fnd_none fun j hj => RK.fnd_none fun l hl => if_pos (ok i hi j hj l hl)) ht ?_
            refine RK.fnd_at (t := u) (fun j hj => RK.fnd_none fun l hl => if_pos (ok2 j hj l hl)) hu ?_
            exact RK.fnd_at (t := c) (fun j hj => if_pos (ok3 j hj)) hc (if_neg fun z => c1 (by omega))
          walk_at "tx"
          refine ⟨fun d hd => ?_, _, rfl, rfl⟩
          by_cases e : d = c
          · subst e; omega
          · exact ok3 d (by omega)
        · rintro σ' H4 ⟨ok3, v5, rfl, rfl⟩
          rw [ll] at ok3
          refine ⟨fun i hi => ?_, _, _, rfl, rfl⟩
          by_cases e : i = u
          · subst e; exact ok3
          · exact ok2 i (by omega)
      · rintro σ' H3 ⟨ok2, v4, v5, rfl, rfl⟩
        rw [ll] at ok2
        refine ⟨fun i hi => ?_, _, _, _, rfl, rfl⟩
        by_cases e : i = t
        · subst e; exact ok2
        · exact ok i (by omega)
    · rintro σ' H2 ⟨ok, v3, v4, v5, rfl, rfl⟩
      rw [ll] at ok
      walk_at "tx"
      exact ret0 k sR (by rw [eF]; exact RK.fnd_none fun i hi => RK.fnd_none fun j hj => RK.fnd_none fun l hl => if_pos (ok i hi j hj l hl))
end

/-! ### the law's own lots -/
open OQ (TabX RowX SeqAt)
open RK (Gd Mo lotP Lb Fl FltAt)
/-- the things of a lot -/
def bitsL (n l : Nat) : List Nat := (List.range n).filter fun t => l.testBit t
theorem same_off {H H' : Hp} {u : Addr} {o : HO} (s : Same H H') (n : H u = none) : Same H (upd H' u o) := same_put s n
theorem bitsL_mem {n l t : Nat} : t ∈ bitsL n l ↔ t < n ∧ l.testBit t = true := by unfold bitsL; rw [List.mem_filter, List.mem_range]
theorem bitsL_len {n l : Nat} : (bitsL n l).length ≤ n := by unfold bitsL; exact Nat.le_trans (List.length_filter_le _ _) (by rw [List.length_range]; exact Nat.le_refl _)
theorem refs_ints : ∀ {us : List Addr} {l : List Nat}, us.map V.ref = l.map (fun (t : Nat) => V.int t) → us = []
  | [], _, _ => rfl
  | _ :: _, [], h => by simp at h
  | _ :: _, _ :: _, h => by simp at h
def LotsAt (H : Hp) (L : Addr) (N n : Nat) : Prop := ∃ us : List Addr, us.length = N ∧ H L = some (.lst (us.map V.ref)) ∧ ∀ (j : Nat) (u : Addr), us[j]? = some u → H u = some (.lst ((bitsL n j).map fun (t : Nat) => V.int t))
theorem LotsAt.same {H H' : Hp} {L : Addr} {N n : Nat} (h : LotsAt H L N n) (s : Same H H') : LotsAt H' L N n := by
  obtain ⟨us, l, e, all⟩ := h
  exact ⟨us, l, s _ _ e, fun j u q => s _ _ (all j u q)⟩
theorem LotsAt.row {H : Hp} {L : Addr} {N n i : Nat} (h : LotsAt H L N n) (hi : i < N) : ∃ xs r, H L = some (.lst xs) ∧ atI xs (i : Int) = some (.ref r) ∧ H r = some (.lst ((bitsL n i).map fun (t : Nat) => V.int t)) := by
  obtain ⟨rs, l, e, q⟩ := h
  have e2 : rs[i]? = some rs[i] := List.getElem?_eq_getElem (by omega)
  exact ⟨_, _, e, atI_nat (by rw [List.getElem?_map, e2]; rfl), q i _ e2⟩
/-- two lists of rows, all of them new -/
structure Tw (H0 H : Hp) (J R : Addr) (js rs : List Addr) (cj cr : Nat → List V) : Prop where
  nd : (J :: R :: (js ++ rs)).Nodup
  fr : ∀ p ∈ J :: R :: (js ++ rs), H0 p = none
  eJ : H J = some (.lst (js.map V.ref))
  eR : H R = some (.lst (rs.map V.ref))
  hj : ∀ (i : Nat) (u : Addr), js[i]? = some u → H u = some (.lst (cj i))
  hr : ∀ (i : Nat) (u : Addr), rs[i]? = some u → H u = some (.lst (cr i))
theorem Tw.same {H0 H H' : Hp} {J R : Addr} {js rs : List Addr} {cj cr : Nat → List V} (t : Tw H0 H J R js rs cj cr) (s : Same H H') : Tw H0 H' J R js rs cj cr :=
  ⟨t.nd, t.fr, s _ _ t.eJ, s _ _ t.eR, fun i u e => s _ _ (t.hj i u e), fun i u e => s _ _ (t.hr i u e)⟩
theorem Tw.nds {H0 H : Hp} {J R : Addr} {js rs : List Addr} {cj cr : Nat → List V} (t : Tw H0 H J R js rs cj cr) : J ≠ R ∧ J ∉ js ∧ J ∉ rs ∧ R ∉ js ∧ R ∉ rs ∧ js.Nodup ∧ rs.Nodup ∧ ∀ u ∈ js, u ∉ rs := by
  have h := t.nd
  rw [List.nodup_cons, List.nodup_cons, List.nodup_append] at h
  obtain ⟨h1, h2, h3, h4, h5⟩ := h
  simp only [List.mem_cons, List.mem_append, not_or] at h1 h2
  exact ⟨h1.1, h1.2.1, h1.2.2, h2.1, h2.2, h3, h4, fun u a b => h5 u a u b rfl⟩
theorem Tw.putJ {H0 H : Hp} {J R u : Addr} {js rs : List Addr} {cj cr : Nat → List V} {i : Nat} {xs : List V} (t : Tw H0 H J R js rs cj cr) (e : js[i]? = some u) : Tw H0 (upd H u (.lst xs)) J R js rs (fun k => if k = i then xs else cj k) cr := by
  obtain ⟨n1, n2, n3, n4, n5, n6, n7, n8⟩ := t.nds
  have um := List.mem_of_getElem? e
  refine ⟨t.nd, t.fr, by rw [upd_ne (fun z => n2 (by rw [z]; exact um))]; exact t.eJ, by rw [upd_ne (fun z => n4 (by rw [z]; exact um))]; exact t.eR, fun k v ev => ?_, fun k v ev => by rw [upd_ne (fun z => n8 u um (by rw [← z]; exact List.mem_of_getElem? ev))]; exact t.hr k v ev⟩
  by_cases c : k = i
  · subst c
    rw [e] at ev; cases ev
    rw [upd_same, if_pos rfl]
  · rw [if_neg c, upd_ne (fun z => by
      subst z
      exact c ((List.getElem?_inj (List.getElem?_eq_some_iff.mp ev).1 n6).mp (ev.trans e.symm)))]
    exact t.hj k v ev
theorem Tw.putR {H0 H : Hp} {J R u : Addr} {js rs : List Addr} {cj cr : Nat → List V} {i : Nat} {xs : List V} (t : Tw H0 H J R js rs cj cr) (e : rs[i]? = some u) : Tw H0 (upd H u (.lst xs)) J R js rs cj (fun k => if k = i then xs else cr k) := by
  obtain ⟨n1, n2, n3, n4, n5, n6, n7, n8⟩ := t.nds
  have um := List.mem_of_getElem? e
  refine ⟨t.nd, t.fr, by rw [upd_ne (fun z => n3 (by rw [z]; exact um))]; exact t.eJ, by rw [upd_ne (fun z => n5 (by rw [z]; exact um))]; exact t.eR, fun k v ev => by rw [upd_ne (fun z => n8 v (List.mem_of_getElem? ev) (by rw [z]; exact um))]; exact t.hj k v ev, fun k v ev => ?_⟩
  by_cases c : k = i
  · subst c
    rw [e] at ev; cases ev
    rw [upd_same, if_pos rfl]
  · rw [if_neg c, upd_ne (fun z => by
      subst z
      exact c ((List.getElem?_inj (List.getElem?_eq_some_iff.mp ev).1 n7).mp (ev.trans e.symm)))]
    exact t.hr k v ev
/-- a new empty row -/
theorem Tw.newJ {H0 H : Hp} {J R q : Addr} {js rs : List Addr} {cj cr : Nat → List V} (t : Tw H0 H J R js rs cj cr) (s : Same H0 H) (hq : H q = none) : Tw H0 (upd (upd H q (.lst [])) J (.lst (js.map V.ref ++ [.ref q]))) J R (js ++ [q]) rs (fun k => if k = js.length then [] else cj k) cr := by
  obtain ⟨n1, n2, n3, n4, n5, n6, n7, n8⟩ := t.nds
  have qJ : J ≠ q := ne_of_none t.eJ hq
  have qR : R ≠ q := ne_of_none t.eR hq
  have qj : q ∉ js := fun m => by
    obtain ⟨i, e⟩ := List.getElem?_of_mem m
    rw [t.hj i q e] at hq; cases hq
  have qr : q ∉ rs := fun m => by
    obtain ⟨i, e⟩ := List.getElem?_of_mem m
    rw [t.hr i q e] at hq; cases hq
  refine ⟨?_, fun p m => ?_, by rw [upd_same, List.map_append]; rfl, by rw [upd_ne n1.symm, upd_ne qR]; exact t.eR, fun k v ev => ?_, fun k v ev => ?_⟩
  · rw [List.nodup_cons, List.nodup_cons, List.nodup_append]
    simp only [List.mem_cons, List.mem_append, not_or, List.not_mem_nil, or_false]
    refine ⟨⟨n1, ⟨n2, qJ⟩, n3⟩, ⟨⟨n4, qR⟩, n5⟩, WW.nodup_snoc n6 qj, n7, fun a ma b mb e => ?_⟩
    subst e
    rcases ma with ma | ma
    · exact n8 a ma mb
    · exact qr (by rw [← ma]; exact mb)
  · simp only [List.mem_cons, List.mem_append, List.not_mem_nil, or_false] at m
    by_cases e : p = q
    · subst e; exact s.free hq
    · exact t.fr p (by simp only [List.mem_cons, List.mem_append]; rcases m with m | m | (m | m) | m <;> simp_all)
  · by_cases lk : k < js.length
    · rw [List.getElem?_append_left lk] at ev
      rw [if_neg (by omega), upd_ne (fun z => n2 (by rw [← z]; exact List.mem_of_getElem? ev)), upd_ne (fun z => qj (by rw [← z]; exact List.mem_of_getElem? ev))]
      exact t.hj k v ev
    · have : k = js.length := by
        have := (List.getElem?_eq_some_iff.mp ev).1
        rw [List.length_append] at this
        simp at this
        omega
      subst this
      rw [List.getElem?_append_right (by omega), Nat.sub_self] at ev
      cases ev
      rw [if_pos rfl, upd_ne qJ.symm, upd_same]
  · rw [upd_ne (fun z => n3 (by rw [← z]; exact List.mem_of_getElem? ev)), upd_ne (fun z => qr (by rw [← z]; exact List.mem_of_getElem? ev))]
    exact t.hr k v ev
theorem Tw.newR {H0 H : Hp} {J R q : Addr} {js rs : List Addr} {cj cr : Nat → List V} (t : Tw H0 H J R js rs cj cr) (s : Same H0 H) (hq : H q = none) : Tw H0 (upd (upd H q (.lst [])) R (.lst (rs.map V.ref ++ [.ref q]))) J R js (rs ++ [q]) cj (fun k => if k = rs.length then [] else cr k) := by
  obtain ⟨n1, n2, n3, n4, n5, n6, n7, n8⟩ := t.nds
  have qJ : J ≠ q := ne_of_none t.eJ hq
  have qR : R ≠ q := ne_of_none t.eR hq
  have qj : q ∉ js := fun m => by
    obtain ⟨i, e⟩ := List.getElem?_of_mem m
    rw [t.hj i q e] at hq; cases hq
  have qr : q ∉ rs := fun m => by
    obtain ⟨i, e⟩ := List.getElem?_of_mem m
    rw [t.hr i q e] at hq; cases hq
  refine ⟨?_, fun p m => ?_, by rw [upd_ne n1, upd_ne qJ]; exact t.eJ, by rw [upd_same, List.map_append]; rfl, fun k v ev => ?_, fun k v ev => ?_⟩
  · rw [List.nodup_cons, List.nodup_cons, List.nodup_append]
    simp only [List.mem_cons, List.mem_append, not_or, List.not_mem_nil, or_false]
    refine ⟨⟨n1, n2, n3, qJ⟩, ⟨n4, n5, qR⟩, n6, WW.nodup_snoc n7 qr, fun a ma b mb e => ?_⟩
    subst e
    rcases mb with mb | mb
    · exact n8 a ma mb
    · exact qj (by rw [← mb]; exact ma)
  · simp only [List.mem_cons, List.mem_append, List.not_mem_nil, or_false] at m
    by_cases e : p = q
    · subst e; exact s.free hq
    · exact t.fr p (by simp only [List.mem_cons, List.mem_append]; rcases m with m | m | m | m | m <;> simp_all)
  · rw [upd_ne (fun z => n4 (by rw [← z]; exact List.mem_of_getElem? ev)), upd_ne (fun z => qj (by rw [← z]; exact List.mem_of_getElem? ev))]
    exact t.hj k v ev
  · by_cases lk : k < rs.length
    · rw [List.getElem?_append_left lk] at ev
      rw [if_neg (by omega), upd_ne (fun z => n5 (by rw [← z]; exact List.mem_of_getElem? ev)), upd_ne (fun z => qr (by rw [← z]; exact List.mem_of_getElem? ev))]
      exact t.hr k v ev
    · have : k = rs.length := by
        have := (List.getElem?_eq_some_iff.mp ev).1
        rw [List.length_append] at this
        simp at this
        omega
      subst this
      rw [List.getElem?_append_right (by omega), Nat.sub_self] at ev
      cases ev
      rw [if_pos rfl, upd_ne qR.symm, upd_same]
/-- what stands in a row so far -/
def prt (b : Nat) (g : Nat → Nat) : List V := (List.range b).map fun c => V.int (g c : Nat)
theorem prt_more {b : Nat} {g : Nat → Nat} : prt b g ++ [V.int (g b : Nat)] = prt (b + 1) g := by unfold prt; rw [List.range_succ, List.map_append]; rfl
def spLaws34 : Sp := fun vs H Q _ => ∃ (b : Addr) (n o : Nat) (P : Nat → Nat → Nat), vs = [.ref b, .int o] ∧ TabXL H b n P ∧ 1 ≤ n ∧ n ≤ 4 ∧ o < n ∧ (∀ a b, a < n → b < n → P a b < n) ∧
  ∀ (t x y : Addr) (H' : Hp), Same H H' → H' t = some (.lst [.ref x, .ref y, .int 0, .int ((2 ^ o : Nat) : Int)]) → TabXL H' x (2 ^ n) (fun a b => a ||| b) → TabXL H' y (2 ^ n) (lotP n P) → Q (.ref t) H'
theorem or_of {n a b t : Nat} (ha : a < 2 ^ n) (hb : b < 2 ^ n) (h : ∀ z, t.testBit z = true ↔ z ∈ bitsL n a ++ bitsL n b) : t = a ||| b := RK.bits_eq fun z => by
  rw [h z, List.mem_append, bitsL_mem, bitsL_mem, Nat.testBit_or, Bool.or_eq_true]
  constructor
  · rintro (⟨_, e⟩ | ⟨_, e⟩)
    · exact .inl e
    · exact .inr e
  · rintro (e | e)
    · exact .inl ⟨RK.bit_lt ha e, e⟩
    · exact .inr ⟨RK.bit_lt hb e, e⟩
theorem lot_of {n a b t : Nat} {P : Nat → Nat → Nat} (h : ∀ z, t.testBit z = true ↔ ∃ x ∈ bitsL n a, ∃ y ∈ bitsL n b, P x y = z) : t = lotP n P a b := RK.bits_eq fun z => by
  rw [h z, RK.lot_bit]
  constructor
  · rintro ⟨x, mx, y, my, e⟩
    rw [bitsL_mem] at mx my
    exact ⟨x, y, mx.1, my.1, mx.2, my.2, e⟩
  · rintro ⟨x, y, h1, h2, h3, h4, e⟩
    exact ⟨x, bitsL_mem.mpr ⟨h1, h3⟩, y, bitsL_mem.mpr ⟨h2, h4⟩, e⟩
theorem few : ∀ {n : Nat} {ks : List Nat}, ks.Nodup → (∀ k ∈ ks, k < n) → ks.length ≤ n
  | 0, [], _, _ => Nat.le_refl _
  | 0, k :: _, _, lt => absurd (lt k (List.mem_cons_self ..)) (Nat.not_lt_zero k)
  | n + 1, ks, nd, lt => by
    by_cases m : n ∈ ks
    · have := few (n := n) (ks := ks.erase n) (nd.erase n) fun k mk => by
        have h := (List.Nodup.mem_erase_iff nd).mp mk
        have := lt k h.2
        omega
      rw [List.length_erase_of_mem m] at this
      omega
    · have := few (n := n) (ks := ks) nd fun k mk => by
        have := lt k mk
        have : k ≠ n := fun z => m (z ▸ mk)
        omega
      omega
section
variable {P : Program} {w : World} {K : PySem.W.Frag} {mg : Str → Option Value} {base : Heap}
theorem ok_law_lots (T : Top K mg) : FnOk P w K mg base CX0 2 T.f_law_lots T.fd_law_lots ["products", "one"] spLaws34 := by
  refine T.F_law_lots.ok sc_law_lots (fun vs H Q E h => ?_) (fun cdv A outer s H vs Q E hr h => ?_)
  · obtain ⟨b, n, o, P, rfl, _⟩ := h; rfl
  · obtain ⟨b, n, o, P', rfl, tb, n1, n4, on, pn, k⟩ := h
    refine ⟨_, (pss_cons (ps_set (i := 2) sc_law_lots.nd rfl (Or.inr rfl) (pe_callB RD.c_len (by rfl) T.n_len (by decide +kernel) (pa_cons (pv 0) pa_nil)))
 (pss_cons (ps_set (i := 3) sc_law_lots.nd rfl (Or.inl rfl) (pe_op op_shl pe_int (pv 2)))
 (pss_cons (ps_setLc (i := 4) (own := [("lot", 5)]) (g := (gName 5)) (tt := tYes) rfl sc_law_lots.nd rfl rfl (sw_true rfl rfl rfl (by decide +kernel)) (pi_range1 (by rfl) T.n_range (pa_cons (pv 3) pa_nil)) (blkOk_by (own := [("lot", 5)]) (N := ["products", "one", "many", "size", "lots_of", "lot", "thing", "joins", "rows", "a", "b", "both", "all_products", "x", "y"]) (sc := defScope s_law_lots) (by decide +kernel)) (fun _ _ _ _ _ => (pg_name (i := 5) sc_law_lots.nd rfl (by first | exact Or.inl rfl | exact Or.inr rfl))) (fun _ _ _ _ _ => pts_nil) (fun _ _ _ _ _ => (pe_lc (own := [("thing", 6)]) (g := (gName 6)) (tt := _) rfl sc_law_lots.nd (pi_range1 (by rfl) T.n_range (pa_cons (pv 2) pa_nil)) (blkOk_by (own := [("thing", 6)]) (N := ["products", "one", "many", "size", "lots_of", "lot", "thing", "joins", "rows", "a", "b", "both", "all_products", "x", "y"]) (sc := _) (by kernel_rfl)) (fun _ _ _ _ _ => (pg_name (i := 6) sc_law_lots.nd rfl (by first | exact Or.inl rfl | exact Or.inr rfl))) (fun _ _ _ _ _ => (pts_one (pt_cmpR op_eq (pe_op op_odd (pe_op op_shr (pv 5) (pv 6)) pe_int) pe_int (nomark _)))) (fun _ _ _ _ _ => (pv 6)))))
 (pss_cons (ps_set (i := 7) sc_law_lots.nd rfl (Or.inl rfl) (pe_lst pa_nil))
 (pss_cons (ps_set (i := 8) sc_law_lots.nd rfl (Or.inl rfl) (pe_lst pa_nil))
 (pss_cons (ps_for PassesOwn.never rfl (pi_range1 (by rfl) T.n_range (pa_cons (pv 3) pa_nil)) (pg_name (i := 9) sc_law_lots.nd rfl (Or.inl rfl))
 (pss_cons (ps_expr (pe_bm PySem.F.plainAttrs_list PySem.F.slot_list_append PySem.F.type_list_append mt_append (pv 7) (pa_cons (pe_lst pa_nil) pa_nil)))
 (pss_cons (ps_expr (pe_bm PySem.F.plainAttrs_list PySem.F.slot_list_append PySem.F.type_list_append mt_append (pv 8) (pa_cons (pe_lst pa_nil) pa_nil)))
 (pss_one (ps_for PassesOwn.never rfl (pi_range1 (by rfl) T.n_range (pa_cons (pv 3) pa_nil)) (pg_name (i := 10) sc_law_lots.nd rfl (Or.inl rfl))
 (pss_cons (ps_set (i := 11) sc_law_lots.nd rfl (Or.inl rfl) pe_dnewK)
 (pss_cons (ps_for PassesOwn.never rfl (pi_list (pe_op op_cat (pe_ix ix_list (pv 4) (pv 9) (fun _ _ => rfl)) (pe_ix ix_list (pv 4) (pv 10) (fun _ _ => rfl)))) (pg_name (i := 6) sc_law_lots.nd rfl (Or.inl rfl))
 (pss_one (ps_dput (hu_of hr) (pv 11) (pv 6) pe_bl rfl)))
 (pss_cons (ps_expr (pe_bm PySem.F.plainAttrs_list PySem.F.slot_list_append PySem.F.type_list_append mt_append (pe_ix ix_list (pv 7) (pv 9) (fun _ _ => rfl)) (pa_cons (pe_call (ok_law_sum T) (hr.mono (by decide)) (by rfl) T.g_law_sum T.F_law_sum.kp T.b_law_sum .nil pass0 (pa_cons (pv 11) pa_nil)) pa_nil)))
 (pss_cons (ps_set (i := 12) sc_law_lots.nd rfl (Or.inl rfl) pe_dnewK)
 (pss_cons (ps_for PassesOwn.never rfl (pi_list (pe_ix ix_list (pv 4) (pv 9) (fun _ _ => rfl))) (pg_name (i := 13) sc_law_lots.nd rfl (Or.inl rfl))
 (pss_one (ps_for PassesOwn.never rfl (pi_list (pe_ix ix_list (pv 4) (pv 10) (fun _ _ => rfl))) (pg_name (i := 14) sc_law_lots.nd rfl (Or.inl rfl))
 (pss_one (ps_dput (hu_of hr) (pv 12) (pe_ix ix_list (pe_ix ix_list (pv 0) (pv 13) (fun _ _ => rfl)) (pv 14) (fun _ _ => rfl)) pe_bl rfl)))))
 (pss_one (ps_expr (pe_bm PySem.F.plainAttrs_list PySem.F.slot_list_append PySem.F.type_list_append mt_append (pe_ix ix_list (pv 8) (pv 9) (fun _ _ => rfl)) (pa_cons (pe_call (ok_law_sum T) (hr.mono (by decide)) (by rfl) T.g_law_sum T.F_law_sum.kp T.b_law_sum .nil pass0 (pa_cons (pv 12) pa_nil)) pa_nil))))))))))))))
 (pss_one (ps_ret (pe_lst (pa_cons (pv 7) (pa_cons (pv 8) (pa_cons pe_int (pa_cons (pe_op op_shl pe_int (pv 1)) pa_nil))))))))))))), ?_⟩
    walk_at "tx"
    refine tb.x.len ?_
    walk_at "tx"
    refine rI_sh (n := n) (by omega) ?_
    have N16 : 2 ^ n ≤ 16 := Nat.pow_le_pow_right (n := 2) (by omega) n4
    walk_at "tx"
    have inN : ∀ {a : Nat}, a < 2 ^ n → a < 2 ^ n := fun h => h
    generalize eN : 2 ^ n = N at *
    refine ⟨(N : Int), rfl, by omega, by omega, fun L hL => ?_⟩
    refine lc_range (lo := 0) (n := (N : Int).toNat) (fun i H' => Same H H' ∧ LotsAt H' L i n) ⟨same_upd hL, [], rfl, upd_same, (fun _ _ e => nomatch e)⟩ ?_ ?_
    · rintro i H' hi' ⟨s1, us, lu, eL, all⟩
      have hi : i < N := by omega
      walk_at "tx"
      refine ⟨n, rfl, by omega, by omega, fun D2 hD2 => ?_⟩
      refine lc_range (lo := 0) (n := (n : Int).toNat) (fun j H'' => Same H' H'' ∧ H'' D2 = some (.lst (((List.range j).filter fun t => i.testBit t).map fun (t : Nat) => V.int t))) ⟨same_upd hD2, upd_same⟩ ?_ ?_
      · rintro j H'' hj' ⟨s2, eD2⟩
        have hj : j < n := by omega
        walk_at "tx"
        refine ⟨_, _, rfl, rfl, by omega, ?_⟩
        walk_at "tx"
        refine ⟨i / 2 ^ j, by rw [Int.zero_add]; exact shr_nat, rfl, ?_⟩
        walk_at "tx"
        refine RD.iteD (fun c1 => ?_) (fun c1 => ?_)
        · have b1 := bit_odd.mp c1
          walk_at "tx"
          refine ⟨_, eD2, by rw [List.length_map]; exact Nat.lt_of_le_of_lt (Nat.le_trans (List.length_filter_le _ _) (by rw [List.length_range]; omega : _ ≤ 4)) (by decide), same_put s2 hD2, ?_⟩
          rw [upd_same, List.range_succ, List.filter_append, List.map_append, List.filter_cons_of_pos (by exact b1), Int.zero_add]; rfl
        · have b1 : ¬ i.testBit j = true := fun z => c1 (bit_odd.mpr z)
          walk_at "tx"
          refine ⟨s2, ?_⟩
          rw [List.range_succ, List.filter_append, List.filter_cons_of_neg (by exact b1)]
          rw [List.filter_nil, List.append_nil]; exact eD2
      · rintro H'' ⟨s2, eD2⟩
        rw [Int.toNat_natCast] at eD2
        have eL2 := s2 _ _ eL
        refine ⟨_, eL2, by rw [List.length_map, lu]; exact Nat.lt_of_lt_of_le hi (Nat.le_trans N16 (by decide)), same_put (s1.trans s2) hL, us ++ [D2], by rw [List.length_append, lu]; rfl, by rw [upd_same, List.map_append]; rfl, fun j u e => ?_⟩
        by_cases lj : j < us.length
        · rw [List.getElem?_append_left lj] at e
          rw [upd_ne (fun z => by
            subst z
            rw [all j _ e] at eL
            have := refs_ints (HO.lst.inj (Option.some.inj eL)).symm
            subst this
            simp at lj)]
          exact s2 _ _ (all j u e)
        · have q : j = i := by
            have := (List.getElem?_eq_some_iff.mp e).1
            rw [List.length_append, lu] at this
            simp at this
            omega
          subst q
          rw [List.getElem?_append_right (by omega), lu, Nat.sub_self] at e
          cases e
          rw [upd_ne (fun z => by rw [z, eL] at hD2; cases hD2)]
          exact eD2
    rintro H1 ⟨s1, lo⟩
    rw [Int.toNat_natCast] at lo
    replace tb := tb.same s1
    walk_at "tx"
    refine ⟨by show 0 ≤ sizeLine; decide, fun J hJ => ?_⟩
    have s2 := same_upd (o := HO.lst []) hJ
    have eJ : upd H1 J (.lst []) J = some (.lst []) := upd_same
    generalize upd H1 J (.lst []) = H2 at *
    walk_at "tx"
    refine ⟨by show 0 ≤ sizeLine; decide, fun R hR => ?_⟩
    have s3 := same_upd (o := HO.lst []) hR
    have hR0 := s2.free hR
    have tw : Tw H1 (upd H2 R (.lst [])) J R [] [] (fun _ => []) (fun _ => []) := ⟨by simp; exact ne_of_none eJ hR, fun p m => by
      rcases List.mem_cons.mp m with rfl | m
      · exact hJ
      · rw [List.mem_singleton.mp m]; exact hR0, s3 _ _ eJ, upd_same, (fun _ _ e => nomatch e), (fun _ _ e => nomatch e)⟩
    replace s2 := s2.trans s3
    clear s3 hR eJ
    generalize upd H2 R (.lst []) = H3 at *
    walk_at "tx"
    refine ⟨(N : Int), rfl, by omega, by omega, ?_⟩
    refine RD.f_range (lo := 0) (n := (N : Int).toNat) (fun i σ' H' => (∃ v6 v9 v10 v11 v12 v13 v14 : Option V, σ' = [some (.ref b), some (.int o), some (.int n), some (.int N), some (.ref L), none, v6, some (.ref J), some (.ref R), v9, v10, v11, v12, v13, v14]) ∧ ∃ (js rs : List Addr) (cj cr : Nat → List V), Same H1 H' ∧ Tw H1 H' J R js rs cj cr ∧ js.length = i ∧ rs.length = i ∧ (∀ k, k < i → cj k = prt N (fun c => k ||| c)) ∧ (∀ k, k < i → cr k = prt N (lotP n P' k))) ⟨⟨_, _, _, _, _, _, _, rfl⟩, [], [], _, _, s2, tw, rfl, rfl, (fun k z => by omega), (fun k z => by omega)⟩ ?_ ?_
    · clear tw s2
      rintro i σ' H4 hi' ⟨⟨v6, v9, v10, v11, v12, v13, v14, rfl⟩, js, rs, cj, cr, s4, tw, lj, lr, fj, fr⟩
      have hi : i < N := by omega
      walk_at "tx"
      refine ⟨RD.tyL tw.eJ, ?_⟩
      walk_at "tx"
      refine ⟨by show 0 ≤ sizeLine; decide, fun q hq => ?_⟩
      walk_at "tx"
      refine RD.d_app ((same_upd hq) _ _ tw.eJ) (by rw [List.length_map, lj]; exact Nat.lt_of_lt_of_le hi (Nat.le_trans N16 (by decide))) ?_
      have hq1 := s4.free hq
      have s5 := same_off (o := HO.lst (js.map V.ref ++ [.ref q])) (s4.trans (same_upd (o := HO.lst []) hq)) (tw.fr J (List.mem_cons_self ..))
      replace tw := tw.newJ s4 hq
      generalize upd (upd H4 q (.lst [])) J (.lst (js.map V.ref ++ [.ref q])) = H5 at *
      walk_at "tx"
      refine ⟨RD.tyL tw.eR, ?_⟩
      walk_at "tx"
      refine ⟨by show 0 ≤ sizeLine; decide, fun q' hq' => ?_⟩
      walk_at "tx"
      refine RD.d_app ((same_upd hq') _ _ tw.eR) (by rw [List.length_map, lr]; exact Nat.lt_of_lt_of_le hi (Nat.le_trans N16 (by decide))) ?_
      have s6 := same_off (o := HO.lst (rs.map V.ref ++ [.ref q'])) (s5.trans (same_upd (o := HO.lst []) hq')) (tw.fr R (List.mem_cons_of_mem _ (List.mem_cons_self ..)))
      replace tw := tw.newR s5 hq'
      generalize upd (upd H5 q' (.lst [])) R (.lst (rs.map V.ref ++ [.ref q'])) = H6 at *
      rw [lj, lr] at tw
      have ljq : (js ++ [q])[i]? = some q := by rw [List.getElem?_append_right (by omega), lj, Nat.sub_self]; rfl
      have lrq : (rs ++ [q'])[i]? = some q' := by rw [List.getElem?_append_right (by omega), lr, Nat.sub_self]; rfl
      have lj1 : (js ++ [q]).length = i + 1 := by rw [List.length_append, lj]; rfl
      have lr1 : (rs ++ [q']).length = i + 1 := by rw [List.length_append, lr]; rfl
      replace fj : ∀ k, k < i → (fun k => if k = i then [] else cj k) k = prt N (fun c => k ||| c) := fun k hk => by
        show (if k = i then [] else cj k) = _
        rw [if_neg (by omega)]; exact fj k hk
      replace fr : ∀ k, k < i → (fun k => if k = i then [] else cr k) k = prt N (lotP n P' k) := fun k hk => by
        show (if k = i then [] else cr k) = _
        rw [if_neg (by omega)]; exact fr k hk
      have gj : (fun k => if k = i then [] else cj k) i = prt 0 (fun c => i ||| c) := if_pos rfl
      have gr : (fun k => if k = i then [] else cr k) i = prt 0 (lotP n P' i) := if_pos rfl
      clear s4 s5 hq hq' hq1 lj lr
      generalize (js ++ [q]) = js' at *
      generalize (rs ++ [q']) = rs' at *
      generalize (fun k => if k = i then [] else cj k) = cj' at *
      generalize (fun k => if k = i then [] else cr k) = cr' at *
      clear js rs cj cr
      walk_at "tx"
      refine ⟨(N : Int), rfl, by omega, by omega, ?_⟩
      refine RD.f_range (lo := 0) (n := (N : Int).toNat) (fun j σ' H' => (∃ v6 v10 v11 v12 v13 v14 : Option V, σ' = [some (.ref b), some (.int o), some (.int n), some (.int N), some (.ref L), none, v6, some (.ref J), some (.ref R), some (.int (0 + i)), v10, v11, v12, v13, v14]) ∧ ∃ (cj cr : Nat → List V), Same H1 H' ∧ Tw H1 H' J R js' rs' cj cr ∧ (∀ k, k < i → cj k = prt N (fun c => k ||| c)) ∧ (∀ k, k < i → cr k = prt N (lotP n P' k)) ∧ cj i = prt j (fun c => i ||| c) ∧ cr i = prt j (lotP n P' i)) ⟨⟨_, _, _, _, _, _, rfl⟩, cj', cr', s6, tw, fj, fr, gj, gr⟩ ?_ ?_
      · clear tw s6 fj fr gj gr
        rintro j σ' H7 hj' ⟨⟨v6, v10, v11, v12, v13, v14, rfl⟩, cj, cr, s7, tw, fj, fr, gj, gr⟩
        have hj : j < N := by omega
        obtain ⟨xa, ra, exa, era, eva⟩ := (lo.same s7).row hi
        obtain ⟨xb, rb, exb, erb, evb⟩ := (lo.same s7).row hj
        walk_at "tx"
        refine fun d hd => ?_
        have s8 := same_upd (o := HO.dK []) hd
        have ed : upd H7 d (.dK []) d = some (.dK []) := upd_same
        have hd1 := s7.free hd
        replace tw := tw.same s8
        replace exa := s8 _ _ exa
        replace exb := s8 _ _ exb
        replace eva := s8 _ _ eva
        replace evb := s8 _ _ evb
        replace s8 := s7.trans s8
        clear hd
        generalize upd H7 d (.dK []) = H8 at *
        walk_at "tx"
        refine RD.d_ixL (SqL.of exa) (by rw [Int.zero_add]; exact era) ?_
        walk_at "tx"
        refine RD.d_ixL (SqL.of exb) (by rw [Int.zero_add]; exact erb) ?_
        have la : (bitsL n i).length ≤ 4 := Nat.le_trans bitsL_len n4
        have lb : (bitsL n j).length ≤ 4 := Nat.le_trans bitsL_len n4
        refine ⟨ra, rb, _, _, rfl, rfl, eva, evb, by rw [List.length_map, List.length_map]; exact Nat.le_trans (Nat.add_le_add la lb) (by decide), fun C hC => ?_⟩
        rw [← List.map_append]
        have s9 := same_upd (o := HO.lst ((bitsL n i ++ bitsL n j).map fun (t : Nat) => V.int t)) hC
        have eC : upd H8 C (.lst ((bitsL n i ++ bitsL n j).map fun (t : Nat) => V.int t)) C = some (.lst ((bitsL n i ++ bitsL n j).map fun (t : Nat) => V.int t)) := upd_same
        have ndC : C ≠ d := (ne_of_none ed hC).symm
        replace ed := s9 _ _ ed
        replace tw := tw.same s9
        replace exa := s9 _ _ exa
        replace exb := s9 _ _ exb
        replace eva := s9 _ _ eva
        replace evb := s9 _ _ evb
        replace s9 := s8.trans s9
        clear s8 hC
        generalize upd H8 C (.lst ((bitsL n i ++ bitsL n j).map fun (t : Nat) => V.int t)) = H9 at *
        refine ⟨C, rfl, ⟨_, SqL.of eC⟩, ?_⟩
        refine RD.f_list (K := K) (a := C) (xs := (bitsL n i ++ bitsL n j).map fun (t : Nat) => V.int t) (fun m σ' H' => (∃ v6 : Option V, σ' = [some (.ref b), some (.int o), some (.int n), some (.int N), some (.ref L), none, v6, some (.ref J), some (.ref R), some (.int (0 + i)), some (.int (0 + j)), some (.ref d), v12, v13, v14]) ∧ ∃ kvs ks, H' = upd H9 d (.dK kvs) ∧ Sd kvs ks ∧ ∀ w, w ∈ ks ↔ w ∈ (bitsL n i ++ bitsL n j).take m) ⟨⟨_, rfl⟩, [], [], (upd_id ed).symm, Sd.nil, fun w => by simp⟩ (fun m σ' H' _ z => by obtain ⟨_, _, _, rfl, _⟩ := z; exact SqL.of (by rw [upd_ne ndC]; exact eC)) ?_ ?_
        · rintro m x σ' H' hm ⟨⟨v6, rfl⟩, kvs, ks, rfl, sd, mem⟩
          rw [List.getElem?_map] at hm
          cases e : (bitsL n i ++ bitsL n j)[m]? with
          | none => rw [e] at hm; cases hm
          | some y =>
            rw [e] at hm; cases hm
            walk_at "tx"
            obtain ⟨ks', sd', mem'⟩ := sd.put y
            have l16 : kvs.length < sizeLine := by
              have : kvs.length = ks.length := by rw [sd.1, List.length_map]
              rw [this]
              refine Nat.lt_of_le_of_lt (few sd.2 fun k mk => ?_) (by decide : 4 < sizeLine)
              have := List.mem_of_mem_take ((mem k).mp mk)
              rcases List.mem_append.mp this with h | h <;> (have := (bitsL_mem.mp h).1; omega)
            refine ⟨_, rfl, _, rfl, d, _, rfl, DPut.k (k := Sum.inl (y : Int)) upd_same l16, ?_⟩
            rw [upd_upd]
            refine ⟨⟨_, rfl⟩, _, ks', rfl, sd', fun w => ?_⟩
            rw [mem', mem, List.take_succ, e, List.mem_append, Option.toList_some, List.mem_singleton]
            exact Or.comm
        rintro σ' H' ⟨⟨v6, rfl⟩, kvs, ks, rfl, sd, mem⟩
        rw [List.length_map, List.take_length] at mem
        have ks4 : ∀ k ∈ ks, k < n := fun k mk => by
          rcases List.mem_append.mp ((mem k).mp mk) with h | h <;> exact (bitsL_mem.mp h).1
        have ed' : upd H9 d (.dK kvs) d = some (.dK kvs) := upd_same
        have s10 := same_off (o := HO.dK kvs) s9 hd1
        replace tw : Tw H1 (upd H9 d (.dK kvs)) J R js' rs' cj cr := by
          have ne : ∀ {p : Addr} {ys : List V}, H9 p = some (.lst ys) → upd H9 d (.dK kvs) p = some (.lst ys) := fun {p ys} e => by
            rw [upd_ne (fun z => by subst z; rw [ed] at e; cases e)]; exact e
          exact ⟨tw.nd, tw.fr, ne tw.eJ, ne tw.eR, fun k u e => ne (tw.hj k u e), fun k u e => ne (tw.hr k u e)⟩
        clear ed exa exb eva evb eC s9 ndC
        generalize upd H9 d (.dK kvs) = H10 at *
        obtain ⟨u, hu⟩ : ∃ u, js'[i]? = some u := ⟨_, List.getElem?_eq_getElem (by omega)⟩
        obtain ⟨u2, hu2⟩ : ∃ u2, rs'[i]? = some u2 := ⟨_, List.getElem?_eq_getElem (by omega)⟩
        have eJi : atI (js'.map V.ref) ((0 : Int) + i) = some (.ref u) := by rw [Int.zero_add]; exact atI_nat (by rw [List.getElem?_map, hu]; rfl)
        have eRi : atI (rs'.map V.ref) ((0 : Int) + i) = some (.ref u2) := by rw [Int.zero_add]; exact atI_nat (by rw [List.getElem?_map, hu2]; rfl)
        walk_at "tx"
        refine RD.d_bm ?_
        walk_at "tx"
        refine RD.d_ixL (SqL.of tw.eJ) eJi ?_
        have eu := tw.hj i u hu
        rw [gj] at eu
        refine ⟨RD.tyL eu, ?_⟩
        walk_at "tx"
        refine ⟨d, kvs, ks, rfl, ed', sd, fun k mk => by have := ks4 k mk; omega, Nat.lt_of_le_of_lt (few sd.2 ks4) (by omega), fun t H11 s11 ht => ?_⟩
        have et := or_of (n := n) (a := i) (b := j) (by rw [eN]; exact hi) (by rw [eN]; exact hj) (fun z => by rw [ht z, mem z])
        subst et
        replace eu := s11 _ _ eu
        replace tw := tw.same s11
        replace s11 := s10.trans s11
        walk_at "tx"
        refine RD.d_app eu (by unfold prt; rw [List.length_map, List.length_range]; exact Nat.lt_of_lt_of_le hj (Nat.le_trans N16 (by decide))) ?_
        rw [prt_more]
        replace tw := tw.putJ (xs := prt (j + 1) (fun c => i ||| c)) hu
        replace s11 := same_off (o := HO.lst (prt (j + 1) (fun c => i ||| c))) s11 (tw.fr u (by simp only [List.mem_cons, List.mem_append]; exact .inr (.inr (.inl (List.mem_of_getElem? hu)))))
        replace fj : ∀ k, k < i → (fun k => if k = i then prt (j + 1) (fun c => i ||| c) else cj k) k = prt N (fun c => k ||| c) := fun k hk => by
          show (if k = i then _ else cj k) = _
          rw [if_neg (by omega)]; exact fj k hk
        replace gj : (fun k => if k = i then prt (j + 1) (fun c => i ||| c) else cj k) i = prt (j + 1) (fun c => i ||| c) := if_pos rfl
        clear s10 eu ed' mem ht sd
        generalize upd H11 u (.lst (prt (j + 1) (fun c => i ||| c))) = H12 at *
        generalize (fun k => if k = i then prt (j + 1) (fun c => i ||| c) else cj k) = cj2 at *
        clear H10 H9 H8
        obtain ⟨xa, ra, exa, era, eva⟩ := (lo.same s11).row hi
        obtain ⟨xb, rb, exb, erb, evb⟩ := (lo.same s11).row hj
        have tb12 := tb.same s11
        walk_at "tx"
        refine fun d2 hd2 => ?_
        have s12 := same_upd (o := HO.dK []) hd2
        have ed : upd H12 d2 (.dK []) d2 = some (.dK []) := upd_same
        have hd21 := s11.free hd2
        replace tw := tw.same s12
        replace exa := s12 _ _ exa
        replace exb := s12 _ _ exb
        replace eva := s12 _ _ eva
        replace evb := s12 _ _ evb
        replace tb12 := tb12.same s12
        replace s12 := s11.trans s12
        clear s11 hd2
        generalize upd H12 d2 (.dK []) = H13 at *
        have ne : ∀ {p : Addr} {ys : List V} {kvs : List (Key × V)}, H13 p = some (.lst ys) → upd H13 d2 (.dK kvs) p = some (.lst ys) := fun {p ys kvs} e => by
          rw [upd_ne (fun z => by subst z; rw [ed] at e; cases e)]; exact e
        walk_at "tx"
        refine RD.d_ixL (SqL.of exa) (by rw [Int.zero_add]; exact era) ?_
        refine ⟨ra, rfl, ⟨_, SqL.of eva⟩, ?_⟩
        refine RD.f_list (K := K) (a := ra) (xs := (bitsL n i).map fun (t : Nat) => V.int t) (fun m σ' H' => (∃ v13 v14 : Option V, σ' = [some (.ref b), some (.int o), some (.int n), some (.int N), some (.ref L), none, v6, some (.ref J), some (.ref R), some (.int (0 + i)), some (.int (0 + j)), some (.ref d), some (.ref d2), v13, v14]) ∧ ∃ kvs ks, H' = upd H13 d2 (.dK kvs) ∧ Sd kvs ks ∧ ∀ w, w ∈ ks ↔ ∃ x ∈ (bitsL n i).take m, ∃ y ∈ bitsL n j, P' x y = w) ⟨⟨_, _, rfl⟩, [], [], (upd_id ed).symm, Sd.nil, fun w => by simp⟩ (fun m σ' H' _ z => by obtain ⟨_, _, _, rfl, _⟩ := z; exact SqL.of (ne eva)) ?_ ?_
        · rintro m x σ' H' hm ⟨⟨v13, v14, rfl⟩, kvs, ks, rfl, sd, mem⟩
          rw [List.getElem?_map] at hm
          cases e : (bitsL n i)[m]? with
          | none => rw [e] at hm; cases hm
          | some x =>
            rw [e] at hm; cases hm
            have hx := (bitsL_mem.mp (List.mem_of_getElem? e)).1
            walk_at "tx"
            refine RD.d_ixL (SqL.of (ne exb)) (by rw [Int.zero_add]; exact erb) ?_
            refine ⟨rb, rfl, ⟨_, SqL.of (ne evb)⟩, ?_⟩
            refine RD.f_list (K := K) (a := rb) (xs := (bitsL n j).map fun (t : Nat) => V.int t) (fun m2 σ' H' => (∃ v14 : Option V, σ' = [some (.ref b), some (.int o), some (.int n), some (.int N), some (.ref L), none, v6, some (.ref J), some (.ref R), some (.int (0 + i)), some (.int (0 + j)), some (.ref d), some (.ref d2), some (.int x), v14]) ∧ ∃ kvs ks, H' = upd H13 d2 (.dK kvs) ∧ Sd kvs ks ∧ ∀ w, w ∈ ks ↔ (∃ x ∈ (bitsL n i).take m, ∃ y ∈ bitsL n j, P' x y = w) ∨ ∃ y ∈ (bitsL n j).take m2, P' x y = w) ⟨⟨_, rfl⟩, kvs, ks, rfl, sd, fun w => by rw [mem w]; simp⟩ (fun m σ' H' _ z => by obtain ⟨_, _, _, rfl, _⟩ := z; exact SqL.of (ne evb)) ?_ ?_
            · clear mem sd
              clear ks kvs
              rintro m2 z' σ' H' hm2 ⟨⟨v14, rfl⟩, kvs, ks, rfl, sd, mem⟩
              rw [List.getElem?_map] at hm2
              cases e2 : (bitsL n j)[m2]? with
              | none => rw [e2] at hm2; cases hm2
              | some y =>
                rw [e2] at hm2; cases hm2
                have hy := (bitsL_mem.mp (List.mem_of_getElem? e2)).1
                obtain ⟨xp, rp, exp', erp, evp⟩ := tb12.row hx
                obtain ⟨ks', sd', mem'⟩ := sd.put (P' x y)
                have l16 : kvs.length < sizeLine := by
                  have : kvs.length = ks.length := by rw [sd.1, List.length_map]
                  rw [this]
                  refine Nat.lt_of_le_of_lt (few sd.2 fun k mk => ?_) (by decide : 4 < sizeLine)
                  rcases (mem k).mp mk with ⟨x, mx, y, my, rfl⟩ | ⟨y, my, rfl⟩
                  · have := pn x y (bitsL_mem.mp (List.mem_of_mem_take mx)).1 (bitsL_mem.mp my).1
                    omega
                  · have := pn x y hx (bitsL_mem.mp (List.mem_of_mem_take my)).1
                    omega
                walk_at "tx"
                refine ⟨_, rfl, ?_⟩
                walk_at "tx"
                refine RD.d_ixL (SqL.of (ne exp')) erp ?_
                walk_at "tx"
                refine RD.d_ixL (SqL.of (ne evp)) (row_cell hy) ?_
                refine ⟨d2, _, rfl, DPut.k (k := Sum.inl ((P' x y : Nat) : Int)) upd_same l16, ?_⟩
                rw [upd_upd]
                refine ⟨⟨_, rfl⟩, _, ks', rfl, sd', fun w => ?_⟩
                rw [mem', mem, List.take_succ, e2]
                constructor
                · rintro (rfl | h | ⟨y', my', h⟩)
                  · exact .inr ⟨y, List.mem_append_right _ (by simp), rfl⟩
                  · exact .inl h
                  · exact .inr ⟨y', List.mem_append_left _ my', h⟩
                · rintro (h | ⟨y', my', h⟩)
                  · exact .inr (.inl h)
                  · rcases List.mem_append.mp my' with my' | my'
                    · exact .inr (.inr ⟨y', my', h⟩)
                    · have : y' = y := by simpa using my'
                      subst this
                      exact .inl h.symm
            · rintro σ' H' ⟨⟨v14, rfl⟩, kvs, ks, rfl, sd, mem⟩
              rw [List.length_map, List.take_length] at mem
              refine ⟨⟨_, _, rfl⟩, kvs, ks, rfl, sd, fun w => ?_⟩
              rw [mem, List.take_succ, e]
              constructor
              · rintro (⟨x', mx', h⟩ | h)
                · exact ⟨x', List.mem_append_left _ mx', h⟩
                · exact ⟨x, List.mem_append_right _ (by simp), h⟩
              · rintro ⟨x', mx', h⟩
                rcases List.mem_append.mp mx' with mx' | mx'
                · exact .inl ⟨x', mx', h⟩
                · have : x' = x := by simpa using mx'
                  subst this
                  exact .inr h
        rintro σ' H' ⟨⟨v13, v14, rfl⟩, kvs, ks, rfl, sd, mem⟩
        rw [List.length_map, List.take_length] at mem
        have ks4 : ∀ k ∈ ks, k < n := fun k mk => by
          obtain ⟨x, mx, y, my, rfl⟩ := (mem k).mp mk
          exact pn x y (bitsL_mem.mp mx).1 (bitsL_mem.mp my).1
        have ed' : upd H13 d2 (.dK kvs) d2 = some (.dK kvs) := upd_same
        have s13 := same_off (o := HO.dK kvs) s12 hd21
        replace tw : Tw H1 (upd H13 d2 (.dK kvs)) J R js' rs' cj2 cr := ⟨tw.nd, tw.fr, ne tw.eJ, ne tw.eR, fun k u e => ne (tw.hj k u e), fun k u e => ne (tw.hr k u e)⟩
        clear exa exb eva evb s12 tb12
        generalize upd H13 d2 (.dK kvs) = H14 at *
        walk_at "tx"
        refine RD.d_bm ?_
        walk_at "tx"
        refine RD.d_ixL (SqL.of tw.eR) eRi ?_
        have eu := tw.hr i u2 hu2
        rw [gr] at eu
        refine ⟨RD.tyL eu, ?_⟩
        walk_at "tx"
        refine ⟨d2, kvs, ks, rfl, ed', sd, fun k mk => by have := ks4 k mk; omega, Nat.lt_of_le_of_lt (few sd.2 ks4) (by omega), fun t H15 s15 ht => ?_⟩
        have et := lot_of (n := n) (a := i) (b := j) (P := P') (fun z => by rw [ht z, mem z])
        subst et
        replace eu := s15 _ _ eu
        replace tw := tw.same s15
        replace s15 := s13.trans s15
        walk_at "tx"
        refine RD.d_app eu (by unfold prt; rw [List.length_map, List.length_range]; exact Nat.lt_of_lt_of_le hj (Nat.le_trans N16 (by decide))) ?_
        rw [prt_more]
        replace tw := tw.putR (xs := prt (j + 1) (lotP n P' i)) hu2
        replace s15 := same_off (o := HO.lst (prt (j + 1) (lotP n P' i))) s15 (tw.fr u2 (by simp only [List.mem_cons, List.mem_append]; exact .inr (.inr (.inr (List.mem_of_getElem? hu2)))))
        refine ⟨⟨_, _, _, _, _, _, rfl⟩, cj2, _, s15, tw, fj, fun k hk => ?_, gj, if_pos rfl⟩
        show (if k = i then _ else cr k) = _
        rw [if_neg (by omega)]; exact fr k hk
      · rintro σ' H7 ⟨⟨v6, v10, v11, v12, v13, v14, rfl⟩, cj, cr, s7, tw, fj, fr, gj, gr⟩
        rw [Int.toNat_natCast] at gj gr
        refine ⟨⟨_, _, _, _, _, _, _, rfl⟩, js', rs', cj, cr, s7, tw, lj1, lr1, fun k hk => ?_, fun k hk => ?_⟩
        · by_cases e : k = i
          · subst e; exact gj
          · exact fj k (by omega)
        · by_cases e : k = i
          · subst e; exact gr
          · exact fr k (by omega)
    · rintro σ' H4 ⟨⟨v6, v9, v10, v11, v12, v13, v14, rfl⟩, js, rs, cj, cr, s4, tw, lj, lr, fj, fr⟩
      rw [Int.toNat_natCast] at lj lr fj fr
      walk_at "tx"
      refine rI_sh (n := o) (by omega) ?_
      walk_at "tx"
      refine ⟨by show 4 ≤ sizeLine; decide, fun t ht => ?_⟩
      have s5 := same_upd (o := HO.lst [V.ref J, V.ref R, V.int 0, V.int ((2 ^ o : Nat) : Int)]) ht
      refine k t J R _ ((s1.trans s4).trans s5) upd_same ⟨js, by rw [lj], s5 _ _ tw.eJ, fun m u e => s5 _ _ ?_⟩ ⟨rs, by rw [lr], s5 _ _ tw.eR, fun m u e => s5 _ _ ?_⟩
      · have hm : m < N := by have := (List.getElem?_eq_some_iff.mp e).1; omega
        rw [tw.hj m u e, fj m hm]; rfl
      · have hm : m < N := by have := (List.getElem?_eq_some_iff.mp e).1; omega
        rw [tw.hr m u e, fr m hm]; rfl
end

/-! ### told so while the hand moves -/
open OQ (TabX RowX SeqAt)
/-- told so while the hand moves -/
def Stay (K : PySem.W.Frag) (H : Hp) (h c : Addr) (v : V) (d : PyData) : Prop := ∀ H', HandAt H' h c → Kx h H H' → OQ.Dqd K H' v d
theorem Stay.kx {K : PySem.W.Frag} {H H1 : Hp} {h c : Addr} {v : V} {d : PyData} (s : Stay K H h c v d) (k : Kx h H H1) : Stay K H1 h c v d := fun H' hT k' => s H' hT (k.trans k')
/-- told so while what is new behind H0 stays -/
def StayN (K : PySem.W.Frag) (H0 H : Hp) (h c : Addr) (v : V) (d : PyData) : Prop := ∀ H', HandAt H' h c → (∀ b o, H0 b = none → H b = some o → H' b = some o) → OQ.Dqd K H' v d
theorem StayN.kx {K : PySem.W.Frag} {H0 H H1 : Hp} {h c : Addr} {v : V} {d : PyData} (s : StayN K H0 H h c v d) (x : HandAt H0 h c) (k : Kx h H H1) : StayN K H0 H1 h c v d := fun H' hT k' => s H' hT fun b o e1 e2 => k' b o e1 (k b o (fun z => by
  subst z
  obtain ⟨cs, p, q, m, n, e, _⟩ := x
  rw [e1] at e; cases e) e2)
theorem StayN.stay {K : PySem.W.Frag} {H0 H : Hp} {h c : Addr} {v : V} {d : PyData} (s : StayN K H0 H h c v d) (x : HandAt H0 h c) : Stay K H h c v d := fun H' hT k' => s H' hT fun b o e1 e2 => k' b o (fun z => by
  subst z
  obtain ⟨cs, p, q, m, n, e, _⟩ := x
  rw [e1] at e; cases e) e2
theorem big20 (n : Nat) : ¬ ((0 : Int) ≤ (n : Int) + 10 ^ Int.toNat 20 ∧ (n : Int) + 10 ^ Int.toNat 20 < (n : Int)) := fun z => by
  have : (0 : Int) ≤ 10 ^ Int.toNat 20 := by decide +kernel
  omega
/-! ### rows and their data, while the hand moves -/
def StayAll (K : PySem.W.Frag) (H : Hp) (h c : Addr) (xs : List V) (ds : List PyData) : Prop := ∀ H', HandAt H' h c → Kx h H H' → OQ.DqdAll K H' xs ds
theorem dqd_ints {K : PySem.W.Frag} {H : Hp} {g : Nat → Nat} : ∀ l : List Nat, OQ.DqdAll K H (l.map fun c => V.int (g c : Nat)) (l.map fun c => PyData.int (g c : Nat))
  | [] => .nil
  | _ :: l => .cons (.int _) (dqd_ints l)
theorem dqdAll_app {K : PySem.W.Frag} {H : Hp} : ∀ {xs ys : List V} {ds es : List PyData}, OQ.DqdAll K H xs ds → OQ.DqdAll K H ys es → OQ.DqdAll K H (xs ++ ys) (ds ++ es)
  | _, _, _, _, .nil, h => h
  | _, _, _, _, .cons a b, h => .cons a (dqdAll_app b h)
theorem dqdAll_init {K : PySem.W.Frag} {H : Hp} : ∀ {xs : List V} {ds : List PyData}, OQ.DqdAll K H xs ds → OQ.DqdAll K H xs.dropLast ds.dropLast
  | _, _, .nil => .nil
  | _, _, .cons a .nil => .nil
  | _, _, .cons a (.cons b c) => .cons a (dqdAll_init (.cons b c))
theorem dqdAll_put {K : PySem.W.Frag} {H : Hp} {v : V} {d : PyData} (hv : OQ.Dqd K H v d) : ∀ {xs : List V} {ds : List PyData} (b : Nat), OQ.DqdAll K H xs ds → OQ.DqdAll K H (xs.set b v) (ds.set b d)
  | _, _, b, .nil => .nil
  | _, _, 0, .cons _ t => .cons hv t
  | _, _, b + 1, .cons a t => .cons a (dqdAll_put hv b t)
def rD (n : Nat) (f : Nat → Nat → Nat) (j : Nat) : List PyData := (List.range n).map fun c => .int (f j c : Nat)
def rV (n : Nat) (f : Nat → Nat → Nat) (j : Nat) : List V := (List.range n).map fun c => .int (f j c : Nat)
theorem rD_len {n j : Nat} {f : Nat → Nat → Nat} : (rD n f j).length = n := by unfold rD; rw [List.length_map, List.length_range]
def tD (n : Nat) (f : Nat → Nat → Nat) : List (List PyData) := (List.range n).map (rD n f)
theorem tD_len {n : Nat} {f : Nat → Nat → Nat} : (tD n f).length = n := by unfold tD; rw [List.length_map, List.length_range]
theorem tD_get {n j : Nat} {f : Nat → Nat → Nat} (h : j < n) : (tD n f)[j]? = some (rD n f j) := by unfold tD; rw [List.getElem?_map, List.getElem?_range h]; rfl
theorem tD_mem {n : Nat} {f : Nat → Nat → Nat} {xs : List PyData} (m : xs ∈ tD n f) : xs.length = n := by
  unfold tD at m
  obtain ⟨j, _, rfl⟩ := List.mem_map.mp m
  exact rD_len
theorem stay_tb {K : PySem.W.Frag} {H : Hp} {h c D : Addr} {us : List Addr} {dss : List (List PyData)} (nD : D ≠ h) (eD : H D = some (.lst (us.map V.ref))) (len : us.length = dss.length)
    (all : ∀ (j : Nat) (u : Addr) (ds : List PyData), us[j]? = some u → dss[j]? = some ds → u ≠ h ∧ ∃ xs, H u = some (.lst xs) ∧ StayAll K H h c xs ds) : Stay K H h c (.ref D) (RK.tb dss) := fun H' hT k => by
  refine .lst (SqL.of (k _ _ nD eD)) ?_
  clear eD
  induction us generalizing dss with
  | nil =>
    cases dss with
    | nil => exact .nil
    | cons _ _ => cases len
  | cons u us ih =>
    cases dss with
    | nil => cases len
    | cons ds dss =>
      obtain ⟨nu, xs, eu, g⟩ := all 0 u ds rfl rfl
      exact .cons (.lst (SqL.of (k _ _ nu eu)) (g H' hT k)) (ih (by simpa using len) fun j u ds e1 e2 => all (j + 1) u ds (by simpa using e1) (by simpa using e2))
theorem RowsU.cell {us : List Addr} {H0 H : Hp} {h c D : Addr} {n : Nat} {f : Nat → Nat → Nat} {K : PySem.W.Frag} (r : RowsU us H0 H D n f) (x : HandAt H0 h c) {j : Nat} {u : Addr} (e : us[j]? = some u) : j < n ∧ u ≠ h ∧ H u = some (.lst (rV n f j)) ∧ StayAll K H h c (rV n f j) (rD n f j) := by
  obtain ⟨lu, nd, nD', fr, eD, all⟩ := r
  exact ⟨by have := (List.getElem?_eq_some_iff.mp e).1; omega, (x.ne (fr u (List.mem_of_getElem? e))).1, all j u e, fun H' _ _ => dqd_ints _⟩
theorem erase_map {α β : Type} (g : α → β) : ∀ (l : List α) (a : Nat), (l.map g).eraseIdx a = (l.eraseIdx a).map g
  | [], _ => rfl
  | _ :: _, 0 => rfl
  | x :: l, a + 1 => by rw [List.map_cons, List.eraseIdx_cons_succ, List.eraseIdx_cons_succ, List.map_cons, erase_map g l a]
/-- one row changed -/
theorem RowsU.putS {us : List Addr} {H0 H : Hp} {h c D u : Addr} {n a : Nat} {f : Nat → Nat → Nat} {K : PySem.W.Frag} {xs : List V} {ds : List PyData} (r : RowsU us H0 H D n f) (x : HandAt H0 h c) (hD : H0 D = none) (ea : us[a]? = some u)
    (g : StayAll K (upd H u (.lst xs)) h c xs ds) : Stay K (upd H u (.lst xs)) h c (.ref D) (RK.tb ((tD n f).set a ds)) := by
  have r0 := r
  obtain ⟨lu, nd, nD', fr, eD, all⟩ := r
  have um := List.mem_of_getElem? ea
  refine stay_tb (us := us) (x.ne hD).1 ?_ (by rw [List.length_set, tD_len, lu]) fun j v es e1 e2 => ?_
  · rw [upd_ne (fun z => nD' (by rw [z]; exact um))]; exact eD
  · obtain ⟨jn, nh, ev, gv⟩ := r0.cell (K := K) x e1
    refine ⟨nh, ?_⟩
    by_cases c2 : j = a
    · subst c2
      rw [ea] at e1
      cases e1
      rw [List.getElem?_set_self (by rw [tD_len]; exact jn)] at e2
      cases e2
      exact ⟨xs, upd_same, g⟩
    · have nu : v ≠ u := fun z => by
        subst z
        exact c2 ((List.getElem?_inj (List.getElem?_eq_some_iff.mp e1).1 nd).mp (e1.trans ea.symm))
      rw [List.getElem?_set_ne (fun z => c2 z.symm), tD_get jn] at e2
      cases e2
      exact ⟨_, by rw [upd_ne nu]; exact ev, fun H' _ _ => dqd_ints _⟩
theorem RowsU.more {us : List Addr} {H0 H : Hp} {h c D t : Addr} {n a : Nat} {f : Nat → Nat → Nat} {K : PySem.W.Frag} (r : RowsU us H0 H D n f) (x : HandAt H0 h c) (hD : H0 D = none) (ht : H t = none) (nt : t ≠ h) :
    Stay K (upd (upd H t (.lst (rV n f a))) D (.lst (us.map V.ref ++ [.ref t]))) h c (.ref D) (RK.tb (tD n f ++ [rD n f a])) := by
  have r0 := r
  obtain ⟨lu, nd, nD', fr, eD, all⟩ := r
  have nDt : t ≠ D := fun z => by rw [z, eD] at ht; cases ht
  refine stay_tb (us := us ++ [t]) (x.ne hD).1 (by rw [upd_same, List.map_append]; rfl) (by rw [List.length_append, List.length_append, lu, tD_len]; rfl) fun j v es e1 e2 => ?_
  by_cases lj : j < us.length
  · rw [List.getElem?_append_left lj] at e1
    obtain ⟨jn, nh, ev, gv⟩ := r0.cell (K := K) x e1
    rw [List.getElem?_append_left (by rw [tD_len]; exact jn), tD_get jn] at e2
    cases e2
    refine ⟨nh, _, ?_, fun H' _ _ => dqd_ints _⟩
    rw [upd_ne (fun z => nD' (by rw [← z]; exact List.mem_of_getElem? e1)), upd_ne (ne_of_none ev ht)]; exact ev
  · have q : j = us.length := by
      have := (List.getElem?_eq_some_iff.mp e1).1
      rw [List.length_append] at this
      simp at this
      omega
    subst q
    rw [List.getElem?_append_right (by omega), Nat.sub_self] at e1
    cases e1
    rw [List.getElem?_append_right (by rw [tD_len, lu]; omega), tD_len, lu, Nat.sub_self] at e2
    cases e2
    exact ⟨nt, _, by rw [upd_ne nDt, upd_same]; rfl, fun H' _ _ => dqd_ints _⟩
theorem RowsU.less {us : List Addr} {H0 H : Hp} {h c D : Addr} {n a : Nat} {f : Nat → Nat → Nat} {K : PySem.W.Frag} (r : RowsU us H0 H D n f) (x : HandAt H0 h c) (hD : H0 D = none) :
    Stay K (upd H D (.lst ((us.map V.ref).eraseIdx a))) h c (.ref D) (RK.tb ((tD n f).eraseIdx a)) := by
  have r0 := r
  obtain ⟨lu, nd, nD', fr, eD, all⟩ := r
  refine stay_tb (us := us.eraseIdx a) (x.ne hD).1 (by rw [upd_same, erase_map]) (by rw [List.length_eraseIdx, List.length_eraseIdx, lu, tD_len]) fun j v es e1 e2 => ?_
  rw [List.getElem?_eraseIdx] at e1 e2
  obtain ⟨i, e3, e4⟩ : ∃ i, us[i]? = some v ∧ (tD n f)[i]? = some es := by
    split at e1
    · rename_i hc; rw [if_pos hc] at e2; exact ⟨_, e1, e2⟩
    · rename_i hc; rw [if_neg hc] at e2; exact ⟨_, e1, e2⟩
  obtain ⟨jn, nh, ev, gv⟩ := r0.cell (K := K) x e3
  rw [tD_get jn] at e4
  cases e4
  exact ⟨nh, _, by rw [upd_ne (fun z => nD' (by rw [← z]; exact List.mem_of_getElem? e3))]; exact ev, fun H' _ _ => dqd_ints _⟩

/-! ### what is asked, what is wrong -/
open OQ (TabX RowX SeqAt)
open RK (Gd Mo lotP Lb Fl FltAt)
/-- no table of 1 to 4 things -/
def NoL (d : PyData) : Prop := ∀ ds, RK.rowsOf d = some ds → 1 ≤ ds.length → ds.length ≤ 4 → RK.squareB ds.length d = false
theorem NoL.no {d e : PyData} (h : NoL d) : lotB d e = false := by
  unfold lotB
  cases q : RK.rowsOf d with
  | none => rfl
  | some ds =>
    dsimp only
    by_cases c : 1 ≤ ds.length ∧ ds.length ≤ 4
    · rw [h ds q c.1 c.2, Bool.false_and, Bool.and_false]
    · rw [decide_eq_false c, Bool.false_and]
theorem noL_tb {xss : List (List PyData)} (h : (∀ xs ∈ xss, xs.length = xss.length ∧ ∀ x ∈ xs, RK.belowB xss.length x = true) → False) : NoL (RK.tb xss) := fun ds e _ _ => by
  cases q : RK.squareB ds.length (RK.tb xss) with
  | false => rfl
  | true =>
    obtain ⟨h1, h2⟩ := RK.sq_tb q
    exact (h fun xs m => ⟨(h2 xs m).1.trans h1.symm, fun x mx => by rw [h1]; exact (h2 xs m).2 x mx⟩).elim
theorem belowN {n : Nat} {dn dp : PyData} {ds : List PyData} (e : RK.rowsOf dp = some ds) (l : ds.length = n) (b : RK.belowB n dn = false) : lotB dp dn = false := by
  unfold lotB
  rw [e]
  dsimp only
  rw [l, b, Bool.and_false, Bool.and_false]
/-- what is told of products and one -/
def AskL (K : PySem.W.Frag) (C : Addr) (H : Hp) (p : Addr) (dp dn : PyData) : Prop := (lotF dp dn = none ∧ ∃ (x n o : Nat) (y : Addr) (P : Nat → Nat → Nat), Mo n P o ∧ 1 ≤ n ∧ n ≤ 4 ∧ (∀ i j, i < n → j < n → P i j = RK.tabf dp i j) ∧ (RK.cellsOf dp).length = n ∧ RK.natOf dn = o ∧ H p = some (.tup [.str "told", .ref y]) ∧ RekF K C H y (2 ^ n) (fun a b => a ||| b) (lotP n P) 0 (2 ^ o)) ∨
  ∃ f u, lotF dp dn = some f ∧ H p = some (.tup [.str "bad", u]) ∧ FltAt H u (some f)
def spAsk34 (K : PySem.W.Frag) (C : Addr) : Sp := fun vs H Q _ => ∃ (vp vn : V) (dp dn : PyData), vs = [vp, vn] ∧ OQ.Dqd K H vp dp ∧ OQ.Dqd K H vn dn ∧ ∀ p H', Same H H' → AskL K C H' p dp dn → Q (.ref p) H'
def spWrong34 (K : PySem.W.Frag) : Sp := fun vs H Q _ => ∃ (h c b : Addr) (n o : Nat) (P : Nat → Nat → Nat), vs = [.ref h, .ref b, .int o] ∧ HandAt H h c ∧ TabXL H b n P ∧ 1 ≤ n ∧ n ≤ 4 ∧ o < n ∧ (∀ a b, a < n → b < n → P a b < n) ∧
  ∀ (t : Addr) (v w : V) (dv dw : PyData) (H' : Hp), H' t = some (.tup [v, w]) → OQ.Dqd K H' v dv → OQ.Dqd K H' w dw → lotB dv dw = false → Q (.ref t) H'
section
variable {P : Program} {w : World} {K : PySem.W.Frag} {mg : Str → Option Value} {base : Heap}
theorem ok_law_asked (T : Top K mg) : FnOk P w K mg base CX0 16 T.f_law_asked T.fd_law_asked ["products", "one"] (spAsk34 K T.C_Reckoning) := by
  refine T.F_law_asked.ok sc_law_asked (fun vs H Q E h => ?_) (fun cdv A outer s H vs Q E hr h => ?_)
  · obtain ⟨vp, vn, dp, dn, rfl, _⟩ := h; rfl
  · obtain ⟨vp, vn, dp, dn, rfl, hp, hn, k⟩ := h
    refine ⟨_, (pss_cons (ps_set (i := 2) sc_law_asked.nd rfl (Or.inl rfl) (pe_tup (pa_cons pe_str (pa_cons pe_int pa_nil))))
 (pss_cons (ps_try_as (i := 3) (Wout := fun _ _ _ _ => False) rfl rfl sc_law_asked.nd rfl rfl ⟨rfl, by decide, Or.inl T.g_BadReckoning⟩ takes0 (fun W pn xe tk _ => (pss_one (ps_set (i := 2) sc_law_asked.nd rfl (Or.inl rfl) (pe_tup (pa_cons pe_str (pa_cons (pe_callS (ok_lots T) (hr.mono (by decide)) (by rfl) T.g_lots T.F_lots.kp T.b_lots (fun σ => passAt tk σ) (pa_cons (pv 0) (pa_cons (pv 1) pa_nil))) pa_nil)))))) (fun a oe cls d pn hz hf => (pss_one (ps_set (i := 2) sc_law_asked.nd rfl (Or.inl rfl) (pe_tup (pa_cons pe_str (pa_cons (pe_xf T.xf_BadReckoning T.v_BadReckoning hz hf (pv 3)) pa_nil)))))))
 (pss_one (ps_ret (pv 2))))), ?_⟩
    walk_at "tx"
    refine ⟨by show 2 ≤ sizeLine; decide, fun p0 hp0 => ?_⟩
    have s0 : Same H (upd H p0 (.tup [.str "none", .int 0])) := same_upd hp0
    generalize upd H p0 (.tup [.str "none", .int 0]) = H0 at *
    replace hp := OQ.Dqd.same s0 hp
    replace hn := OQ.Dqd.same s0 hn
    walk_at "tx"
    refine ⟨_, rfl, _, rfl, vp, vn, dp, dn, rfl, hp, hn, fun n P' o eF mo n1 n4 ag el eo x H1 s1 rf => ?_, fun f e u d H2 s2 fl hd => ?_⟩
    · walk_at "tx"
      refine ⟨by show 2 ≤ sizeLine; decide, fun p hp => ?_⟩
      walk_at "tx"
      exact k p _ ((s0.trans s1).trans (same_upd hp)) (.inl ⟨eF, 0, n, o, x, P', mo, n1, n4, ag, el, eo, upd_same, rf.same (same_upd hp)⟩)
    · have s2' := s2.trans (same_upd (o := ErrD u) hd)
      have ed : upd H2 d (ErrD u) d = some (ErrD u) := upd_same
      replace fl := fl.same (same_upd (o := ErrD u) hd)
      generalize upd H2 d (ErrD u) = H3 at *
      refine ⟨true, T.exm_BadReckoning, fun _ a ha => ?_, fun z => Bool.noConfusion z⟩
      walk_at "tx"
      refine ⟨rfl, rfl, d, _, _, rfl, ed, errD_v _, ?_⟩
      walk_at "tx"
      refine ⟨by show 2 ≤ sizeLine; decide, fun p hp => ?_⟩
      walk_at "tx"
      exact k p _ ((s0.trans s2').trans (same_upd hp)) (.inr ⟨f, u, e, upd_same, fl.same (same_upd hp)⟩)
set_option maxRecDepth 20000 in
theorem ok_law_wrong (T : Top K mg) : FnOk P w K mg base CX0 2 T.f_law_wrong T.fd_law_wrong ["hand", "products", "one"] (spWrong34 K) := by
  refine T.F_law_wrong.ok sc_law_wrong (fun vs H Q E h => ?_) (fun cdv A outer s H vs Q E hr h => ?_)
  · obtain ⟨h, c, b, n, o, P, rfl, _⟩ := h; rfl
  · obtain ⟨h, c, b, n, o, P, rfl, hT, tb, n1, n4, on, pn, k⟩ := h
    refine ⟨_, (pss_cons (ps_set (i := 3) sc_law_wrong.nd rfl (Or.inl rfl) (pe_callB RD.c_len (by rfl) T.n_len (by decide +kernel) (pa_cons (pv 1) pa_nil)))
 (pss_cons (ps_setLc (i := 4) (own := [("row", 5)]) (g := (gName 5)) (tt := tYes) rfl sc_law_wrong.nd rfl rfl (sw_true rfl rfl rfl (by decide +kernel)) (pi_list (pv 1)) (blkOk_by (own := [("row", 5)]) (N := ["hand", "products", "one", "many", "rows", "row", "way", "a", "b"]) (sc := defScope s_law_wrong) (by decide +kernel)) (fun _ _ _ _ _ => (pg_name (i := 5) sc_law_wrong.nd rfl (Or.inl rfl))) (fun _ _ _ _ _ => pts_nil) (fun _ _ _ _ _ => (pe_callTy (OQ.listK K) (by rfl) T.n_list (by decide +kernel) (pa_cons (pv 5) pa_nil))))
 (pss_cons (ps_set (i := 6) sc_law_wrong.nd rfl (Or.inl rfl) (pe_call (ok_law_draw T) (hr.mono (by decide)) (by rfl) T.g_law_draw T.F_law_draw.kp T.b_law_draw .nil pass0 (pa_cons (pv 0) (pa_cons pe_int pa_nil))))
 (pss_cons (ps_if (pt_cmpR op_eq (pv 6) pe_int (nomark _))
 (pss_one (ps_ret (pe_tup (pa_cons (pe_ix ix_list (pe_lst (pa_cons pe_non (pa_cons pe_int (pa_cons pe_str (pa_cons pe_dnewK (pa_cons (pe_lst pa_nil) (pa_cons (pe_tup pa_nil) (pa_cons (pe_lst (pa_cons pe_non pa_nil)) (pa_cons (pe_lst (pa_cons (pe_lst (pa_cons pe_int pa_nil)) pa_nil)) (pa_cons (pe_lst (pa_cons (pe_lst (pa_cons pe_bl pa_nil)) pa_nil)) (pa_cons pe_bl pa_nil))))))))))) (pe_call (ok_law_draw T) (hr.mono (by decide)) (by rfl) T.g_law_draw T.F_law_draw.kp T.b_law_draw .nil pass0 (pa_cons (pv 0) (pa_cons pe_int pa_nil))) (fun _ _ => rfl)) (pa_cons pe_int pa_nil)))))
 pss_nil)
 (pss_cons (ps_if (pt_cmpR op_eq (pv 6) pe_int (nomark _))
 (pss_one (ps_ret (pe_tup (pa_cons (pe_lc (own := [("a", 7)]) (g := (gName 7)) (tt := tYes) rfl sc_law_wrong.nd (pi_range1 (by rfl) T.n_range (pa_cons pe_int pa_nil)) (blkOk_by (own := [("a", 7)]) (N := ["hand", "products", "one", "many", "rows", "row", "way", "a", "b"]) (sc := defScope s_law_wrong) (by decide +kernel)) (fun _ _ _ _ _ => (pg_name (i := 7) sc_law_wrong.nd rfl (by first | exact Or.inl rfl | exact Or.inr rfl))) (fun _ _ _ _ _ => pts_nil) (fun _ _ _ _ _ => (pe_lc (own := [("b", 8)]) (g := (gName 8)) (tt := tYes) rfl sc_law_wrong.nd (pi_range1 (by rfl) T.n_range (pa_cons pe_int pa_nil)) (blkOk_by (own := [("b", 8)]) (N := ["hand", "products", "one", "many", "rows", "row", "way", "a", "b"]) (sc := _) (by kernel_rfl)) (fun _ _ _ _ _ => (pg_name (i := 8) sc_law_wrong.nd rfl (by first | exact Or.inl rfl | exact Or.inr rfl))) (fun _ _ _ _ _ => pts_nil) (fun _ _ _ _ _ => (pe_op op_mod (pe_callTy RD.c_int (by rfl) T.n_int (by decide +kernel) (pa_cons (pe_op op_add (pv 7) (pv 8)) pa_nil)) pe_int))))) (pa_cons pe_int pa_nil)))))
 pss_nil)
 (pss_cons (ps_if (pt_cmpR op_eq (pv 6) pe_int (nomark _))
 (pss_one (ps_ret (pe_tup (pa_cons (pv 4) (pa_cons (pe_ix ix_list (pe_lst (pa_cons pe_non (pa_cons pe_bl (pa_cons (pe_un un_neg pe_int) (pa_cons (pv 3) (pa_cons pe_str (pa_cons (pe_lst (pa_cons pe_int pa_nil)) (pa_cons (pe_op op_add (pv 3) (pe_op op_pow pe_int pe_int)) pa_nil)))))))) (pe_call (ok_law_draw T) (hr.mono (by decide)) (by rfl) T.g_law_draw T.F_law_draw.kp T.b_law_draw .nil pass0 (pa_cons (pv 0) (pa_cons pe_int pa_nil))) (fun _ _ => rfl)) pa_nil)))))
 pss_nil)
 (pss_cons (ps_if (pt_cmpR op_eq (pv 6) pe_int (nomark _))
 (pss_one (ps_ret (pe_tup (pa_cons (pe_op op_cat (pv 4) (pe_lst (pa_cons (pe_ix ix_list (pv 4) pe_int (fun _ _ => rfl)) pa_nil))) (pa_cons (pv 2) pa_nil)))))
 pss_nil)
 (pss_cons (ps_set (i := 5) sc_law_wrong.nd rfl (Or.inl rfl) (pe_ix ix_list (pv 4) (pe_call (ok_law_draw T) (hr.mono (by decide)) (by rfl) T.g_law_draw T.F_law_draw.kp T.b_law_draw .nil pass0 (pa_cons (pv 0) (pa_cons (pv 3) pa_nil))) (fun _ _ => rfl)))
 (pss_cons (ps_asg (pe_ix ix_list (pe_lst (pa_cons pe_non (pa_cons pe_bl (pa_cons (pe_un un_neg pe_int) (pa_cons (pv 3) (pa_cons pe_str (pa_cons (pe_lst (pa_cons pe_int pa_nil)) pa_nil))))))) (pe_call (ok_law_draw T) (hr.mono (by decide)) (by rfl) T.g_law_draw T.F_law_draw.kp T.b_law_draw .nil pass0 (pa_cons (pv 0) (pa_cons pe_int pa_nil))) (fun _ _ => rfl)) (pg_sub (pv 5) (pe_call (ok_law_draw T) (hr.mono (by decide)) (by rfl) T.g_law_draw T.F_law_draw.kp T.b_law_draw .nil pass0 (pa_cons (pv 0) (pa_cons (pv 3) pa_nil))) set_list))
 (pss_one (ps_ret (pe_tup (pa_cons (pv 4) (pa_cons (pv 2) pa_nil)))))))))))))), ?_⟩
    walk_at "tx"
    refine tb.x.len ?_
    walk_at "tx"
    obtain ⟨rs, len, ep, rows⟩ := id tb
    refine ⟨_, rfl, ⟨_, SqL.of ep⟩, fun D hD => ?_⟩
    refine lc_list (K := K) (a := b) (xs := rs.map V.ref) (fun i H' => Same H H' ∧ RowsC H H' D n i P) ⟨same_upd hD, rowsC_zero⟩ ?_ ?_ ?_
    · rintro i H' _ ⟨s1, _⟩
      exact SqL.of (s1 _ _ ep)
    · rintro i y H' hi ⟨s1, r1⟩
      have il : i < n := by have := (List.getElem?_eq_some_iff.mp hi).1; rw [List.length_map, len] at this; exact this
      have ir : i < rs.length := by rw [len]; exact il
      rw [List.getElem?_map, List.getElem?_eq_getElem ir] at hi
      cases hi
      walk_at "tx"
      refine ⟨_, _, rfl, .inl (SqL.of (s1 _ _ (rows i _ (List.getElem?_eq_getElem ir)))), fun l hl => ?_⟩
      exact rowsC_step hD s1 r1 hl (same_upd hl) (by omega) upd_same
    rintro H1 ⟨s1, us, rU⟩
    rw [List.length_map, len] at rU
    have rU : RowsU us H H1 D n P := rU
    have hTH := hT
    replace hT := hT.same s1
    clear s1 ep rows len rs
    walk_at "tx"
    refine ⟨h, c, 5, rfl, hT, by decide, log2_lt (by decide), fun wy H2 w0 w5 hT2 b2 => ?_⟩
    replace rU := rU.kx b2.kx hTH hD
    replace hT := hT2
    clear b2 hT2
    walk_at "tx"
    refine RD.iteD (fun c0 => ?_) (fun c0 => ?_)
    · walk_at "tx"
      have hT0 := hT
      have s1 : Same H2 H2 := fun _ _ e => e
      refine fun p1 hp1 => ?_
      obtain ⟨np1, _⟩ := hT.ne hp1
      have fp1 := s1.free hp1
      have sp1 := same_upd (o := HO.dK []) hp1
      have gp1 : StayN K H2 (upd H2 p1 (HO.dK [])) h c (.ref p1) (.dict []) := fun H' _ k' => .dK (k' _ _ fp1 upd_same)
      replace s1 := s1.trans sp1
      replace hT := hT.same sp1
      clear sp1 hp1
      generalize (upd H2 p1 (HO.dK [])) = G1 at *
      walk_at "tx"
      refine ⟨by show 0 ≤ sizeLine; decide, fun p2 hp2 => ?_⟩
      obtain ⟨np2, _⟩ := hT.ne hp2
      have fp2 := s1.free hp2
      have sp2 := same_upd (o := HO.lst []) hp2
      have gp2 : StayN K H2 (upd G1 p2 (HO.lst [])) h c (.ref p2) (.list []) := fun H' _ k' => (.lst (SqL.of (k' _ _ fp2 upd_same)) .nil)
      replace gp1 := gp1.kx hT0 (Same.kx sp2)
      replace s1 := s1.trans sp2
      replace hT := hT.same sp2
      clear sp2 hp2
      generalize (upd G1 p2 (HO.lst [])) = G2 at *
      walk_at "tx"
      refine ⟨by show 0 ≤ sizeLine; decide, fun p3 hp3 => ?_⟩
      obtain ⟨np3, _⟩ := hT.ne hp3
      have fp3 := s1.free hp3
      have sp3 := same_upd (o := HO.tup []) hp3
      have gp3 : StayN K H2 (upd G2 p3 (HO.tup [])) h c (.ref p3) (.tuple []) := fun H' _ k' => (.tup (SqT.of (k' _ _ fp3 upd_same)) .nil)
      replace gp1 := gp1.kx hT0 (Same.kx sp3)
      replace gp2 := gp2.kx hT0 (Same.kx sp3)
      replace s1 := s1.trans sp3
      replace hT := hT.same sp3
      clear sp3 hp3
      generalize (upd G2 p3 (HO.tup [])) = G3 at *
      walk_at "tx"
      refine ⟨by show 1 ≤ sizeLine; decide, fun p4 hp4 => ?_⟩
      obtain ⟨np4, _⟩ := hT.ne hp4
      have fp4 := s1.free hp4
      have sp4 := same_upd (o := HO.lst [.non]) hp4
      have gp4 : StayN K H2 (upd G3 p4 (HO.lst [.non])) h c (.ref p4) (.list [.none]) := fun H' _ k' => (.lst (SqL.of (k' _ _ fp4 upd_same)) (.cons .non .nil))
      replace gp1 := gp1.kx hT0 (Same.kx sp4)
      replace gp2 := gp2.kx hT0 (Same.kx sp4)
      replace gp3 := gp3.kx hT0 (Same.kx sp4)
      replace s1 := s1.trans sp4
      replace hT := hT.same sp4
      clear sp4 hp4
      generalize (upd G3 p4 (HO.lst [.non])) = G4 at *
      walk_at "tx"
      refine ⟨by show 1 ≤ sizeLine; decide, fun p5 hp5 => ?_⟩
      obtain ⟨np5, _⟩ := hT.ne hp5
      have fp5 := s1.free hp5
      have sp5 := same_upd (o := HO.lst [.int 1]) hp5
      have ep5 : (upd G4 p5 (HO.lst [.int 1])) p5 = some (HO.lst [.int 1]) := upd_same
      replace gp1 := gp1.kx hT0 (Same.kx sp5)
      replace gp2 := gp2.kx hT0 (Same.kx sp5)
      replace gp3 := gp3.kx hT0 (Same.kx sp5)
      replace gp4 := gp4.kx hT0 (Same.kx sp5)
      replace s1 := s1.trans sp5
      replace hT := hT.same sp5
      clear sp5 hp5
      generalize (upd G4 p5 (HO.lst [.int 1])) = G5 at *
      walk_at "tx"
      refine ⟨by show 1 ≤ sizeLine; decide, fun p6 hp6 => ?_⟩
      obtain ⟨np6, _⟩ := hT.ne hp6
      have fp6 := s1.free hp6
      have sp6 := same_upd (o := HO.lst [.ref p5]) hp6
      have gp6 : StayN K H2 (upd G5 p6 (HO.lst [.ref p5])) h c (.ref p6) (.list [.list [.int 1]]) := fun H' _ k' => (.lst (SqL.of (k' _ _ fp6 upd_same)) (.cons (.lst (SqL.of (k' _ _ fp5 ((same_upd hp6) _ _ ep5))) (.cons (.int 1) .nil)) .nil))
      replace gp1 := gp1.kx hT0 (Same.kx sp6)
      replace gp2 := gp2.kx hT0 (Same.kx sp6)
      replace gp3 := gp3.kx hT0 (Same.kx sp6)
      replace gp4 := gp4.kx hT0 (Same.kx sp6)
      replace ep5 := sp6 _ _ ep5
      replace s1 := s1.trans sp6
      replace hT := hT.same sp6
      clear sp6 hp6
      generalize (upd G5 p6 (HO.lst [.ref p5])) = G6 at *
      walk_at "tx"
      refine ⟨by show 1 ≤ sizeLine; decide, fun p7 hp7 => ?_⟩
      obtain ⟨np7, _⟩ := hT.ne hp7
      have fp7 := s1.free hp7
      have sp7 := same_upd (o := HO.lst [.bl true]) hp7
      have ep7 : (upd G6 p7 (HO.lst [.bl true])) p7 = some (HO.lst [.bl true]) := upd_same
      replace gp1 := gp1.kx hT0 (Same.kx sp7)
      replace gp2 := gp2.kx hT0 (Same.kx sp7)
      replace gp3 := gp3.kx hT0 (Same.kx sp7)
      replace gp4 := gp4.kx hT0 (Same.kx sp7)
      replace gp6 := gp6.kx hT0 (Same.kx sp7)
      replace ep5 := sp7 _ _ ep5
      replace s1 := s1.trans sp7
      replace hT := hT.same sp7
      clear sp7 hp7
      generalize (upd G6 p7 (HO.lst [.bl true])) = G7 at *
      walk_at "tx"
      refine ⟨by show 1 ≤ sizeLine; decide, fun p8 hp8 => ?_⟩
      obtain ⟨np8, _⟩ := hT.ne hp8
      have fp8 := s1.free hp8
      have sp8 := same_upd (o := HO.lst [.ref p7]) hp8
      have gp8 : StayN K H2 (upd G7 p8 (HO.lst [.ref p7])) h c (.ref p8) (.list [.list [.bool true]]) := fun H' _ k' => (.lst (SqL.of (k' _ _ fp8 upd_same)) (.cons (.lst (SqL.of (k' _ _ fp7 ((same_upd hp8) _ _ ep7))) (.cons (.bl true) .nil)) .nil))
      replace gp1 := gp1.kx hT0 (Same.kx sp8)
      replace gp2 := gp2.kx hT0 (Same.kx sp8)
      replace gp3 := gp3.kx hT0 (Same.kx sp8)
      replace gp4 := gp4.kx hT0 (Same.kx sp8)
      replace gp6 := gp6.kx hT0 (Same.kx sp8)
      replace ep5 := sp8 _ _ ep5
      replace ep7 := sp8 _ _ ep7
      replace s1 := s1.trans sp8
      replace hT := hT.same sp8
      clear sp8 hp8
      generalize (upd G7 p8 (HO.lst [.ref p7])) = G8 at *
      walk_at "tx"
      refine ⟨by show 10 ≤ sizeLine; decide, fun w hw => ?_⟩
      obtain ⟨nw, _⟩ := hT.ne hw
      have fw := s1.free hw
      have sw := same_upd (o := HO.lst [V.non, V.int 5, V.str (Str.ofString ""), V.ref p1, V.ref p2, V.ref p3, V.ref p4, V.ref p6, V.ref p8, V.bl true]) hw
      have ew : (upd G8 w (HO.lst [V.non, V.int 5, V.str (Str.ofString ""), V.ref p1, V.ref p2, V.ref p3, V.ref p4, V.ref p6, V.ref p8, V.bl true])) w = some (HO.lst [V.non, V.int 5, V.str (Str.ofString ""), V.ref p1, V.ref p2, V.ref p3, V.ref p4, V.ref p6, V.ref p8, V.bl true]) := upd_same
      replace gp1 := gp1.kx hT0 (Same.kx sw)
      replace gp2 := gp2.kx hT0 (Same.kx sw)
      replace gp3 := gp3.kx hT0 (Same.kx sw)
      replace gp4 := gp4.kx hT0 (Same.kx sw)
      replace gp6 := gp6.kx hT0 (Same.kx sw)
      replace gp8 := gp8.kx hT0 (Same.kx sw)
      replace ep5 := sw _ _ ep5
      replace ep7 := sw _ _ ep7
      replace s1 := s1.trans sw
      replace hT := hT.same sw
      clear sw hw
      generalize (upd G8 w (HO.lst [V.non, V.int 5, V.str (Str.ofString ""), V.ref p1, V.ref p2, V.ref p3, V.ref p4, V.ref p6, V.ref p8, V.bl true])) = G9 at *
      walk_at "tx"
      have all : ∀ v ∈ [V.non, V.int 5, V.str (Str.ofString ""), V.ref p1, V.ref p2, V.ref p3, V.ref p4, V.ref p6, V.ref p8, V.bl true], ∃ d, StayN K H2 G9 h c v d ∧ NoL d := by
        refine List.forall_mem_cons.mpr ⟨⟨.none, fun _ _ _ => .non, fun ds z => by cases z⟩, ?_⟩
        refine List.forall_mem_cons.mpr ⟨⟨.int 5, fun _ _ _ => .int _, fun ds z => by cases z⟩, ?_⟩
        refine List.forall_mem_cons.mpr ⟨⟨.str _, fun _ _ _ => .str _, fun ds z => by cases z⟩, ?_⟩
        refine List.forall_mem_cons.mpr ⟨⟨_, gp1, fun ds z => by cases z⟩, ?_⟩
        refine List.forall_mem_cons.mpr ⟨⟨_, gp2, fun ds z l _ => by cases z; simp at l⟩, ?_⟩
        refine List.forall_mem_cons.mpr ⟨⟨_, gp3, fun ds z l _ => by cases z; simp at l⟩, ?_⟩
        refine List.forall_mem_cons.mpr ⟨⟨_, gp4, fun ds z _ _ => by cases z; decide +kernel⟩, ?_⟩
        refine List.forall_mem_cons.mpr ⟨⟨_, gp6, fun ds z _ _ => by cases z; decide +kernel⟩, ?_⟩
        refine List.forall_mem_cons.mpr ⟨⟨_, gp8, fun ds z _ _ => by cases z; decide +kernel⟩, ?_⟩
        refine List.forall_mem_cons.mpr ⟨⟨.bool true, fun _ _ _ => .bl _, fun ds z => by cases z⟩, ?_⟩
        exact fun _ m => nomatch m
      have lx : [V.non, V.int 5, V.str (Str.ofString ""), V.ref p1, V.ref p2, V.ref p3, V.ref p4, V.ref p6, V.ref p8, V.bl true].length = 10 := rfl
      generalize [V.non, V.int 5, V.str (Str.ofString ""), V.ref p1, V.ref p2, V.ref p3, V.ref p4, V.ref p6, V.ref p8, V.bl true] = xs at *
      refine ⟨h, c, 10, rfl, hT, by decide, log2_lt (by decide), fun q G9 q0 q1 hT9 b9 => ?_⟩
      obtain ⟨q, rfl⟩ := Int.eq_ofNat_of_zero_le q0
      have ql : q < xs.length := by omega
      replace ew := (b9 w nw).trans ew
      obtain ⟨d, g, bd⟩ := all _ (List.getElem_mem ql)
      replace g := (g.stay hT0).kx b9.kx
      generalize ev : xs[q] = v at *
      refine RD.d_ixL (SqL.of ew) (v := v) (atI_nat (by rw [← ev]; exact List.getElem?_eq_getElem ql)) ?_
      walk_at "tx"
      refine ⟨by show 2 ≤ sizeLine; decide, fun t ht => ?_⟩
      have st := same_upd (o := HO.tup [v, V.int 0]) ht
      exact k t v (.int 0) d (.int 0) _ upd_same (g _ (hT9.same st) (Same.kx st)) (.int 0) bd.no
    walk_at "tx"
    refine RD.iteD (fun c1 => ?_) (fun c1 => ?_)
    · walk_at "tx"
      refine ⟨5, rfl, by omega, by omega, fun D2 hD2 => ?_⟩
      refine lc_range (lo := 0) (n := 5) (fun i H' => Same H2 H' ∧ RowsN H' D2 5 i (fun a b => (a + b) % 5)) ⟨same_upd hD2, rowsN_zero⟩ ?_ ?_
      · rintro i H' hi ⟨s1, r1⟩
        walk_at "tx"
        refine ⟨5, rfl, by omega, by omega, fun D3 hD3 => ?_⟩
        refine lc_range (lo := 0) (n := 5) (fun j H'' => Same H' H'' ∧ H'' D3 = some (.lst ((List.range j).map fun c => V.int (((i + c) % 5 : Nat) : Int)))) ⟨same_upd hD3, upd_same⟩ ?_ ?_
        · rintro j H'' hj ⟨s2, eD3⟩
          walk_at "tx"
          exact rowPutN (g := fun c => (i + c) % 5) hD3 s2 (by omega) eD3 (by congr 1; omega)
        · rintro H'' ⟨s2, eD3⟩
          exact rowsN_step hD2 s1 r1 hD3 s2 (by omega) eD3
      · rintro H' ⟨s1, r1⟩
        have t5 : TabXL H' D2 5 (fun a b => (a + b) % 5) := rowsN_end r1
        walk_at "tx"
        refine ⟨by show 2 ≤ sizeLine; decide, fun t ht => ?_⟩
        have st := same_upd (o := HO.tup [V.ref D2, V.int 0]) ht
        obtain ⟨d, hd, _, _, ds, er, el⟩ := OQ.tab_dp (t5.same st).x (K := K) (fun i j _ _ => Nat.mod_lt _ (by omega))
        exact k t (.ref D2) (.int 0) d (.int 0) _ upd_same (OQ.dqd_of hd) (.int 0) (NoL.no fun ds' e _ l4 => by rw [er] at e; cases e; omega)
    walk_at "tx"
    refine RD.iteD (fun c2 => ?_) (fun c2 => ?_)
    · walk_at "tx"
      have hT0 := hT
      have s1 : Same H2 H2 := fun _ _ e => e
      refine ⟨by show 1 ≤ sizeLine; decide, fun p1 hp1 => ?_⟩
      obtain ⟨np1, _⟩ := hT.ne hp1
      have fp1 := s1.free hp1
      have sp1 := same_upd (o := HO.lst [.int 0]) hp1
      have gp1 : StayN K H2 (upd H2 p1 (HO.lst [.int 0])) h c (.ref p1) (.list [.int 0]) := fun H' _ k' => (.lst (SqL.of (k' _ _ fp1 upd_same)) (.cons (.int 0) .nil))
      replace s1 := s1.trans sp1
      replace hT := hT.same sp1
      clear sp1 hp1
      generalize (upd H2 p1 (HO.lst [.int 0])) = G1 at *
      walk_at "tx"
      refine ⟨by show 7 ≤ sizeLine; decide, fun w hw => ?_⟩
      obtain ⟨nw, _⟩ := hT.ne hw
      have fw := s1.free hw
      have sw := same_upd (o := HO.lst [V.non, V.bl true, V.int (-1), V.int (n : Nat), V.str (Str.ofString "0"), V.ref p1, V.int ((n : Nat) + 10 ^ Int.toNat 20)]) hw
      have ew : (upd G1 w (HO.lst [V.non, V.bl true, V.int (-1), V.int (n : Nat), V.str (Str.ofString "0"), V.ref p1, V.int ((n : Nat) + 10 ^ Int.toNat 20)])) w = some (HO.lst [V.non, V.bl true, V.int (-1), V.int (n : Nat), V.str (Str.ofString "0"), V.ref p1, V.int ((n : Nat) + 10 ^ Int.toNat 20)]) := upd_same
      replace gp1 := gp1.kx hT0 (Same.kx sw)
      replace s1 := s1.trans sw
      replace hT := hT.same sw
      clear sw hw
      generalize (upd G1 w (HO.lst [V.non, V.bl true, V.int (-1), V.int (n : Nat), V.str (Str.ofString "0"), V.ref p1, V.int ((n : Nat) + 10 ^ Int.toNat 20)])) = G2 at *
      walk_at "tx"
      have all : ∀ v ∈ [V.non, V.bl true, V.int (-1), V.int (n : Nat), V.str (Str.ofString "0"), V.ref p1, V.int ((n : Nat) + 10 ^ Int.toNat 20)], ∃ d, StayN K H2 G2 h c v d ∧ RK.belowB n d = false := by
        refine List.forall_mem_cons.mpr ⟨⟨.none, fun _ _ _ => .non, rfl⟩, ?_⟩
        refine List.forall_mem_cons.mpr ⟨⟨.bool true, fun _ _ _ => (.bl _), rfl⟩, ?_⟩
        refine List.forall_mem_cons.mpr ⟨⟨.int (-1), fun _ _ _ => .int _, by unfold RK.belowB; exact decide_eq_false (by omega)⟩, ?_⟩
        refine List.forall_mem_cons.mpr ⟨⟨.int n, fun _ _ _ => .int _, by unfold RK.belowB; exact decide_eq_false (by omega)⟩, ?_⟩
        refine List.forall_mem_cons.mpr ⟨⟨.str _, fun _ _ _ => .str _, rfl⟩, ?_⟩
        refine List.forall_mem_cons.mpr ⟨⟨_, gp1, rfl⟩, ?_⟩
        refine List.forall_mem_cons.mpr ⟨⟨.int (n + 10 ^ Int.toNat 20), fun _ _ _ => .int _, by unfold RK.belowB; exact decide_eq_false (big20 n)⟩, ?_⟩
        exact fun _ m => nomatch m
      have lx : [V.non, V.bl true, V.int (-1), V.int (n : Nat), V.str (Str.ofString "0"), V.ref p1, V.int ((n : Nat) + 10 ^ Int.toNat 20)].length = 7 := rfl
      generalize [V.non, V.bl true, V.int (-1), V.int (n : Nat), V.str (Str.ofString "0"), V.ref p1, V.int ((n : Nat) + 10 ^ Int.toNat 20)] = xs at *
      refine ⟨h, c, 7, rfl, hT, by decide, log2_lt (by decide), fun q G9 q0 q1 hT9 b9 => ?_⟩
      obtain ⟨q, rfl⟩ := Int.eq_ofNat_of_zero_le q0
      have ql : q < xs.length := by omega
      replace ew := (b9 w nw).trans ew
      obtain ⟨d, g, bd⟩ := all _ (List.getElem_mem ql)
      generalize ev : xs[q] = v at *
      refine RD.d_ixL (SqL.of ew) (v := v) (atI_nat (by rw [← ev]; exact List.getElem?_eq_getElem ql)) ?_
      replace g := (g.stay hT0).kx b9.kx
      have tU := ((rU.same s1).kx b9.kx hTH hD).l
      walk_at "tx"
      refine ⟨by show 2 ≤ sizeLine; decide, fun t ht => ?_⟩
      have st := same_upd (o := HO.tup [V.ref D, v]) ht
      obtain ⟨dd, hd, _, _, ds, er, el⟩ := OQ.tab_dp (tU.same st).x (K := K) pn
      exact k t (.ref D) v dd d _ upd_same (OQ.dqd_of hd) (g _ (hT9.same st) (Same.kx st)) (belowN er el bd)
    walk_at "tx"
    refine RD.iteD (fun c3 => ?_) (fun c3 => ?_)
    · obtain ⟨u, eu, eux, ev⟩ := rU.get (a := 0) (by omega)
      have eD := rU.2.2.2.2.1
      walk_at "tx"
      refine RD.d_ixL (SqL.of eD) eux ?_
      walk_at "tx"
      refine ⟨by show 1 ≤ sizeLine; decide, fun L hL => ?_⟩
      have sL := same_upd (o := HO.lst [V.ref u]) hL
      refine ⟨D, L, _, _, rfl, rfl, sL _ _ eD, upd_same, by rw [List.length_map, rU.1]; exact Nat.le_trans (Nat.add_le_add_right n4 1) (by decide), fun C hC => ?_⟩
      have sC := sL.trans (same_upd (o := HO.lst (us.map V.ref ++ [.ref u])) hC)
      walk_at "tx"
      refine ⟨by show 2 ≤ sizeLine; decide, fun t ht => ?_⟩
      have st := same_upd (o := HO.tup [V.ref C, V.int o]) ht
      have ss := sC.trans st
      have hT9 := hT.same ss
      have rU9 := rU.same ss
      have nC : C ≠ h := ((hT.same sL).ne hC).1
      have g : Stay K (upd (upd (upd H2 L (.lst [.ref u])) C (.lst (us.map V.ref ++ [.ref u]))) t (.tup [.ref C, .int o])) h c (.ref C) (RK.tb (tD n P ++ [rD n P 0])) := by
        refine stay_tb (us := us ++ [u]) nC (st _ _ (by rw [upd_same, List.map_append]; rfl)) (by rw [List.length_append, List.length_append, rU.1, tD_len]; rfl) fun j v es e1 e2 => ?_
        by_cases lj : j < us.length
        · rw [List.getElem?_append_left lj] at e1
          obtain ⟨jn, nh, ev', gv⟩ := rU9.cell (K := K) hTH e1
          rw [List.getElem?_append_left (by rw [tD_len]; exact jn), tD_get jn] at e2
          cases e2
          exact ⟨nh, _, ev', fun H' _ _ => dqd_ints _⟩
        · have q : j = us.length := by
            have := (List.getElem?_eq_some_iff.mp e1).1
            rw [List.length_append] at this
            simp at this
            omega
          subst q
          rw [List.getElem?_append_right (by omega), Nat.sub_self] at e1
          cases e1
          rw [List.getElem?_append_right (by rw [tD_len, rU.1]; omega), tD_len, rU.1, Nat.sub_self] at e2
          cases e2
          obtain ⟨jn, nh, ev', gv⟩ := rU9.cell (K := K) hTH eu
          exact ⟨nh, _, ev', fun H' _ _ => dqd_ints _⟩
      refine k t (.ref C) (.int o) _ (.int o) _ upd_same (g _ hT9 (fun _ _ _ e => e)) (.int _) (NoL.no (noL_tb fun al => ?_))
      have := (al (rD n P 0) (List.mem_append_right _ (List.mem_singleton.mpr rfl))).1
      rw [rD_len, List.length_append, tD_len] at this
      simp at this
    walk_at "tx"
    refine ⟨h, c, n, rfl, hT, by omega, log2_lt (by omega), fun a H3 a0 a1 hT3 b3 => ?_⟩
    obtain ⟨a, rfl⟩ := Int.eq_ofNat_of_zero_le a0
    have ha : a < n := by omega
    replace rU := rU.kx b3.kx hTH hD
    replace hT := hT3
    clear b3 hT3
    obtain ⟨u, eu, eux, ev'⟩ := rU.get ha
    refine RD.d_ixL (SqL.of rU.2.2.2.2.1) eux ?_
    walk_at "tx"
    have hT0 := hT
    have s1 : Same H3 H3 := fun _ _ e => e
    refine ⟨by show 1 ≤ sizeLine; decide, fun p1 hp1 => ?_⟩
    obtain ⟨np1, _⟩ := hT.ne hp1
    have fp1 := s1.free hp1
    have sp1 := same_upd (o := HO.lst [.int 0]) hp1
    have gp1 : StayN K H3 (upd H3 p1 (HO.lst [.int 0])) h c (.ref p1) (.list [.int 0]) := fun H' _ k' => (.lst (SqL.of (k' _ _ fp1 upd_same)) (.cons (.int 0) .nil))
    replace s1 := s1.trans sp1
    replace hT := hT.same sp1
    clear sp1 hp1
    generalize (upd H3 p1 (HO.lst [.int 0])) = G1 at *
    walk_at "tx"
    refine ⟨by show 6 ≤ sizeLine; decide, fun w hw => ?_⟩
    obtain ⟨nw, _⟩ := hT.ne hw
    have fw := s1.free hw
    have sw := same_upd (o := HO.lst [V.non, V.bl true, V.int (-1), V.int (n : Nat), V.str (Str.ofString "0"), V.ref p1]) hw
    have ew : (upd G1 w (HO.lst [V.non, V.bl true, V.int (-1), V.int (n : Nat), V.str (Str.ofString "0"), V.ref p1])) w = some (HO.lst [V.non, V.bl true, V.int (-1), V.int (n : Nat), V.str (Str.ofString "0"), V.ref p1]) := upd_same
    replace gp1 := gp1.kx hT0 (Same.kx sw)
    replace s1 := s1.trans sw
    replace hT := hT.same sw
    clear sw hw
    generalize (upd G1 w (HO.lst [V.non, V.bl true, V.int (-1), V.int (n : Nat), V.str (Str.ofString "0"), V.ref p1])) = G2 at *
    walk_at "tx"
    have all : ∀ v ∈ [V.non, V.bl true, V.int (-1), V.int (n : Nat), V.str (Str.ofString "0"), V.ref p1], ∃ d, StayN K H3 G2 h c v d ∧ RK.belowB n d = false := by
      refine List.forall_mem_cons.mpr ⟨⟨.none, fun _ _ _ => .non, rfl⟩, ?_⟩
      refine List.forall_mem_cons.mpr ⟨⟨.bool true, fun _ _ _ => (.bl _), rfl⟩, ?_⟩
      refine List.forall_mem_cons.mpr ⟨⟨.int (-1), fun _ _ _ => .int _, by unfold RK.belowB; exact decide_eq_false (by omega)⟩, ?_⟩
      refine List.forall_mem_cons.mpr ⟨⟨.int n, fun _ _ _ => .int _, by unfold RK.belowB; exact decide_eq_false (by omega)⟩, ?_⟩
      refine List.forall_mem_cons.mpr ⟨⟨.str _, fun _ _ _ => .str _, rfl⟩, ?_⟩
      refine List.forall_mem_cons.mpr ⟨⟨_, gp1, rfl⟩, ?_⟩
      exact fun _ m => nomatch m
    have lx : [V.non, V.bl true, V.int (-1), V.int (n : Nat), V.str (Str.ofString "0"), V.ref p1].length = 6 := rfl
    generalize [V.non, V.bl true, V.int (-1), V.int (n : Nat), V.str (Str.ofString "0"), V.ref p1] = xs at *
    refine ⟨h, c, 6, rfl, hT, by decide, log2_lt (by decide), fun q G9 q0 q1 hT9 b9 => ?_⟩
    obtain ⟨q, rfl⟩ := Int.eq_ofNat_of_zero_le q0
    have ql : q < xs.length := by omega
    replace ew := (b9 w nw).trans ew
    obtain ⟨d, g, bd⟩ := all _ (List.getElem_mem ql)
    generalize ev : xs[q] = v at *
    refine RD.d_ixL (SqL.of ew) (v := v) (atI_nat (by rw [← ev]; exact List.getElem?_eq_getElem ql)) ?_
    replace g := g.kx hT0 b9.kx
    replace rU := (rU.same s1).kx b9.kx hTH hD
    have old : H3 u ≠ none := by rw [ev']; exact fun z => by cases z
    walk_at "tx"
    refine ⟨h, c, n, rfl, hT9, by omega, log2_lt (by omega), fun b' H6 b0 b2 hT6 b6 => ?_⟩
    obtain ⟨b', rfl⟩ := Int.eq_ofNat_of_zero_le b0
    have hb : b' < n := by omega
    replace rU := rU.kx b6.kx hTH hD
    replace g := g.kx hT0 b6.kx
    obtain ⟨u', eu', eux', ev''⟩ := rU.get ha
    rw [eu] at eu'
    cases eu'
    have um := List.mem_of_getElem? eu
    have f0 := rU.2.2.2.1 _ um
    refine RD.d_setL ev'' (cell_ix hb) ?_
    have hT7 := hT6.put (o := .lst (((List.range n).map fun j => V.int (P a j : Nat)).set b' v)) (hTH.ne f0).1 (hTH.ne f0).2
    have gg : Stay K (upd H6 u (.lst (((List.range n).map fun j => V.int (P a j : Nat)).set b' v))) h c (.ref D) (RK.tb ((tD n P).set a ((rD n P a).set b' d))) := rU.putS (ds := (rD n P a).set b' d) hTH hD eu (fun H' hT' k' => dqdAll_put (g H' hT' fun q o e1 e2 => k' _ _ (by
      intro z
      subst z
      obtain ⟨_, _, _, _, _, e, _⟩ := hT0
      rw [e1] at e; cases e) (by rw [upd_ne (fun z => old (by rw [← z]; exact e1))]; exact e2)) b' (dqd_ints _))
    generalize upd H6 u (.lst (((List.range n).map fun j => V.int (P a j : Nat)).set b' v)) = H7 at *
    walk_at "tx"
    refine ⟨by show 2 ≤ sizeLine; decide, fun t ht => ?_⟩
    have st := same_upd (o := HO.tup [V.ref D, V.int o]) ht
    refine k t (.ref D) (.int o) _ (.int o) _ upd_same (gg _ (hT7.same st) (Same.kx st)) (.int _) (NoL.no (noL_tb fun al => ?_))
    have := (al ((rD n P a).set b' d) (List.mem_set (by rw [tD_len]; exact ha) _)).2 d (List.mem_set (by rw [rD_len]; exact hb) _)
    rw [List.length_set, tD_len, bd] at this
    cases this
end

/-! ### rows told -/
open OQ (TabX RowX SeqAt)
section
variable {P : Program} {w : World} {K : PySem.W.Frag} {mg : Str → Option Value} {base : Heap}
def spRows32 (K : PySem.W.Frag) : Sp := fun vs H Q _ => ∃ (a : Addr) (n : Nat) (f : Nat → Nat → Nat), vs = [.ref a] ∧ TabX K H a n f ∧ n ≤ 16 ∧ ∀ t H', Same H H' → TabXT K H' t n f → Q (.ref t) H'
theorem ok_law_rows (T : Top K mg) : FnOk P w K mg base CX0 1 T.f_law_rows T.fd_law_rows ["rows"] (spRows32 K) := by
  refine T.F_law_rows.ok sc_law_rows (fun vs H Q E h => ?_) (fun cdv A outer s H vs Q E hr h => ?_)
  · obtain ⟨a, n, f, rfl, _⟩ := h; rfl
  · obtain ⟨a, n, f, rfl, tj, n16, k⟩ := h
    refine ⟨_, (pss_one (ps_ret (pe_callTy (OQ.tupK K) (by rfl) T.n_tuple (by decide +kernel) (pa_cons (pe_lc (own := [("row", 1)]) (g := (gName 1)) (tt := tYes) rfl sc_law_rows.nd (OQ.pi_seq (pv 0)) (blkOk_by (own := [("row", 1)]) (N := ["rows", "row"]) (sc := defScope s_law_rows) (by decide +kernel)) (fun _ _ _ _ _ => (pg_name (i := 1) sc_law_rows.nd rfl (Or.inl rfl))) (fun _ _ _ _ _ => pts_nil) (fun _ _ _ _ _ => (pe_callTy (OQ.tupK K) (by rfl) T.n_tuple (by decide +kernel) (pa_cons (pv 1) pa_nil)))) pa_nil)))), ?_⟩
    obtain ⟨rs, len, sa, rows⟩ := id tj
    walk_at "tx"
    refine OQ.d_seqVar rfl sa (fun W G hw hG => fun D hD => ?_)
    rw [List.length_map, len] at hw
    refine lc_it hw (fun i H' => Same H H' ∧ ∃ us : List Addr, us.length = i ∧ H' D = some (.lst (us.map V.ref)) ∧ ∀ (j : Nat) (u : Addr), us[j]? = some u → SqT K H' u ((List.range n).map fun c => V.int (f j c : Nat))) ⟨same_upd hD, [], rfl, upd_same, (fun j u e => nomatch e)⟩ (fun i H' _ q => hG _ q.1) ?_ ?_
    · rintro i y H' H'' il ⟨s1, us, lu, eD, all⟩ ⟨rfl, e2⟩
      have ir : i < rs.length := by rw [len]; exact il
      rw [List.getElem?_map, List.getElem?_eq_getElem ir] at e2
      cases e2
      walk_at "tx"
      refine OQ.d_tupSeq (OQ.SeqAt.same (rows i _ (List.getElem?_eq_getElem ir)) s1) (fun H3 t s3 sq => ?_)
      have eD3 := s3 _ _ eD
      refine ⟨_, eD3, by rw [List.length_map, lu]; exact Nat.lt_of_lt_of_le il (Nat.le_trans n16 (by decide)), same_put (s1.trans s3) hD, us ++ [t], by rw [List.length_append, lu]; rfl, by rw [upd_same, List.map_append]; rfl, fun j u e => ?_⟩
      by_cases lj : j < us.length
      · rw [List.getElem?_append_left lj] at e
        exact sqT_lst (OQ.sqT_same (all j u e) s3) eD3
      · have q : j = i := by
          have := (List.getElem?_eq_some_iff.mp e).1
          rw [List.length_append, lu] at this
          simp at this
          omega
        subst q
        rw [List.getElem?_append_right (by omega), lu, Nat.sub_self] at e
        cases e
        exact sqT_lst sq eD3
    · rintro H' ⟨s1, us, lu, eD, all⟩
      walk_at "tx"
      refine OQ.d_tupSeq (.inl (SqL.of eD)) (fun H3 q s3 sq => ?_)
      exact k q _ (s1.trans s3) ⟨us, lu, sq, fun j u e => OQ.sqT_same (all j u e) s3⟩
/-- whether the reckoning is the one of these tables -/
def spTold32 (K : PySem.W.Frag) (C : Addr) : Sp := fun vs H Q _ => ∃ (x t a b : Addr) (n : Nat) (J M : Nat → Nat → Nat) (z o : Nat), vs = [.ref x, .ref t] ∧ RekF K C H x n J M z o ∧ H t = some (.lst [.ref a, .ref b, .int z, .int o]) ∧ TabX K H a n J ∧ TabX K H b n M ∧ ∀ H', Same H H' → Q (.bl true) H'
theorem ok_law_is_told (T : Top K mg) : FnOk P w K mg base CX0 14 T.f_law_is_told T.fd_law_is_told ["reckoning", "told"] (spTold32 K T.C_Reckoning) := by
  refine T.F_law_is_told.ok sc_law_is_told (fun vs H Q E h => ?_) (fun cdv A outer s H vs Q E hr h => ?_)
  · obtain ⟨x, t, a, b, n, J, M, z, o, rfl, _⟩ := h; rfl
  · obtain ⟨x, t, a, b, n, J, M, z, o, rfl, rf, et, ta, tb, k⟩ := h
    obtain ⟨_, _, _, _, _, _, _, _, _, _, _, _, eR, n2, n16, zn, on, wj, wp⟩ := id rf
    refine ⟨_, (pss_cons (ps_if (PW.pt (pw_or (pt_not (pt_val (pe_callB call_isi (by rfl) T.n_isinstance (by decide +kernel) (pa_cons (pv 0) (pa_cons (pe_glob (v := V.ref T.C_Reckoning) (by rfl) T.g_Reckoning rfl) pa_nil))))) (pw_or1 (pt_cmpR (op_neD hr.units) (pe_fld (pv 0) (by rfl)) (pe_call (ok_law_rows T) (hr.mono (by decide)) (by rfl) T.g_law_rows T.F_law_rows.kp T.b_law_rows .nil pass0 (pa_cons (pe_ix ix_list (pv 1) pe_int (fun _ _ => rfl)) pa_nil)) (nomark _)))))
 (pss_one (ps_ret pe_bl))
 pss_nil)
 (pss_cons (ps_if (PW.pt (pw_or (pt_cmpR (op_neD hr.units) (pe_fld (pv 0) (by rfl)) (pe_call (ok_law_rows T) (hr.mono (by decide)) (by rfl) T.g_law_rows T.F_law_rows.kp T.b_law_rows .nil pass0 (pa_cons (pe_ix ix_list (pv 1) pe_int (fun _ _ => rfl)) pa_nil)) (nomark _)) (pw_or (pt_cmpR op_ne (pe_fld (pv 0) (by rfl)) (pe_ix ix_list (pv 1) pe_int (fun _ _ => rfl)) (nomark _)) (pw_or1 (pt_cmpR op_ne (pe_fld (pv 0) (by rfl)) (pe_ix ix_list (pv 1) pe_int (fun _ _ => rfl)) (nomark _))))))
 (pss_one (ps_ret pe_bl))
 pss_nil)
 (pss_one (ps_ret (pe_or (pe_cmpR op_gt (pe_callB RD.c_len (by rfl) T.n_len (by decide +kernel) (pa_cons (pe_ix ix_list (pv 1) pe_int (fun _ _ => rfl)) pa_nil)) pe_int (nomark _)) (pe_one (pe_cmpR (OQ.op_ownEq (ok_Reckoning__eq T) (hr.mono (by decide)) T.m_Reckoning__eq.at_ T.m_Reckoning__eq.fn T.b_Reckoning__eq pass0) (pv 0) (pe_make T.M_Reckoning (ok_Reckoning__init T) (hr.mono (by decide)) (by rfl) T.g_Reckoning T.b_Reckoning__init .nil OQ.passN (pa_cons (pe_ix ix_list (pv 1) pe_int (fun _ _ => rfl)) (pa_cons (pe_ix ix_list (pv 1) pe_int (fun _ _ => rfl)) (pa_cons (pe_ix ix_list (pv 1) pe_int (fun _ _ => rfl)) (pa_cons (pe_ix ix_list (pv 1) pe_int (fun _ _ => rfl)) pa_nil))))) (nomark _)))))))), ?_⟩
    walk_at "tx"
    refine RD.d_isi (.own _) (rfTy T rf) T.kRR ?_
    refine ⟨true, rfl, RD.d_iteNT ?_⟩
    walk_at "tx"
    refine rfJ T rf (fun jt tj => ?_)
    walk_at "tx"
    refine ⟨a, n, J, rfl, ta, n16, fun u H1 s1 tu => ?_⟩
    refine tab_ne (tj.same s1) tu ?_
    rw [decide_eq_true rfl]
    replace et := s1 _ _ et
    replace rf := rf.same s1
    replace ta := ta.same s1
    replace tb := tb.same s1
    walk_at "tx"
    refine rfP T rf (fun pt tp => ?_)
    walk_at "tx"
    refine ⟨b, n, M, rfl, tb, n16, fun u H2 s2 tu => ?_⟩
    refine tab_ne (tp.same s2) tu ?_
    rw [decide_eq_true rfl]
    replace et := s2 _ _ et
    replace rf := rf.same s2
    replace ta := ta.same s2
    replace tb := tb.same s2
    walk_at "tx"
    refine rfN T rf ?_
    walk_at "tx"
    rw [decide_eq_true rfl]
    walk_at "tx"
    refine rfO T rf ?_
    walk_at "tx"
    rw [decide_eq_true rfl]
    walk_at "tx"
    refine ta.len ?_
    walk_at "tx"
    refine RD.iteD (fun c => ?_) (fun c => ?_)
    · exact k _ (s1.trans s2)
    walk_at "tx"
    intro y dy ny ndy ne
    have s3 := same_made (C := T.C_Reckoning) ny ndy ne
    refine spReck_good (n := n) (z := z) (o := o) (J := J) (M := M) upd_same (ta.same s3) (tb.same s3) n2 n16 zn on wj wp (fun _ H4 kx f => ⟨rfl, ?_⟩) (fun f e => by rw [eR] at e; cases e)
    have s14 : Same H2 H4 := fun b u e => kx _ _ (ne_of_none e ny) (s3 _ _ e)
    replace rf := rf.same s14
    obtain ⟨dx, _, _, _, _, _, ex, _⟩ := id rf
    refine ⟨x, dx, _, _, rfl, ex, rfTy T f, T.nfR, ?_⟩
    refine ⟨x, y, n, J, M, z, o, n, J, M, z, o, rfl, rf, f, ?_⟩
    rw [decide_eq_true ⟨rfl, rfl, rfl, rfl⟩]
    exact k _ ((s1.trans s2).trans s14)
end

/-! ### the law -/
open OQ (TabX RowX SeqAt)
open RK (Gd Mo lotP Lb Fl FltAt)
/-- the words of faults -/
def OkF (F : RK.Fl) : Prop := ∀ f, F = some f → PyData.strOk f.1 = true
theorem OkF.or {F G : RK.Fl} (h : OkF F) (g : OkF G) : OkF (F.or G) := fun f e => by
  cases F with
  | none => exact g f e
  | some x => cases e; exact h _ rfl
theorem OkF.fnd {n : Nat} {g : Nat → RK.Fl} (h : ∀ i, OkF (g i)) : OkF (RK.fnd n g) := fun f e => by
  unfold RK.fnd at e
  obtain ⟨a, _, e⟩ := List.exists_of_findSome?_eq_some e
  exact h a f e
theorem OkF.ite {P : Prop} {inst : Decidable P} {x : Str × Int × Int × Int} (h : PyData.strOk x.1 = true) : OkF (if P then none else some x) := fun f e => by
  split at e
  · cases e
  · cases e; exact h
theorem rest_ok {n : Nat} {J M : Nat → Nat → Nat} {z o : Nat} : OkF (RK.restF n J M z o) := by
  unfold RK.restF
  refine .or (.fnd fun _ => .ite (by show PyData.strOk "none" = true; decide +kernel)) (.or (.fnd fun _ => .ite (by show PyData.strOk "one" = true; decide +kernel)) (.or (.fnd fun _ => .ite (by show PyData.strOk "idle" = true; decide +kernel)) (.or (.fnd fun _ => .fnd fun _ => .ite (by show PyData.strOk "swap" = true; decide +kernel)) (.or (.fnd fun _ => .fnd fun _ => .fnd fun _ => .ite (by show PyData.strOk "join" = true; decide +kernel)) (.or (.fnd fun _ => .fnd fun _ => .fnd fun _ => .ite (by show PyData.strOk "product" = true; decide +kernel)) (.or (.fnd fun _ => .fnd fun _ => .fnd fun _ => .ite (by show PyData.strOk "over" = true; decide +kernel)) ?_))))))
  intro f e
  unfold RK.sameF at e
  split at e
  · cases e; show PyData.strOk "same" = true; decide +kernel
  · cases e
theorem bad_sh {w : Str} {a b c : Int} (h : PyData.strOk w = true) : SeqAt.shaped (.tuple [.str "bad", .tuple [.str w, .int a, .int b, .int c]]) = true := by
  unfold SeqAt.shaped
  repeat rw [PyData.canLay0]
  repeat rw [PyData.canLayAll0]
  repeat rw [PyData.canLay0]
  repeat rw [PyData.canLayAll0]
  repeat rw [PyData.canLay0]
  repeat rw [PyData.depth]
  repeat rw [PyData.depthAll]
  repeat rw [PyData.depth]
  repeat rw [PyData.depthAll]
  repeat rw [PyData.depth]
  rw [h]
  decide +kernel
def spLaw (K : PySem.W.Frag) : Sp := fun vs H Q _ => ∃ (a : Addr) (ns : List Int), vs = [.ref a] ∧ SqL K H a (ns.map V.int) ∧ ns.length ≤ 63 ∧ ∀ H', Q (.bl true) H'
theorem mo_ok {n o : Nat} {P : Nat → Nat → Nat} : OkF (moF n P o) := .or (.fnd fun _ => .ite (by show PyData.strOk "one" = true; decide +kernel)) (.fnd fun _ => .fnd fun _ => .fnd fun _ => .ite (by show PyData.strOk "product" = true; decide +kernel))
theorem moF_congr {n o : Nat} {P f : Nat → Nat → Nat} (e : Eqn n P f) (on : o < n) (pn : ∀ a b, a < n → b < n → f a b < n) : moF n P o = moF n f o := by
  unfold moF
  have h2 : RK.oneF n P o = RK.oneF n f o := RK.fnd_congr fun a ha => by rw [e o a on ha, e a o ha on]
  have h5 : RK.groupF "product" n P = RK.groupF "product" n f := RK.fnd_congr fun a ha => RK.fnd_congr fun b hb => RK.fnd_congr fun c hc => by
    rw [e a b ha hb, e b c hb hc, e _ c (pn a b ha hb) hc, e a _ ha (pn b c hb hc)]
  rw [h2, h5]
theorem lotF_tab {n o : Nat} {f : Nat → Nat → Nat} {dp : PyData} {ds : List PyData} (q : RK.squareB n dp = true) (e : RK.rowsOf dp = some ds) (l : ds.length = n) (ag : Eqn n (RK.tabf dp) f) (n1 : 1 ≤ n) (n4 : n ≤ 4) (on : o < n) (fn : ∀ a b, a < n → b < n → f a b < n) : lotF dp (.int o) = moF n f o := by
  have ec : RK.cellsOf dp = ds := by unfold RK.cellsOf; rw [e]; rfl
  have bo : RK.belowB n (.int o) = true := decide_eq_true (by omega)
  have eB : lotB dp (.int o) = true := by
    unfold lotB
    rw [e]
    dsimp only
    rw [l, q, bo, decide_eq_true ⟨n1, n4⟩]; rfl
  unfold lotF
  rw [if_pos eB, ec, l, show RK.natOf (.int (o : Int)) = o from by show (o : Int).toNat = o; omega]
  exact moF_congr ag on fn
theorem lotP_congr {n : Nat} {P f : Nat → Nat → Nat} (e : Eqn n P f) : lotP n P = lotP n f := by
  funext a b
  refine RK.bits_eq fun z => ?_
  rw [RK.lot_bit, RK.lot_bit]
  constructor
  · rintro ⟨x, y, h1, h2, h3, h4, h5⟩; exact ⟨x, y, h1, h2, h3, h4, by rw [← e x y h1 h2]; exact h5⟩
  · rintro ⟨x, y, h1, h2, h3, h4, h5⟩; exact ⟨x, y, h1, h2, h3, h4, by rw [e x y h1 h2]; exact h5⟩
section
variable {P : Program} {w : World} {K : PySem.W.Frag} {mg : Str → Option Value} {base : Heap}
set_option maxRecDepth 20000 in
theorem ok_law (T : Top K mg) : FnOk P w K mg base CX0 18 T.f_law T.fd_law ["script"] (spLaw K) := by
  refine T.F_law.ok sc_law (fun vs H Q E h => ?_) (fun cdv A outer s H vs Q E hr h => ?_)
  · obtain ⟨a, ns, rfl, _⟩ := h; rfl
  · obtain ⟨ad, ns, rfl, hq, hl, k⟩ := h
    refine ⟨_, (pss_cons (ps_set (i := 1) sc_law.nd rfl (Or.inl rfl) (pe_call (ok_law_hand T) (hr.mono (by decide)) (by rfl) T.g_law_hand T.F_law_hand.kp T.b_law_hand .nil pass0 (pa_cons (pv 0) pa_nil)))
 (pss_cons (ps_asg (pe_call (ok_law_things T) (hr.mono (by decide)) (by rfl) T.g_law_things T.F_law_things.kp T.b_law_things .nil pass0 (pa_cons (pv 1) pa_nil)) (pg_tup (by rfl) (pgs_cons (pg_name (i := 2) sc_law.nd rfl (Or.inl rfl)) (pgs_cons (pg_name (i := 3) sc_law.nd rfl (Or.inl rfl)) pgs_nil))))
 (pss_cons (ps_asg (pe_call (ok_law_named T) (hr.mono (by decide)) (by rfl) T.g_law_named T.F_law_named.kp T.b_law_named .nil pass0 (pa_cons (pv 1) (pa_cons (pv 2) (pa_cons (pv 3) pa_nil)))) (pg_tup (by rfl) (pgs_cons (pg_name (i := 2) sc_law.nd rfl (Or.inl rfl)) (pgs_cons (pg_name (i := 3) sc_law.nd rfl (Or.inl rfl)) pgs_nil))))
 (pss_cons (ps_set (i := 4) sc_law.nd rfl (Or.inl rfl) (pe_callB RD.c_len (by rfl) T.n_len (by decide +kernel) (pa_cons (pv 2) pa_nil)))
 (pss_cons (ps_for PassesOwn.never rfl (pi_range1 (by rfl) T.n_range (pa_cons (pe_ix ix_list (pe_lst (pa_cons pe_int (pa_cons pe_int (pa_cons pe_int (pa_cons pe_int pa_nil))))) (pe_call (ok_law_draw T) (hr.mono (by decide)) (by rfl) T.g_law_draw T.F_law_draw.kp T.b_law_draw .nil pass0 (pa_cons (pv 1) (pa_cons pe_int pa_nil))) (fun _ _ => rfl)) pa_nil)) (pg_name (i := 5) sc_law.nd rfl (Or.inl rfl))
 (pss_cons (ps_set (i := 6) sc_law.nd rfl (Or.inl rfl) (pe_ix ix_list (pv 2) (pe_call (ok_law_draw T) (hr.mono (by decide)) (by rfl) T.g_law_draw T.F_law_draw.kp T.b_law_draw .nil pass0 (pa_cons (pv 1) (pa_cons (pv 4) pa_nil))) (fun _ _ => rfl)))
 (pss_one (ps_asg (pe_call (ok_law_draw T) (hr.mono (by decide)) (by rfl) T.g_law_draw T.F_law_draw.kp T.b_law_draw .nil pass0 (pa_cons (pv 1) (pa_cons (pv 4) pa_nil))) (pg_sub (pv 6) (pe_call (ok_law_draw T) (hr.mono (by decide)) (by rfl) T.g_law_draw T.F_law_draw.kp T.b_law_draw .nil pass0 (pa_cons (pv 1) (pa_cons (pv 4) pa_nil))) set_list)))))
 (C8.pss_cut (ps_if (pt_cmpR op_eq (pe_call (ok_law_draw T) (hr.mono (by decide)) (by rfl) T.g_law_draw T.F_law_draw.kp T.b_law_draw .nil pass0 (pa_cons (pv 1) (pa_cons pe_int pa_nil))) pe_int (nomark _))
 (pss_one (ps_set (i := 3) sc_law.nd rfl (Or.inl rfl) (pe_call (ok_law_draw T) (hr.mono (by decide)) (by rfl) T.g_law_draw T.F_law_draw.kp T.b_law_draw .nil pass0 (pa_cons (pv 1) (pa_cons (pv 4) pa_nil)))))
 pss_nil)
 (pss_cons (ps_set (i := 7) sc_law.nd rfl (Or.inl rfl) (pe_call (ok_law_broken T) (hr.mono (by decide)) (by rfl) T.g_law_broken T.F_law_broken.kp T.b_law_broken .nil pass0 (pa_cons (pv 2) (pa_cons (pv 3) pa_nil))))
 (pss_cons (ps_set (i := 8) sc_law.nd rfl (Or.inl rfl) (pe_call (ok_law_rows T) (hr.mono (by decide)) (by rfl) T.g_law_rows T.F_law_rows.kp T.b_law_rows .nil pass0 (pa_cons (pv 2) pa_nil)))
 (pss_cons (ps_for PassesOwn.never rfl (pi_list (pe_slice sl_list (pe_lst (pa_cons (pv 2) (pa_cons (pv 8) pa_nil))) po_none (po_some (pe_op op_add pe_int (pe_callTy RD.c_int (by rfl) T.n_int (by decide +kernel) (pa_cons (pe_cmpR op_lt (pv 4) pe_int (nomark _)) pa_nil)))))) (pg_name (i := 9) sc_law.nd rfl (Or.inl rfl))
 (pss_cons (ps_set (i := 10) sc_law.nd rfl (Or.inl rfl) (pe_call (ok_law_asked T) (hr.mono (by decide)) (by rfl) T.g_law_asked T.F_law_asked.kp T.b_law_asked .nil pass0 (pa_cons (pv 9) (pa_cons (pv 3) pa_nil))))
 (pss_cons (ps_if (PW.pt (pw_or (PW.pt (pw_and (pt_cmpR RD.o_notN (pv 7) pe_non (nomark _)) (pw_and1 (pt_cmpR (op_neD hr.units) (pv 10) (pe_tup (pa_cons pe_str (pa_cons (pv 7) pa_nil))) (nomark _))))) (pw_or1 (PW.pt (pw_and (pt_cmpR RD.o_isN (pv 7) pe_non (nomark _)) (pw_and1 (pt_cmpR op_ne (pe_ix ix_tup (pv 10) pe_int (fun _ _ => rfl)) pe_str (nomark _))))))))
 (pss_one (ps_ret pe_bl))
 pss_nil)
 (pss_one (ps_if (PW.pt (pw_and (pt_cmpR RD.o_isN (pv 7) pe_non (nomark _)) (pw_and1 (pt_not (pt_val (pe_call (ok_law_is_told T) (hr.mono (by decide)) (by rfl) T.g_law_is_told T.F_law_is_told.kp T.b_law_is_told .nil pass0 (pa_cons (pe_ix ix_tup (pv 10) pe_int (fun _ _ => rfl)) (pa_cons (pe_call (ok_law_lots T) (hr.mono (by decide)) (by rfl) T.g_law_lots T.F_law_lots.kp T.b_law_lots .nil pass0 (pa_cons (pv 2) (pa_cons (pv 3) pa_nil))) pa_nil))))))))
 (pss_one (ps_ret pe_bl))
 pss_nil)))))
 (pss_cons (ps_if (pt_cmpR (op_neD hr.units) (pe_call (ok_law_rows T) (hr.mono (by decide)) (by rfl) T.g_law_rows T.F_law_rows.kp T.b_law_rows .nil pass0 (pa_cons (pv 2) pa_nil)) (pv 8) (nomark _))
 (pss_one (ps_ret pe_bl))
 pss_nil)
 (pss_cons (ps_asg (pe_call (ok_law_wrong T) (hr.mono (by decide)) (by rfl) T.g_law_wrong T.F_law_wrong.kp T.b_law_wrong .nil pass0 (pa_cons (pv 1) (pa_cons (pv 2) (pa_cons (pv 3) pa_nil)))) (pg_tup (by rfl) (pgs_cons (pg_name (i := 11) sc_law.nd rfl (Or.inl rfl)) (pgs_cons (pg_name (i := 12) sc_law.nd rfl (Or.inl rfl)) pgs_nil))))
 (pss_one (ps_ret (pe_cmpR (op_eqD hr.units) (pe_call (ok_law_asked T) (hr.mono (by decide)) (by rfl) T.g_law_asked T.F_law_asked.kp T.b_law_asked .nil pass0 (pa_cons (pv 11) (pa_cons (pv 12) pa_nil))) (pe_tup (pa_cons pe_str (pa_cons (pe_tup (pa_cons pe_str (pa_cons (pe_un un_neg pe_int) (pa_cons (pe_un un_neg pe_int) (pa_cons (pe_un un_neg pe_int) pa_nil))))) pa_nil))) (nomark _))))))))))))))), ?_⟩
    walk_at "tx"
    refine ⟨ad, ns, rfl, hq, hl, fun h c H1 hT1 s1 _ => ?_⟩
    clear hq s1
    walk_at "tx"
    refine ⟨h, c, rfl, hT1, fun v H2 hT2 k2 th => ?_⟩
    clear k2 hT1
    obtain ⟨t0, b, n, o, P0, rfl, et, tb, n1, n4, on, pn⟩ := th
    refine ⟨t0, [.ref b, .int o], rfl, SqT.of et, rfl, .ref b, [.int o], rfl, .int o, [], rfl, rfl, ?_⟩
    walk_at "tx"
    refine ⟨h, c, b, n, o, P0, rfl, hT2, tb, n1, n4, on, fun x y hx hy => pn x hx y hy, fun t1 D us f o' H3 hT3 k3 et1 hD rU on' fn => ?_⟩
    clear et tb pn on k3
    refine ⟨t1, [.ref D, .int o'], rfl, SqT.of et1, rfl, .ref D, [.int o'], rfl, .int o', [], rfl, rfl, ?_⟩
    clear et1
    walk_at "tx"
    refine rU.l.x.len ?_
    walk_at "tx"
    refine ⟨by show 4 ≤ sizeLine; decide, fun L hL => ?_⟩
    have sL := same_upd (o := HO.lst [V.int 0, V.int 0, V.int 1, V.int 2]) hL
    have eL : upd H3 L (.lst [.int 0, .int 0, .int 1, .int 2]) L = some (.lst [.int 0, .int 0, .int 1, .int 2]) := upd_same
    have nL := (hT3.ne hL).1
    replace rU := rU.same sL
    replace hT3 := hT3.same sL
    clear sL hL
    generalize upd H3 L (.lst [.int 0, .int 0, .int 1, .int 2]) = H4 at *
    walk_at "tx"
    refine ⟨h, c, 4, rfl, hT3, by decide, log2_lt (by decide), fun r H5 r0 r4 hT5 b5 => ?_⟩
    obtain ⟨r, rfl⟩ := Int.eq_ofNat_of_zero_le r0
    replace eL := b5.kx _ _ nL eL
    replace rU := rU.kx b5.kx hT2 hD
    obtain ⟨m, em, m2⟩ : ∃ m : Nat, [V.int 0, V.int 0, V.int 1, V.int 2][r]? = some (V.int (m : Nat)) ∧ m ≤ 2 := by
      have : r < 4 := by omega
      match r, this with
      | 0, _ => exact ⟨0, rfl, by omega⟩
      | 1, _ => exact ⟨0, rfl, by omega⟩
      | 2, _ => exact ⟨1, rfl, by omega⟩
      | 3, _ => exact ⟨2, rfl, by omega⟩
    clear b5 hT3
    refine RD.d_ixL (SqL.of eL) (atI_nat em) ?_
    walk_at "tx"
    refine ⟨m, rfl, by omega, by omega, ?_⟩
    refine RD.f_range (lo := 0) (n := ((m : Nat) : Int).toNat) (fun i σ' H' => ∃ (f : Nat → Nat → Nat) (v5 v6 : Option V), σ' = [some (.ref ad), some (.ref h), some (.ref D), some (.int o'), some (.int n), v5, v6, none, none, none, none, none, none] ∧ HandAt H' h c ∧ RowsU us H2 H' D n f ∧ ∀ a b, a < n → b < n → f a b < n) ⟨f, _, _, rfl, hT5, rU, fn⟩ ?_ ?_
    · clear rU fn hT5
      rintro i σ' H6 hi ⟨f, v5, v6, rfl, hT6, rU, fn⟩
      walk_at "tx"
      refine ⟨h, c, n, rfl, hT6, by omega, log2_lt (by omega), fun a H7 a0 a1 hT7 b7 => ?_⟩
      obtain ⟨a, rfl⟩ := Int.eq_ofNat_of_zero_le a0
      have ha : a < n := by omega
      replace rU := rU.kx b7.kx hT2 hD
      obtain ⟨u, eu, eux, ev⟩ := rU.get ha
      refine RD.d_ixL (SqL.of rU.2.2.2.2.1) eux ?_
      walk_at "tx"
      refine ⟨h, c, n, rfl, hT7, by omega, log2_lt (by omega), fun x H8 x0 x1 hT8 b8 => ?_⟩
      obtain ⟨x, rfl⟩ := Int.eq_ofNat_of_zero_le x0
      have hx : x < n := by omega
      replace rU := rU.kx b8.kx hT2 hD
      walk_at "tx"
      refine ⟨h, c, n, rfl, hT8, by omega, log2_lt (by omega), fun y H9 y0 y1 hT9 b9 => ?_⟩
      obtain ⟨y, rfl⟩ := Int.eq_ofNat_of_zero_le y0
      have hy : y < n := by omega
      replace rU := rU.kx b9.kx hT2 hD
      obtain ⟨u', eu', eux', ev'⟩ := rU.get ha
      rw [eu] at eu'
      cases eu'
      have f0 := rU.2.2.2.1 _ (List.mem_of_getElem? eu)
      refine RD.d_setL ev' (cell_ix hy) ?_
      exact ⟨_, _, _, rfl, hT9.put (hT2.ne f0).1 (hT2.ne f0).2, rU.set (b := y) (v := x) eu, upf_lt hx fn⟩
    clear rU fn hT5 eL
    clear f
    rintro σ' H6 ⟨f, v5, v6, rfl, hT6, rU, fn⟩
    walk_at "tx"
    refine RD.d_cut (fun σ' H' => ∃ o : Nat, o < n ∧ σ' = [some (.ref ad), some (.ref h), some (.ref D), some (.int o), some (.int n), v5, v6, none, none, none, none, none, none] ∧ HandAt H' h c ∧ RowsU us H2 H' D n f) ?_ ?_
    · walk_at "tx"
      refine ⟨h, c, 8, rfl, hT6, by decide, log2_lt (by decide), fun g H7 g0 g8 hT7 b7 => ?_⟩
      replace rU := rU.kx b7.kx hT2 hD
      walk_at "tx"
      refine RD.iteD (fun c1 => ?_) (fun c1 => ?_)
      · walk_at "tx"
        refine ⟨h, c, n, rfl, hT7, by omega, log2_lt (by omega), fun o H8 o0 o1 hT8 b8 => ?_⟩
        obtain ⟨o, rfl⟩ := Int.eq_ofNat_of_zero_le o0
        exact ⟨o, by omega, rfl, hT8, rU.kx b8.kx hT2 hD⟩
      · walk_at "tx"
        exact ⟨o', on', rfl, hT7, rU⟩
    clear hT6 rU
    rintro σ' H7 ⟨o, on, rfl, hT7, rU⟩
    walk_at "tx"
    refine ⟨moF n f o, ⟨D, n, o, f, rfl, rU.l, n4, on, fn, rfl⟩, fun fv H8 s8 ff => ?_⟩
    have hT8 := hT7.same s8
    have tD8 := rU.l.same s8
    clear rU hT7 s8
    walk_at "tx"
    refine ⟨D, n, f, rfl, tD8.x, by omega, fun kt H9 s9 tk => ?_⟩
    replace hT8 := hT8.same s9
    replace tD8 := tD8.same s9
    replace ff := ff.same s9
    clear s9
    walk_at "tx"
    refine ⟨by show 2 ≤ sizeLine; decide, fun L1 hL1 => ?_⟩
    have sL := same_upd (o := HO.lst [V.ref D, V.ref kt]) hL1
    have eL1 : upd H9 L1 (.lst [.ref D, .ref kt]) L1 = some (.lst [.ref D, .ref kt]) := upd_same
    replace hT8 := hT8.same sL
    replace tD8 := tD8.same sL
    replace ff := ff.same sL
    replace tk := tk.same sL
    clear sL hL1
    generalize upd H9 L1 (.lst [.ref D, .ref kt]) = H10 at *
    walk_at "tx"
    refine ⟨L1, _, rfl, SqL.of eL1, fun L2 hL2 => ?_⟩
    have tab : ∀ v ∈ cutV [V.ref D, V.ref kt] none (some (1 + if decide ((n : Int) < 4) = true then 1 else 0)), ∃ b, v = .ref b ∧ TabX K H10 b n f := fun v m => by
      have m2 := List.mem_of_mem_drop (List.mem_of_mem_take m)
      rcases List.mem_cons.mp m2 with rfl | m2
      · exact ⟨_, rfl, tD8.x⟩
      rw [List.mem_singleton.mp m2]
      exact ⟨_, rfl, tk.x⟩
    generalize cutV [V.ref D, V.ref kt] none (some (1 + if decide ((n : Int) < 4) = true then 1 else 0)) = xs at *
    have s9 := same_upd (o := HO.lst xs) hL2
    have eL2 : upd H10 L2 (.lst xs) L2 = some (.lst xs) := upd_same
    replace tab : ∀ v ∈ xs, ∃ b, v = .ref b ∧ TabX K (upd H10 L2 (.lst xs)) b n f := fun v m => by
      obtain ⟨b, e, t⟩ := tab v m
      exact ⟨b, e, t.same s9⟩
    replace hT8 := hT8.same s9
    replace tD8 := tD8.same s9
    replace ff := ff.same s9
    replace tk := tk.same s9
    clear s9 hL2 eL1
    generalize upd H10 L2 (.lst xs) = H11 at *
    refine ⟨L2, rfl, ⟨_, SqL.of eL2⟩, ?_⟩
    refine RD.f_list (K := K) (a := L2) (xs := xs) (fun i σ' H' => Same H11 H' ∧ ∃ v9 v10 : Option V, σ' = [some (.ref ad), some (.ref h), some (.ref D), some (.int o), some (.int n), v5, v6, some fv, some (.ref kt), v9, v10, none, none]) ⟨Same.refl _, _, _, rfl⟩ (fun i σ' H' _ z => SqL.of (z.1 _ _ eL2)) ?_ ?_
    · rintro i x σ' H12 hi ⟨s12, v9, v10, rfl⟩
      obtain ⟨b2, rfl, t2⟩ := tab x (List.mem_of_getElem? hi)
      obtain ⟨dp, hp, qp, ag, ds, er, el⟩ := OQ.tab_dp (t2.same s12) fn
      have eFL := lotF_tab (o := o) qp er el ag n1 n4 on fn
      have ec : (RK.cellsOf dp).length = n := by unfold RK.cellsOf; rw [er]; exact el
      walk_at "tx"
      refine ⟨.ref b2, .int o, dp, .int o, rfl, OQ.dqd_of hp, .int o, fun p H13 s13 ask => ?_⟩
      have tD13 := (tD8.same s12).same s13
      have ff13 := (ff.same s12).same s13
      have s1 := s12.trans s13
      clear hp
      rcases ask with ⟨e, _, n', oo, y, P1, mo, _, _, ag1, el1, eo1, eq, rf⟩ | ⟨f1, u, e, eq, fa⟩
      · rw [el1] at ec
        subst ec
        have : oo = o := by rw [← eo1]; show (o : Int).toNat = o; omega
        subst this
        have elot : lotP n' P1 = lotP n' f := lotP_congr fun i j hi hj => (ag1 i j hi hj).trans (ag i j hi hj)
        rw [elot] at rf
        rw [eFL] at e
        rw [e] at ff13
        have : fv = .non := ff13
        subst this
        walk_at "tx"
        refine RD.iteN (fun c => absurd rfl c) (fun _ => ?_)
        walk_at "tx"
        refine RD.iteD (fun _ => ?_) (fun c => absurd rfl c)
        walk_at "tx"
        refine RD.iteN (fun c => absurd rfl c) (fun _ => ?_)
        walk_at "tx"
        refine RD.iteD (fun _ => ?_) (fun c => absurd rfl c)
        walk_at "tx"
        refine ⟨D, n', oo, f, rfl, tD13, n1, n4, on, fn, fun t3 x3 y3 H14 s14 et3 tx3 ty3 => ?_⟩
        refine ⟨y, t3, x3, y3, 2 ^ n', _, lotP n' f, 0, 2 ^ oo, rfl, rf.same s14, et3, tx3.x, ty3.x, fun H15 s15 => ?_⟩
        refine ⟨true, rfl, RD.d_iteNT ?_⟩
        walk_at "tx"
        exact ⟨(s1.trans s14).trans s15, _, _, rfl⟩
      · rw [eFL] at e
        rw [e] at ff13
        have wok := mo_ok f1 e
        obtain ⟨fw, fa1, fb1, fc1⟩ := f1
        obtain ⟨fp, rfl, efp⟩ := ff13
        obtain ⟨up, rfl, eup⟩ := fa
        walk_at "tx"
        refine RD.iteN (fun _ => ?_) (fun c => by cases c)
        walk_at "tx"
        refine ⟨by show 2 ≤ sizeLine; decide, fun p2 hp2 => ?_⟩
        have s14 := same_upd (o := HO.tup [V.str (Str.ofString "bad"), V.ref fp]) hp2
        have e2 : upd H13 p2 (.tup [.str (Str.ofString "bad"), .ref fp]) p2 = some (.tup [.str (Str.ofString "bad"), .ref fp]) := upd_same
        replace eq := s14 _ _ eq
        replace eup := s14 _ _ eup
        replace efp := s14 _ _ efp
        generalize upd H13 p2 (.tup [.str (Str.ofString "bad"), .ref fp]) = H14 at *
        refine ⟨_, _, .tup (SqT.of eq) (.cons (.str _) (.cons (.tup (SqT.of eup) (.cons (.str _) (.cons (.int _) (.cons (.int _) (.cons (.int _) .nil))))) .nil)), .tup (SqT.of e2) (.cons (.str _) (.cons (.tup (SqT.of efp) (.cons (.str _) (.cons (.int _) (.cons (.int _) (.cons (.int _) .nil))))) .nil)), bad_sh wok, bad_sh wok, ?_⟩
        rw [SeqAt.eqv_refl _ (SeqAt.canLay_of_shaped (bad_sh wok))]
        refine ⟨_, rfl, ?_⟩
        show (if (!true) = true then _ else _)
        walk_at "tx"
        refine RD.iteD (fun c => by cases c) (fun _ => ?_)
        walk_at "tx"
        refine RD.iteD (fun c => by cases c) (fun _ => ?_)
        walk_at "tx"
        exact ⟨s1.trans s14, _, _, rfl⟩
    rintro σ' H12 ⟨s12, v9, v10, rfl⟩
    replace hT8 := hT8.same s12
    replace tD8 := tD8.same s12
    replace tk := tk.same s12
    clear ff tab eL2 s12
    walk_at "tx"
    refine ⟨D, n, f, rfl, tD8.x, by omega, fun kt2 H13 s13 tk2 => ?_⟩
    replace hT8 := hT8.same s13
    replace tD8 := tD8.same s13
    replace tk := tk.same s13
    clear s13
    walk_at "tx"
    refine tab_ne tk2 tk ?_
    rw [decide_eq_true rfl]
    walk_at "tx"
    refine ⟨h, c, D, n, o, f, rfl, hT8, tD8, n1, n4, on, fn, fun t4 v4 w4 dv dw H14 et4 gv gw nb => ?_⟩
    refine ⟨t4, [v4, w4], rfl, SqT.of et4, rfl, v4, [w4], rfl, w4, [], rfl, rfl, ?_⟩
    walk_at "tx"
    refine ⟨v4, w4, dv, dw, rfl, gv, gw, fun p H15 s15 ask => ?_⟩
    have eF : lotF dv dw = some (("size" : Str), -1, -1, -1) := by unfold lotF; rw [if_neg (by rw [nb]; decide)]
    rcases ask with ⟨e, _⟩ | ⟨f1, u, e, eq, fa⟩
    · rw [eF] at e; cases e
    rw [eF] at e
    cases e
    obtain ⟨up, rfl, eup⟩ := fa
    walk_at "tx"
    refine ⟨by show 4 ≤ sizeLine; decide, fun p1 hp1 => ?_⟩
    have s16 := same_upd (o := HO.tup [V.str (Str.ofString "size"), V.int (-1), V.int (-1), V.int (-1)]) hp1
    have e1 : upd H15 p1 (.tup [.str (Str.ofString "size"), .int (-1), .int (-1), .int (-1)]) p1 = some (.tup [.str (Str.ofString "size"), .int (-1), .int (-1), .int (-1)]) := upd_same
    replace eq := s16 _ _ eq
    replace eup := s16 _ _ eup
    generalize upd H15 p1 (.tup [.str (Str.ofString "size"), .int (-1), .int (-1), .int (-1)]) = H16 at *
    walk_at "tx"
    refine ⟨by show 2 ≤ sizeLine; decide, fun p2 hp2 => ?_⟩
    have s17 := same_upd (o := HO.tup [V.str (Str.ofString "bad"), V.ref p1]) hp2
    have e2 : upd H16 p2 (.tup [.str (Str.ofString "bad"), .ref p1]) p2 = some (.tup [.str (Str.ofString "bad"), .ref p1]) := upd_same
    replace eq := s17 _ _ eq
    replace eup := s17 _ _ eup
    replace e1 := s17 _ _ e1
    generalize upd H16 p2 (.tup [.str (Str.ofString "bad"), .ref p1]) = H17 at *
    have wok : PyData.strOk ("size" : Str) = true := by decide +kernel
    refine ⟨_, _, .tup (SqT.of eq) (.cons (.str _) (.cons (.tup (SqT.of eup) (.cons (.str _) (.cons (.int _) (.cons (.int _) (.cons (.int _) .nil))))) .nil)), .tup (SqT.of e2) (.cons (.str _) (.cons (.tup (SqT.of e1) (.cons (.str _) (.cons (.int _) (.cons (.int _) (.cons (.int _) .nil))))) .nil)), bad_sh wok, bad_sh wok, ?_⟩
    rw [SeqAt.eqv_refl _ (SeqAt.canLay_of_shaped (bad_sh wok))]
    exact k _
end

theorem nf_self {K : PySem.W.Frag} {C : Addr} : PySem.W.notFirst K C (.ref C) = true := by unfold PySem.W.notFirst; simp
theorem facts {P : Program} {w : World} {K : PySem.W.Frag} {h : Heap} {mg : Str → Option Value} {f : Addr} (X : K.In h) (G : h.Ns mainGlobals mg) (hfa : mg ("law" : Str) = some (.ref f)) (c : He.SaysD faH fnH K) (x : exH K = true) :
    ∃ fd : FuncData, (∀ (s : Shared) (v : Value), BindsTo s fd ⟨[v], []⟩ [("script", v)]) ∧ ∀ base : Heap, K.In base → base.Ns mainGlobals mg → FnOk P w K mg base CX0 18 f fd ["script"] (spLaw K) := by
  obtain ⟨fdWayError__init, DWayError__init⟩ := c.def_ 0 (d := dH_WayError__init) rfl
  have FWayError__init : Fun K _ _ s_WayError__init _ fdWayError__init := OQ.fun_of DWayError__init
  have bWayError__init := FWayError__init.binds (ps := ["self", "value"]) fun _ _ _ _ _ _ us hl => match us, hl with | [_, _], _ => rfl
  obtain ⟨fdis_integer, Dis_integer⟩ := c.def_ 1 (d := dH_is_integer) rfl
  have Fis_integer : Fun K _ _ s_is_integer _ fdis_integer := OQ.fun_of Dis_integer
  have bis_integer := Fis_integer.binds (ps := ["thing"]) fun _ _ _ _ _ _ us hl => match us, hl with | [_], _ => rfl
  obtain ⟨fdis_row, Dis_row⟩ := c.def_ 2 (d := dH_is_row) rfl
  have Fis_row : Fun K _ _ s_is_row _ fdis_row := OQ.fun_of Dis_row
  have bis_row := Fis_row.binds (ps := ["thing"]) fun _ _ _ _ _ _ us hl => match us, hl with | [_], _ => rfl
  obtain ⟨fdfirst_fault, Dfirst_fault⟩ := c.def_ 3 (d := dH_first_fault) rfl
  have Ffirst_fault : Fun K _ _ s_first_fault _ fdfirst_fault := OQ.fun_of Dfirst_fault
  have bfirst_fault := Ffirst_fault.binds (ps := ["joins", "products", "none", "one"]) fun _ _ _ _ _ _ us hl => match us, hl with | [_, _, _, _], _ => rfl
  obtain ⟨fdsize_fault, Dsize_fault⟩ := c.def_ 4 (d := dH_size_fault) rfl
  have Fsize_fault : Fun K _ _ s_size_fault _ fdsize_fault := OQ.fun_of Dsize_fault
  have bsize_fault := Fsize_fault.binds (ps := ["joins", "products", "none", "one"]) fun _ _ _ _ _ _ us hl => match us, hl with | [_, _, _, _], _ => rfl
  obtain ⟨fdis_square, Dis_square⟩ := c.def_ 5 (d := dH_is_square) rfl
  have Fis_square : Fun K _ _ s_is_square _ fdis_square := OQ.fun_of Dis_square
  have bis_square := Fis_square.binds (ps := ["many", "thing"]) fun _ _ _ _ _ _ us hl => match us, hl with | [_, _], _ => rfl
  obtain ⟨fdis_side, Dis_side⟩ := c.def_ 6 (d := dH_is_side) rfl
  have Fis_side : Fun K _ _ s_is_side _ fdis_side := OQ.fun_of Dis_side
  have bis_side := Fis_side.binds (ps := ["many", "thing"]) fun _ _ _ _ _ _ us hl => match us, hl with | [_, _], _ => rfl
  obtain ⟨fdis_below, Dis_below⟩ := c.def_ 7 (d := dH_is_below) rfl
  have Fis_below : Fun K _ _ s_is_below _ fdis_below := OQ.fun_of Dis_below
  have bis_below := Fis_below.binds (ps := ["many", "thing"]) fun _ _ _ _ _ _ us hl => match us, hl with | [_, _], _ => rfl
  obtain ⟨fdnone_fault, Dnone_fault⟩ := c.def_ 8 (d := dH_none_fault) rfl
  have Fnone_fault : Fun K _ _ s_none_fault _ fdnone_fault := OQ.fun_of Dnone_fault
  have bnone_fault := Fnone_fault.binds (ps := ["joins", "products", "none"]) fun _ _ _ _ _ _ us hl => match us, hl with | [_, _, _], _ => rfl
  obtain ⟨fdone_fault, Done_fault⟩ := c.def_ 9 (d := dH_one_fault) rfl
  have Fone_fault : Fun K _ _ s_one_fault _ fdone_fault := OQ.fun_of Done_fault
  have bone_fault := Fone_fault.binds (ps := ["products", "one"]) fun _ _ _ _ _ _ us hl => match us, hl with | [_, _], _ => rfl
  obtain ⟨fdidle_fault, Didle_fault⟩ := c.def_ 10 (d := dH_idle_fault) rfl
  have Fidle_fault : Fun K _ _ s_idle_fault _ fdidle_fault := OQ.fun_of Didle_fault
  have bidle_fault := Fidle_fault.binds (ps := ["joins"]) fun _ _ _ _ _ _ us hl => match us, hl with | [_], _ => rfl
  obtain ⟨fdswap_fault, Dswap_fault⟩ := c.def_ 11 (d := dH_swap_fault) rfl
  have Fswap_fault : Fun K _ _ s_swap_fault _ fdswap_fault := OQ.fun_of Dswap_fault
  have bswap_fault := Fswap_fault.binds (ps := ["joins"]) fun _ _ _ _ _ _ us hl => match us, hl with | [_], _ => rfl
  obtain ⟨fdgrouping_fault, Dgrouping_fault⟩ := c.def_ 12 (d := dH_grouping_fault) rfl
  have Fgrouping_fault : Fun K _ _ s_grouping_fault _ fdgrouping_fault := OQ.fun_of Dgrouping_fault
  have bgrouping_fault := Fgrouping_fault.binds (ps := ["word", "table"]) fun _ _ _ _ _ _ us hl => match us, hl with | [_, _], _ => rfl
  obtain ⟨fdover_fault, Dover_fault⟩ := c.def_ 13 (d := dH_over_fault) rfl
  have Fover_fault : Fun K _ _ s_over_fault _ fdover_fault := OQ.fun_of Dover_fault
  have bover_fault := Fover_fault.binds (ps := ["joins", "products"]) fun _ _ _ _ _ _ us hl => match us, hl with | [_, _], _ => rfl
  obtain ⟨fdsame_fault, Dsame_fault⟩ := c.def_ 14 (d := dH_same_fault) rfl
  have Fsame_fault : Fun K _ _ s_same_fault _ fdsame_fault := OQ.fun_of Dsame_fault
  have bsame_fault := Fsame_fault.binds (ps := ["none", "one"]) fun _ _ _ _ _ _ us hl => match us, hl with | [_, _], _ => rfl
  obtain ⟨fdReckoning__init, DReckoning__init⟩ := c.def_ 15 (d := dH_Reckoning__init) rfl
  have FReckoning__init : Fun K _ _ s_Reckoning__init _ fdReckoning__init := OQ.fun_of DReckoning__init
  have bReckoning__init := FReckoning__init.binds (ps := ["self", "joins", "products", "none", "one"]) fun _ _ _ _ _ _ us hl => match us, hl with | [_, _, _, _, _], _ => rfl
  obtain ⟨fdReckoning__eq, DReckoning__eq⟩ := c.def_ 16 (d := dH_Reckoning__eq) rfl
  have FReckoning__eq : Fun K _ _ s_Reckoning__eq _ fdReckoning__eq := OQ.fun_of DReckoning__eq
  have bReckoning__eq := FReckoning__eq.binds (ps := ["self", "other"]) fun _ _ _ _ _ _ us hl => match us, hl with | [_, _], _ => rfl
  obtain ⟨fdReckoning_Ujoined, DReckoning_Ujoined⟩ := c.def_ 17 (d := dH_Reckoning_Ujoined) rfl
  have FReckoning_Ujoined : Fun K _ _ s_Reckoning_Ujoined _ fdReckoning_Ujoined := OQ.fun_of DReckoning_Ujoined
  have bReckoning_Ujoined := FReckoning_Ujoined.binds (ps := ["self", "worths"]) fun _ _ _ _ _ _ us hl => match us, hl with | [_, _], _ => rfl
  obtain ⟨fdReckoning_Umeet, DReckoning_Umeet⟩ := c.def_ 18 (d := dH_Reckoning_Umeet) rfl
  have FReckoning_Umeet : Fun K _ _ s_Reckoning_Umeet _ fdReckoning_Umeet := OQ.fun_of DReckoning_Umeet
  have bReckoning_Umeet := FReckoning_Umeet.binds (ps := ["self", "a", "b"]) fun _ _ _ _ _ _ us hl => match us, hl with | [_, _, _], _ => rfl
  obtain ⟨fdReckoning_Uleft, DReckoning_Uleft⟩ := c.def_ 19 (d := dH_Reckoning_Uleft) rfl
  have FReckoning_Uleft : Fun K _ _ s_Reckoning_Uleft _ fdReckoning_Uleft := OQ.fun_of DReckoning_Uleft
  have bReckoning_Uleft := FReckoning_Uleft.binds (ps := ["self", "a", "c"]) fun _ _ _ _ _ _ us hl => match us, hl with | [_, _, _], _ => rfl
  obtain ⟨fdReckoning_Uright, DReckoning_Uright⟩ := c.def_ 20 (d := dH_Reckoning_Uright) rfl
  have FReckoning_Uright : Fun K _ _ s_Reckoning_Uright _ fdReckoning_Uright := OQ.fun_of DReckoning_Uright
  have bReckoning_Uright := FReckoning_Uright.binds (ps := ["self", "c", "a"]) fun _ _ _ _ _ _ us hl => match us, hl with | [_, _, _], _ => rfl
  obtain ⟨fdlots, Dlots⟩ := c.def_ 21 (d := dH_lots) rfl
  have Flots : Fun K _ _ s_lots _ fdlots := OQ.fun_of Dlots
  have blots := Flots.binds (ps := ["products", "one"]) fun _ _ _ _ _ _ us hl => match us, hl with | [_, _], _ => rfl
  obtain ⟨fdlots_fault, Dlots_fault⟩ := c.def_ 22 (d := dH_lots_fault) rfl
  have Flots_fault : Fun K _ _ s_lots_fault _ fdlots_fault := OQ.fun_of Dlots_fault
  have blots_fault := Flots_fault.binds (ps := ["products", "one"]) fun _ _ _ _ _ _ us hl => match us, hl with | [_, _], _ => rfl
  obtain ⟨fdproduct_of_lots, Dproduct_of_lots⟩ := c.def_ 23 (d := dH_product_of_lots) rfl
  have Fproduct_of_lots : Fun K _ _ s_product_of_lots _ fdproduct_of_lots := OQ.fun_of Dproduct_of_lots
  have bproduct_of_lots := Fproduct_of_lots.binds (ps := ["products", "a", "b"]) fun _ _ _ _ _ _ us hl => match us, hl with | [_, _, _], _ => rfl
  obtain ⟨fdlaw_hand, Dlaw_hand⟩ := c.def_ 24 (d := dH_law_hand) rfl
  have Flaw_hand : Fun K _ _ s_law_hand _ fdlaw_hand := OQ.fun_of Dlaw_hand
  have blaw_hand := Flaw_hand.binds (ps := ["script"]) fun _ _ _ _ _ _ us hl => match us, hl with | [_], _ => rfl
  obtain ⟨fdlaw_draw, Dlaw_draw⟩ := c.def_ 25 (d := dH_law_draw) rfl
  have Flaw_draw : Fun K _ _ s_law_draw _ fdlaw_draw := OQ.fun_of Dlaw_draw
  have blaw_draw := Flaw_draw.binds (ps := ["hand", "many"]) fun _ _ _ _ _ _ us hl => match us, hl with | [_, _], _ => rfl
  obtain ⟨fdlaw_rows, Dlaw_rows⟩ := c.def_ 26 (d := dH_law_rows) rfl
  have Flaw_rows : Fun K _ _ s_law_rows _ fdlaw_rows := OQ.fun_of Dlaw_rows
  have blaw_rows := Flaw_rows.binds (ps := ["rows"]) fun _ _ _ _ _ _ us hl => match us, hl with | [_], _ => rfl
  obtain ⟨fdlaw_is_told, Dlaw_is_told⟩ := c.def_ 27 (d := dH_law_is_told) rfl
  have Flaw_is_told : Fun K _ _ s_law_is_told _ fdlaw_is_told := OQ.fun_of Dlaw_is_told
  have blaw_is_told := Flaw_is_told.binds (ps := ["reckoning", "told"]) fun _ _ _ _ _ _ us hl => match us, hl with | [_, _], _ => rfl
  obtain ⟨fdlaw_things, Dlaw_things⟩ := c.def_ 28 (d := dH_law_things) rfl
  have Flaw_things : Fun K _ _ s_law_things _ fdlaw_things := OQ.fun_of Dlaw_things
  have blaw_things := Flaw_things.binds (ps := ["hand"]) fun _ _ _ _ _ _ us hl => match us, hl with | [_], _ => rfl
  obtain ⟨fdlaw_named, Dlaw_named⟩ := c.def_ 29 (d := dH_law_named) rfl
  have Flaw_named : Fun K _ _ s_law_named _ fdlaw_named := OQ.fun_of Dlaw_named
  have blaw_named := Flaw_named.binds (ps := ["hand", "products", "one"]) fun _ _ _ _ _ _ us hl => match us, hl with | [_, _, _], _ => rfl
  obtain ⟨fdlaw_broken, Dlaw_broken⟩ := c.def_ 30 (d := dH_law_broken) rfl
  have Flaw_broken : Fun K _ _ s_law_broken _ fdlaw_broken := OQ.fun_of Dlaw_broken
  have blaw_broken := Flaw_broken.binds (ps := ["products", "one"]) fun _ _ _ _ _ _ us hl => match us, hl with | [_, _], _ => rfl
  obtain ⟨fdlaw_sum, Dlaw_sum⟩ := c.def_ 31 (d := dH_law_sum) rfl
  have Flaw_sum : Fun K _ _ s_law_sum _ fdlaw_sum := OQ.fun_of Dlaw_sum
  have blaw_sum := Flaw_sum.binds (ps := ["things"]) fun _ _ _ _ _ _ us hl => match us, hl with | [_], _ => rfl
  obtain ⟨fdlaw_lots, Dlaw_lots⟩ := c.def_ 32 (d := dH_law_lots) rfl
  have Flaw_lots : Fun K _ _ s_law_lots _ fdlaw_lots := OQ.fun_of Dlaw_lots
  have blaw_lots := Flaw_lots.binds (ps := ["products", "one"]) fun _ _ _ _ _ _ us hl => match us, hl with | [_, _], _ => rfl
  obtain ⟨fdlaw_asked, Dlaw_asked⟩ := c.def_ 33 (d := dH_law_asked) rfl
  have Flaw_asked : Fun K _ _ s_law_asked _ fdlaw_asked := OQ.fun_of Dlaw_asked
  have blaw_asked := Flaw_asked.binds (ps := ["products", "one"]) fun _ _ _ _ _ _ us hl => match us, hl with | [_, _], _ => rfl
  obtain ⟨fdlaw_wrong, Dlaw_wrong⟩ := c.def_ 34 (d := dH_law_wrong) rfl
  have Flaw_wrong : Fun K _ _ s_law_wrong _ fdlaw_wrong := OQ.fun_of Dlaw_wrong
  have blaw_wrong := Flaw_wrong.binds (ps := ["hand", "products", "one"]) fun _ _ _ _ _ _ us hl => match us, hl with | [_, _, _], _ => rfl
  obtain ⟨fdlaw, Dlaw⟩ := c.def_ 35 (d := dH_law) rfl
  have Flaw : Fun K _ _ s_law _ fdlaw := OQ.fun_of Dlaw
  have blaw := Flaw.binds (ps := ["script"]) fun _ _ _ _ _ _ us hl => match us, hl with | [_], _ => rfl
  have gWayError : mg "WayError" = some (.ref (He.ga K "WayError")) := He.glo_ok X G (c.fact 0 rfl)
  have gBadReckoning : mg "BadReckoning" = some (.ref (He.ga K "BadReckoning")) := He.glo_ok X G (c.fact 1 rfl)
  have gBadWorth : mg "BadWorth" = some (.ref (He.ga K "BadWorth")) := He.glo_ok X G (c.fact 2 rfl)
  have gReckoning : mg "Reckoning" = some (.ref (He.ga K "Reckoning")) := He.glo_ok X G (c.fact 3 rfl)
  have gis_integer : mg "is_integer" = some (.ref (He.ga K "is_integer")) := He.glo_ok X G (c.fact 4 rfl)
  have gis_row : mg "is_row" = some (.ref (He.ga K "is_row")) := He.glo_ok X G (c.fact 5 rfl)
  have gfirst_fault : mg "first_fault" = some (.ref (He.ga K "first_fault")) := He.glo_ok X G (c.fact 6 rfl)
  have gsize_fault : mg "size_fault" = some (.ref (He.ga K "size_fault")) := He.glo_ok X G (c.fact 7 rfl)
  have gis_square : mg "is_square" = some (.ref (He.ga K "is_square")) := He.glo_ok X G (c.fact 8 rfl)
  have gis_side : mg "is_side" = some (.ref (He.ga K "is_side")) := He.glo_ok X G (c.fact 9 rfl)
  have gis_below : mg "is_below" = some (.ref (He.ga K "is_below")) := He.glo_ok X G (c.fact 10 rfl)
  have gnone_fault : mg "none_fault" = some (.ref (He.ga K "none_fault")) := He.glo_ok X G (c.fact 11 rfl)
  have gone_fault : mg "one_fault" = some (.ref (He.ga K "one_fault")) := He.glo_ok X G (c.fact 12 rfl)
  have gidle_fault : mg "idle_fault" = some (.ref (He.ga K "idle_fault")) := He.glo_ok X G (c.fact 13 rfl)
  have gswap_fault : mg "swap_fault" = some (.ref (He.ga K "swap_fault")) := He.glo_ok X G (c.fact 14 rfl)
  have ggrouping_fault : mg "grouping_fault" = some (.ref (He.ga K "grouping_fault")) := He.glo_ok X G (c.fact 15 rfl)
  have gover_fault : mg "over_fault" = some (.ref (He.ga K "over_fault")) := He.glo_ok X G (c.fact 16 rfl)
  have gsame_fault : mg "same_fault" = some (.ref (He.ga K "same_fault")) := He.glo_ok X G (c.fact 17 rfl)
  have glots : mg "lots" = some (.ref (He.ga K "lots")) := He.glo_ok X G (c.fact 18 rfl)
  have glots_fault : mg "lots_fault" = some (.ref (He.ga K "lots_fault")) := He.glo_ok X G (c.fact 19 rfl)
  have gproduct_of_lots : mg "product_of_lots" = some (.ref (He.ga K "product_of_lots")) := He.glo_ok X G (c.fact 20 rfl)
  have g_law_hand : mg "_law_hand" = some (.ref (He.ga K "_law_hand")) := He.glo_ok X G (c.fact 21 rfl)
  have g_law_draw : mg "_law_draw" = some (.ref (He.ga K "_law_draw")) := He.glo_ok X G (c.fact 22 rfl)
  have g_law_rows : mg "_law_rows" = some (.ref (He.ga K "_law_rows")) := He.glo_ok X G (c.fact 23 rfl)
  have g_law_is_told : mg "_law_is_told" = some (.ref (He.ga K "_law_is_told")) := He.glo_ok X G (c.fact 24 rfl)
  have g_law_things : mg "_law_things" = some (.ref (He.ga K "_law_things")) := He.glo_ok X G (c.fact 25 rfl)
  have g_law_named : mg "_law_named" = some (.ref (He.ga K "_law_named")) := He.glo_ok X G (c.fact 26 rfl)
  have g_law_broken : mg "_law_broken" = some (.ref (He.ga K "_law_broken")) := He.glo_ok X G (c.fact 27 rfl)
  have g_law_sum : mg "_law_sum" = some (.ref (He.ga K "_law_sum")) := He.glo_ok X G (c.fact 28 rfl)
  have g_law_lots : mg "_law_lots" = some (.ref (He.ga K "_law_lots")) := He.glo_ok X G (c.fact 29 rfl)
  have g_law_asked : mg "_law_asked" = some (.ref (He.ga K "_law_asked")) := He.glo_ok X G (c.fact 30 rfl)
  have g_law_wrong : mg "_law_wrong" = some (.ref (He.ga K "_law_wrong")) := He.glo_ok X G (c.fact 31 rfl)
  have glaw : mg "law" = some (.ref (He.ga K "law")) := He.glo_ok X G (c.fact 32 rfl)
  have zabs : mg "abs" = none := He.free_ok X G (c.fact 33 rfl)
  have zall : mg "all" = none := He.free_ok X G (c.fact 34 rfl)
  have zbool : mg "bool" = none := He.free_ok X G (c.fact 35 rfl)
  have zint : mg "int" = none := He.free_ok X G (c.fact 36 rfl)
  have zisinstance : mg "isinstance" = none := He.free_ok X G (c.fact 37 rfl)
  have zlen : mg "len" = none := He.free_ok X G (c.fact 38 rfl)
  have zlist : mg "list" = none := He.free_ok X G (c.fact 39 rfl)
  have zrange : mg "range" = none := He.free_ok X G (c.fact 40 rfl)
  have zsorted : mg "sorted" = none := He.free_ok X G (c.fact 41 rfl)
  have ztuple : mg "tuple" = none := He.free_ok X G (c.fact 42 rfl)
  obtain ⟨tkFEWEST_WORTHS, gFEWEST_WORTHS⟩ := He.int_ok X G (c.fact 43 (f := .int "FEWEST_WORTHS" 2) rfl)
  obtain ⟨tkMOST_WORTHS, gMOST_WORTHS⟩ := He.int_ok X G (c.fact 44 (f := .int "MOST_WORTHS" 16) rfl)
  obtain ⟨tkMOST_THINGS, gMOST_THINGS⟩ := He.int_ok X G (c.fact 45 (f := .int "MOST_THINGS" 4) rfl)
  have r0 := x
  obtain ⟨qhnO, r1⟩ := OQ.two r0
  obtain ⟨qhtO, r2⟩ := OQ.two r1
  obtain ⟨qhaReckoning, r3⟩ := OQ.two r2
  obtain ⟨qhmReckoning, r4⟩ := OQ.two r3
  obtain ⟨qtI, r5⟩ := OQ.two r4
  obtain ⟨qkintRe, r6⟩ := OQ.two r5
  obtain ⟨qkboolRe, r7⟩ := OQ.two r6
  obtain ⟨qicWE, r8⟩ := OQ.two r7
  obtain ⟨qtyWE, r9⟩ := OQ.two r8
  obtain ⟨qexWE, r10⟩ := OQ.two r9
  obtain ⟨qneRe, r11⟩ := OQ.two r10
  obtain ⟨qeBadReckoning, r12⟩ := OQ.two r11
  have qeBadWorth := r12
  have hnO := OQ.isB_ok qhnO
  have htO := of_decide_eq_true qhtO
  have eBadReckoning := OQ.erB_ok hnO htO qeBadReckoning
  have eBadWorth := OQ.erB_ok hnO htO qeBadWorth
  have e := hfa.symm.trans glaw
  cases e
  let T : Top K mg := { C_Reckoning := _, cl_Reckoning := He.cls_ok (c.fact 46 (f := .cls "Reckoning") rfl), g_Reckoning := gReckoning, na_Reckoning_joins := He.noat_ok (c.fact 47 (f := .noat "Reckoning" "joins") rfl), na_Reckoning_products := He.noat_ok (c.fact 48 (f := .noat "Reckoning" "products") rfl), na_Reckoning_none := He.noat_ok (c.fact 49 (f := .noat "Reckoning" "none") rfl), na_Reckoning_one := He.noat_ok (c.fact 50 (f := .noat "Reckoning" "one") rfl), na_Reckoning__meets := He.noat_ok (c.fact 51 (f := .noat "Reckoning" "_meets") rfl), na_Reckoning__lefts := He.noat_ok (c.fact 52 (f := .noat "Reckoning" "_lefts") rfl), na_Reckoning__rights := He.noat_ok (c.fact 53 (f := .noat "Reckoning" "_rights") rfl), f_WayError__init := _, fd_WayError__init := fdWayError__init, F_WayError__init := FWayError__init, b_WayError__init := bWayError__init, f_is_integer := _, fd_is_integer := fdis_integer, F_is_integer := Fis_integer, b_is_integer := bis_integer, g_is_integer := gis_integer, f_is_row := _, fd_is_row := fdis_row, F_is_row := Fis_row, b_is_row := bis_row, g_is_row := gis_row, f_first_fault := _, fd_first_fault := fdfirst_fault, F_first_fault := Ffirst_fault, b_first_fault := bfirst_fault, g_first_fault := gfirst_fault, f_size_fault := _, fd_size_fault := fdsize_fault, F_size_fault := Fsize_fault, b_size_fault := bsize_fault, g_size_fault := gsize_fault, f_is_square := _, fd_is_square := fdis_square, F_is_square := Fis_square, b_is_square := bis_square, g_is_square := gis_square, f_is_side := _, fd_is_side := fdis_side, F_is_side := Fis_side, b_is_side := bis_side, g_is_side := gis_side, f_is_below := _, fd_is_below := fdis_below, F_is_below := Fis_below, b_is_below := bis_below, g_is_below := gis_below, f_none_fault := _, fd_none_fault := fdnone_fault, F_none_fault := Fnone_fault, b_none_fault := bnone_fault, g_none_fault := gnone_fault, f_one_fault := _, fd_one_fault := fdone_fault, F_one_fault := Fone_fault, b_one_fault := bone_fault, g_one_fault := gone_fault, f_idle_fault := _, fd_idle_fault := fdidle_fault, F_idle_fault := Fidle_fault, b_idle_fault := bidle_fault, g_idle_fault := gidle_fault, f_swap_fault := _, fd_swap_fault := fdswap_fault, F_swap_fault := Fswap_fault, b_swap_fault := bswap_fault, g_swap_fault := gswap_fault, f_grouping_fault := _, fd_grouping_fault := fdgrouping_fault, F_grouping_fault := Fgrouping_fault, b_grouping_fault := bgrouping_fault, g_grouping_fault := ggrouping_fault, f_over_fault := _, fd_over_fault := fdover_fault, F_over_fault := Fover_fault, b_over_fault := bover_fault, g_over_fault := gover_fault, f_same_fault := _, fd_same_fault := fdsame_fault, F_same_fault := Fsame_fault, b_same_fault := bsame_fault, g_same_fault := gsame_fault, f_Reckoning__init := _, fd_Reckoning__init := fdReckoning__init, F_Reckoning__init := FReckoning__init, b_Reckoning__init := bReckoning__init, M_Reckoning := He.mkr_ok (c.fact 59 (f := .mkr "Reckoning") rfl), f_Reckoning__eq := _, fd_Reckoning__eq := fdReckoning__eq, F_Reckoning__eq := FReckoning__eq, b_Reckoning__eq := bReckoning__eq, m_Reckoning__eq := He.meth_ok (c.fact 54 (f := .meth "Reckoning" "__eq__") rfl), f_Reckoning_Ujoined := _, fd_Reckoning_Ujoined := fdReckoning_Ujoined, F_Reckoning_Ujoined := FReckoning_Ujoined, b_Reckoning_Ujoined := bReckoning_Ujoined, m_Reckoning_Ujoined := He.meth_ok (c.fact 55 (f := .meth "Reckoning" "_joined") rfl), f_Reckoning_Umeet := _, fd_Reckoning_Umeet := fdReckoning_Umeet, F_Reckoning_Umeet := FReckoning_Umeet, b_Reckoning_Umeet := bReckoning_Umeet, m_Reckoning_Umeet := He.meth_ok (c.fact 56 (f := .meth "Reckoning" "_meet") rfl), f_Reckoning_Uleft := _, fd_Reckoning_Uleft := fdReckoning_Uleft, F_Reckoning_Uleft := FReckoning_Uleft, b_Reckoning_Uleft := bReckoning_Uleft, m_Reckoning_Uleft := He.meth_ok (c.fact 57 (f := .meth "Reckoning" "_left") rfl), f_Reckoning_Uright := _, fd_Reckoning_Uright := fdReckoning_Uright, F_Reckoning_Uright := FReckoning_Uright, b_Reckoning_Uright := bReckoning_Uright, m_Reckoning_Uright := He.meth_ok (c.fact 58 (f := .meth "Reckoning" "_right") rfl), f_lots := _, fd_lots := fdlots, F_lots := Flots, b_lots := blots, g_lots := glots, f_lots_fault := _, fd_lots_fault := fdlots_fault, F_lots_fault := Flots_fault, b_lots_fault := blots_fault, g_lots_fault := glots_fault, f_product_of_lots := _, fd_product_of_lots := fdproduct_of_lots, F_product_of_lots := Fproduct_of_lots, b_product_of_lots := bproduct_of_lots, g_product_of_lots := gproduct_of_lots, f_law_hand := _, fd_law_hand := fdlaw_hand, F_law_hand := Flaw_hand, b_law_hand := blaw_hand, g_law_hand := g_law_hand, f_law_draw := _, fd_law_draw := fdlaw_draw, F_law_draw := Flaw_draw, b_law_draw := blaw_draw, g_law_draw := g_law_draw, f_law_rows := _, fd_law_rows := fdlaw_rows, F_law_rows := Flaw_rows, b_law_rows := blaw_rows, g_law_rows := g_law_rows, f_law_is_told := _, fd_law_is_told := fdlaw_is_told, F_law_is_told := Flaw_is_told, b_law_is_told := blaw_is_told, g_law_is_told := g_law_is_told, f_law_things := _, fd_law_things := fdlaw_things, F_law_things := Flaw_things, b_law_things := blaw_things, g_law_things := g_law_things, f_law_named := _, fd_law_named := fdlaw_named, F_law_named := Flaw_named, b_law_named := blaw_named, g_law_named := g_law_named, f_law_broken := _, fd_law_broken := fdlaw_broken, F_law_broken := Flaw_broken, b_law_broken := blaw_broken, g_law_broken := g_law_broken, f_law_sum := _, fd_law_sum := fdlaw_sum, F_law_sum := Flaw_sum, b_law_sum := blaw_sum, g_law_sum := g_law_sum, f_law_lots := _, fd_law_lots := fdlaw_lots, F_law_lots := Flaw_lots, b_law_lots := blaw_lots, g_law_lots := g_law_lots, f_law_asked := _, fd_law_asked := fdlaw_asked, F_law_asked := Flaw_asked, b_law_asked := blaw_asked, g_law_asked := g_law_asked, f_law_wrong := _, fd_law_wrong := fdlaw_wrong, F_law_wrong := Flaw_wrong, b_law_wrong := blaw_wrong, g_law_wrong := g_law_wrong, f_law := _, fd_law := fdlaw, F_law := Flaw, b_law := blaw, g_law := glaw, n_abs := zabs, n_all := zall, n_bool := zbool, n_int := zint, n_isinstance := zisinstance, n_len := zlen, n_list := zlist, n_range := zrange, n_sorted := zsorted, n_tuple := ztuple, hnO := hnO, htO := htO, k_FEWEST_WORTHS := tkFEWEST_WORTHS, g_FEWEST_WORTHS := gFEWEST_WORTHS, k_MOST_WORTHS := tkMOST_WORTHS, g_MOST_WORTHS := gMOST_WORTHS, k_MOST_THINGS := tkMOST_THINGS, g_MOST_THINGS := gMOST_THINGS, ha_Reckoning := OQ.isB_ok qhaReckoning, hm_Reckoning := of_decide_eq_true qhmReckoning, kRR := kit_selfR, kE_BadReckoning := kit_selfR, kE_BadWorth := kit_selfR, tI := of_decide_eq_true qtI, kI_Reckoning := of_decide_eq_true qkintRe, kB_Reckoning := of_decide_eq_true qkboolRe, ne_Reckoning := OQ.isB_ok qneRe, C_WayError := _, g_WayError := gWayError, nfR := nf_self, C_BadReckoning := _, g_BadReckoning := gBadReckoning, oex_BadReckoning := eBadReckoning.oex, i_BadReckoning := eBadReckoning.ini, v_BadReckoning := eBadReckoning.va, xf_BadReckoning := eBadReckoning.xf, exI_BadReckoning := eBadReckoning.exi, exm_BadReckoning := OQ.exm_is eBadReckoning.oex.exC eBadReckoning.cls eBadReckoning.oex.tyC (OQ.mro_has eBadReckoning (by simp)), C_BadWorth := _, g_BadWorth := gBadWorth, oex_BadWorth := eBadWorth.oex, i_BadWorth := eBadWorth.ini, v_BadWorth := eBadWorth.va, xf_BadWorth := eBadWorth.xf, exI_BadWorth := eBadWorth.exi, exm_BadWorth := OQ.exm_is eBadWorth.oex.exC eBadWorth.cls eBadWorth.oex.tyC (OQ.mro_has eBadWorth (by simp)), exW_BadReckoning := OQ.exm_eW eBadReckoning (of_decide_eq_true qexWE) qicWE (of_decide_eq_true qtyWE), exW_BadWorth := OQ.exm_eW eBadWorth (of_decide_eq_true qexWE) qicWE (of_decide_eq_true qtyWE) }
  exact ⟨fdlaw, fun s v => FunD.bindsA (ps := ["script"]) Dlaw (fun _ _ _ _ _ _ us hl => match us, hl with | [_], _ => rfl) s [v] rfl, fun base _ _ => ok_law T⟩

end Toy
open PySem PySem.W PySem.Calls PyProof.Rows
set_option maxRecDepth 100000 in
set_option maxHeartbeats 0 in
theorem PySem.Challenge.cw_watchedways_k34_whole_lots_of_things_holds : PySem.Challenge.rw_watchedways_k34_whole_lots_of_things.Holds := by
  w_on; o_law
  refine HandSHeadRun.head_any (r := OpenLaw.row PySem.Challenge.rw_watchedways_k34_whole_lots_of_things) (q := view (OpenLaw.row PySem.Challenge.rw_watchedways_k34_whole_lots_of_things).prog [44]) (H := Toy.hk) (ob := Toy.ob) (M := 30000) (loose := Toy.looseH) (d := HandSHeadRun.topDef (OpenLaw.row PySem.Challenge.rw_watchedways_k34_whole_lots_of_things).prog 44) (kwd := []) (OQ.obB_eq 5 Toy.faH Toy.fnH Toy.exH)
    (by kernel_rfl) (fun s => by kernel_rfl) Toy.run (by kernel_rfl) (by kernel_rfl) (by kernel_rfl) (by rfl) (by first | assumption | decide +kernel) (by decide +kernel) ⟨rfl, rfl, rfl, rfl, rfl, by decide +kernel⟩ ?hw ?hc
  case hw => w_witness2
  case hc =>
    refine L2.walk_ofE (l := PySem.Challenge.rw_watchedways_k34_whole_lots_of_things) (n := 63) (k := 18) (x := "script") (CX := L2.CX0) rfl (by decide) (by kernel_rfl) ⟨rfl, by decide, by decide⟩ ?F (fun _ _ _ _ z => z)
    intro w mg fa h Y G hmg0
    obtain ⟨K, KX, c, x⟩ := Y
    have hmg : mg ("law" : PySem.Str) = some (.ref fa) := by
      have e : (HandSHeadRun.topDef (OpenLaw.row PySem.Challenge.rw_watchedways_k34_whole_lots_of_things).prog 44).name = ("law" : PySem.Str) := by kernel_rfl
      rw [← e]
      exact hmg0
    obtain ⟨fd, hb, hF⟩ := Toy.facts (P := (PySem.Challenge.rw_watchedways_k34_whole_lots_of_things).prog) (w := w) KX G hmg c x
    exact ⟨K, fd, Toy.spLaw K, KX, hb, fun H a ns hl _ hS => ⟨a, ns, rfl, hS, hl, fun _ => rfl⟩, hF⟩

