import PyProof.Rows.All
import Wide.All
import OpenK.AllK
import Wide.FinOn
import KE.KExcIs
import HandS.ForMost
import HandS.ForExc
import HandS.Codes
import HandS.Wide
import HandS.IsInst
import HandS.ExcInit
import HandS.ExcField
import HandS.ExcIs
import HandS.TryMany
import HandS.CallSlots
import HandS.Defaults
import HandS.Gcd
import HandS.DeepEq
import HandS.Flow
import HandS.TupLe
import PyProof.SumWalk
import PyProof.Rows.CountFlat

import HandS.Walk
import KE.GoesEnum
import HandS.SortInts
import HandS.Style
import HandS.Conv
import HandS.StrMore
import HandS.DictComp
import HandS.Head0
import HandS.Head1
import HandS.Head2
import HandS.Head3
import HandS.HeadEnd
import HandS.HeadHook1
import HandS.HeadHook2
import KE.KStateDown
import HandS.WideBits
import HandS.Star
import HandS.Zip
import KE.GoesMore
import KE.KDictZip
import KE.KStar
import PyProof.ListNew
import PySem.Challenge.RW_watchedways_k35_whole_leavings_of_made_o
set_option Elab.async false

set_option Elab.async false
set_option linter.all false
set_option maxRecDepth 100000
set_option maxHeartbeats 4000000
set_option exponentiation.threshold 3000

/-! ### readings, step by step -/
namespace RD
open PySem L2
section
variable {σ : St} {H : Hp} {Q : VK} {B : Bool → Hp → Prop} {A : List V → Hp → Prop} {K : PySem.W.Frag} {v x y : V} {i j : Int} {n : Nat} {ta tb tc te : TE} {tA tB' : TT} {r r' : R2} {t : TA}
theorem d_var {n : Nat} {v : V} (e : σ[n]? = some (some v)) (h : Q v H) : tVar n σ H Q := ⟨v, e, h⟩
theorem d_c (h : Q v H) : tC v σ H Q := h
theorem d_op (h : ta σ H fun x H1 => tb σ H1 fun y H2 => r x y H2 Q) : tOp r ta tb σ H Q := h
theorem d_un {r : V → Hp → VK → Prop} (h : ta σ H fun x H1 => r x H1 Q) : tUn r ta σ H Q := h
theorem d_cb {r : List V → Hp → VK → Prop} (h : t σ H fun vs H1 => r vs H1 Q) : tCB r t σ H Q := h
theorem d_call {sp : Sp} {dvs : List V} {E : XK} (h : t σ H fun vs H1 => sp (vs ++ dvs) H1 Q E) : tCall sp dvs E t σ H Q := h
theorem d_nil (h : A [] H) : tNil σ H A := h
theorem d_cons {ta : TE} {tr : TA} (h : ta σ H fun x H1 => tr σ H1 fun xs H2 => A (x :: xs) H2) : tCons ta tr σ H A := h
theorem d_lst (h : t σ H fun xs H1 => xs.length ≤ sizeLine ∧ ∀ p, H1 p = none → Q (.ref p) (upd H1 p (.lst xs))) : tLst t σ H Q := h
theorem d_tup (h : t σ H fun xs H1 => xs.length ≤ sizeLine ∧ ∀ p, H1 p = none → Q (.ref p) (upd H1 p (.tup xs))) : tTup t σ H Q := h
theorem d_test (h : ta σ H fun x H' => ∃ k, x = .bl k ∧ B k H') : tTest ta σ H B := h
theorem d_tB (h : ta σ H fun x H' => ∃ k, x = .bl k ∧ B k H') : L2.tB ta σ H B := h
theorem d_bl {b : Bool} {R : Bool → Prop} (h : R b) : ∃ k, V.bl b = .bl k ∧ R k := ⟨b, rfl, h⟩
theorem d_and (h : tA σ H fun c H1 => if c = true then tB' σ H1 B else B false H1) : tAnd tA tB' σ H B := h
theorem d_or (h : tA σ H fun c H1 => if c = true then B true H1 else tB' σ H1 B) : tOr tA tB' σ H B := h
theorem d_not (h : tA σ H fun c H1 => B (!c) H1) : tNot tA σ H B := h
theorem d_andV (h : ta σ H fun x H1 => ∃ c, x = .bl c ∧ if c = true then tb σ H1 Q else Q (.bl false) H1) : tAndV ta tb σ H Q := h
theorem d_orV (h : ta σ H fun x H1 => ∃ c, x = .bl c ∧ if c = true then Q (.bl true) H1 else tb σ H1 Q) : tOrV ta tb σ H Q := h
theorem d_notV (h : ta σ H fun x H1 => ∃ c, x = .bl c ∧ Q (.bl (!c)) H1) : tNotV ta σ H Q := h
theorem d_if (h : tA σ H fun c H1 => if c = true then ta σ H1 Q else tb σ H1 Q) : tIf tA ta tb σ H Q := h
theorem d_rI0 {g : Int → Int → V} (h : Q (g i j) H) : rI0 g (.int i) (.int j) H Q := ⟨i, j, rfl, rfl, h⟩
theorem d_rI {C : Int → Int → Prop} {g : Int → Int → V} (c : C i j) (h : Q (g i j) H) : rI C g (.int i) (.int j) H Q := ⟨i, j, rfl, rfl, c, h⟩
theorem d_rU {g : Int → V} (h : Q (g i) H) : rU g (.int i) H Q := ⟨i, rfl, h⟩
theorem d_eqI (h : Q (.bl (decide (i = j))) H) : rEq (.int i) (.int j) H Q := ⟨rfl, by
  have e : decide (V.int i = V.int j) = decide (i = j) := by rw [dec_int, Bool.eq_iff_iff]; simp
  rw [e]; exact h⟩
theorem d_neI (h : Q (.bl (!decide (i = j))) H) : rNe (.int i) (.int j) H Q := ⟨rfl, by
  have e : decide (V.int i = V.int j) = decide (i = j) := by rw [dec_int, Bool.eq_iff_iff]; simp
  rw [e]; exact h⟩
theorem d_eqB {i j : Bool} (h : Q (.bl (decide (i = j))) H) : rEq (.bl i) (.bl j) H Q := ⟨rfl, by
  have e : decide (V.bl i = V.bl j) = decide (i = j) := by rw [dec_bl, Bool.eq_iff_iff]; simp
  rw [e]; exact h⟩
theorem d_eqS {i j : Str} (h : Q (.bl (decide (i = j))) H) : rEq (.str i) (.str j) H Q := ⟨rfl, by
  have e : decide (V.str i = V.str j) = decide (i = j) := by rw [dec_str, Bool.eq_iff_iff]; simp
  rw [e]; exact h⟩
theorem d_neS {i j : Str} (h : Q (.bl (!decide (i = j))) H) : rNe (.str i) (.str j) H Q := ⟨rfl, by
  have e : decide (V.str i = V.str j) = decide (i = j) := by rw [dec_str, Bool.eq_iff_iff]; simp
  rw [e]; exact h⟩
theorem d_ixL {p : Addr} {xs : List V} {v : V} (hs : SqL K H p xs) (e : atI xs i = some v) (h : Q v H) : rIxL K (.ref p) (.int i) H Q := ⟨p, xs, i, v, rfl, rfl, hs, e, h⟩
theorem d_ixT {p : Addr} {xs : List V} {v : V} (hs : SqT K H p xs) (e : atI xs i = some v) (h : Q v H) : rIxT K (.ref p) (.int i) H Q := ⟨p, xs, i, v, rfl, rfl, hs, e, h⟩
theorem d_setL {p : Addr} {xs : List V} {k : Nat} {R : Hp → Prop} (hp : H p = some (.lst xs)) (e : ixN xs.length i = some k) (h : R (upd H p (.lst (xs.set k v)))) : rSetL (.ref p) (.int i) v H R := ⟨p, xs, i, k, rfl, rfl, hp, e, h⟩
theorem d_gname {R : St → Hp → Prop} (h : R (σ.set n (some v)) H) : gName n v σ H R := h
theorem d_gsub {to ti : TE} {ts : TSet} {R : St → Hp → Prop} (h : to σ H fun o H1 => ti σ H1 fun i H2 => ts o i v H2 fun H3 => R σ H3) : gSub to ti ts v σ H R := h
section
variable {nx bk ct : St → Hp → Prop} {rt : VK} {u w : TS} {g : TG}
theorem d_seq (h : u ⟨w ⟨nx, rt, bk, ct⟩, rt, bk, ct⟩ σ H) : tSeq u w ⟨nx, rt, bk, ct⟩ σ H := h
theorem d_asg (h : te σ H fun x H1 => g x σ H1 nx) : tAsg te g ⟨nx, rt, bk, ct⟩ σ H := h
theorem d_ret (h : te σ H rt) : tRet te ⟨nx, rt, bk, ct⟩ σ H := h
theorem d_next (h : nx σ H) : tNext ⟨nx, rt, bk, ct⟩ σ H := h
theorem d_drop (h : te σ H fun _ H1 => nx σ H1) : tDrop te ⟨nx, rt, bk, ct⟩ σ H := h
theorem d_ifS (h : tA σ H fun b H1 => if b = true then u ⟨nx, rt, bk, ct⟩ σ H1 else w ⟨nx, rt, bk, ct⟩ σ H1) : tIfS tA u w ⟨nx, rt, bk, ct⟩ σ H := h
theorem d_cut (Mid : St → Hp → Prop) (h : u ⟨Mid, rt, bk, ct⟩ σ H) (k : ∀ σ' H', Mid σ' H' → w ⟨nx, rt, bk, ct⟩ σ' H') : C8.tCut u w ⟨nx, rt, bk, ct⟩ σ H := ⟨Mid, h, k⟩
theorem d_par {t : TA} {i j : Nat} (h : t σ H fun vs H1 => ∃ v w, vs = [v, w] ∧ nx ((σ.set i (some v)).set j (some w)) H1) : tPar i j t ⟨nx, rt, bk, ct⟩ σ H := h
end
def rInt1 : List V → Hp → VK → Prop := fun xs H Q => (∃ i, xs = [.int i] ∧ Q (.int i) H) ∨ ∃ k, xs = [.bl k] ∧ Q (.int (if k then 1 else 0)) H
theorem c_int {X : Cx} : CallR X (.type "int") rInt1 := call_int1
theorem d_int (h : Q (.int i) H) : rInt1 [.int i] H Q := .inl ⟨i, rfl, h⟩
theorem d_intB {b : Bool} (h : Q (.int (if b then 1 else 0)) H) : rInt1 [.bl b] H Q := .inr ⟨b, rfl, h⟩
def rAbs : List V → Hp → VK → Prop := fun xs H Q => ∃ i, xs = [.int i] ∧ Q (.int (if i < 0 then -i else i)) H
theorem c_abs {X : Cx} : CallR X (.builtin "abs") rAbs := call_abs
theorem d_abs (h : Q (.int (if i < 0 then -i else i)) H) : rAbs [.int i] H Q := ⟨i, rfl, h⟩
def rLen (K : PySem.W.Frag) : List V → Hp → VK → Prop := fun xs H Q => ∃ x n, xs = [x] ∧ LenV K x H n ∧ Q (.int n) H
theorem c_len {X : Cx} : CallR X (.builtin "len") (rLen X.K) := call_len
theorem d_lenL {p : Addr} {xs : List V} (hs : SqL K H p xs) (h : Q (.int xs.length) H) : rLen K [.ref p] H Q := ⟨_, _, rfl, .inl ⟨xs, hs, rfl⟩, h⟩
theorem d_lenT {p : Addr} {xs : List V} (hs : SqT K H p xs) (h : Q (.int xs.length) H) : rLen K [.ref p] H Q := ⟨_, _, rfl, .inr ⟨xs, hs, rfl⟩, h⟩
theorem d_lenS {z : Str} (hs : z.length ≤ sizeLine) (h : Q (.int z.length) H) : rLen K [.str z] H Q := ⟨_, _, rfl, ⟨hs, rfl⟩, h⟩
def rIsN : R2 := fun x y H Q => y = .non ∧ Q (.bl (decide (x = .non))) H
theorem o_isN {X : Cx} : OpR X (compareOp .Is) rIsN := op_isN
theorem d_isN (h : Q (.bl (decide (x = .non))) H) : rIsN x .non H Q := ⟨rfl, h⟩
def rNotN : R2 := fun x y H Q => y = .non ∧ Q (.bl (!decide (x = .non))) H
theorem o_notN {X : Cx} : OpR X (compareOp .IsNot) rNotN := op_notN
theorem d_notN (h : Q (.bl (!decide (x = .non))) H) : rNotN x .non H Q := ⟨rfl, h⟩
theorem d_iList {tl : TE} {R : It → Hp → Prop} (h : tl σ H fun x H1 => ∃ a, x = .ref a ∧ (∃ xs, SqL K H1 a xs) ∧ R (Itl K a) H1) : iList K tl σ H R := h
theorem d_refL {p : Addr} {xs : List V} {R : Addr → Prop} (hs : SqL K H p xs) (h : R p) : ∃ a, V.ref p = .ref a ∧ (∃ xs, SqL K H a xs) ∧ R a := ⟨p, rfl, ⟨xs, hs⟩, h⟩
theorem d_rng1 {t : TA} {R : It → Hp → Prop} (h : t σ H fun vs H1 => ∃ j : Int, vs = [.int j] ∧ -(2 ^ 62) ≤ j ∧ j < 2 ^ 62 ∧ R (Itr 0 j.toNat) H1) : iRng1 t σ H R := h
theorem d_lc {wi : TI} {g : TG} {tt : TT} {vs : List Nat} (h : wi σ H fun J H1 => ∀ D, H1 D = none → ∃ W : Nat → Nat → Hp → Prop, (∃ m, W 0 m (upd H1 D (.lst []))) ∧ ∀ i m H, W i m H →
  (J.stop i H ∧ Q (.ref D) H) ∨ (J.go i H ∧ ∃ Nx : Hp → Prop, (∀ H', Nx H' → ∃ m', m' < m ∧ W (i + 1) m' H') ∧ ∀ x H', J.yld i H x H' → g x (wipe σ vs) H' fun σ2 H2 => wipe σ2 vs = wipe σ vs ∧ tt σ2 H2 fun b H3 =>
    if b = true then te σ2 H3 fun y H4 => ∃ acc, H4 D = some (.lst acc) ∧ acc.length < sizeLine ∧ Nx (upd H4 D (.lst (acc ++ [y]))) else Nx H3)) : tLc wi g tt te vs σ H Q := h
theorem d_yes (h : B true H) : tYes σ H B := h
theorem d_iteT {X Y : Prop} (h : X) : if true = true then X else Y := by rw [if_pos rfl]; exact h
theorem d_iteF {X Y : Prop} (h : Y) : if false = true then X else Y := by rw [if_neg Bool.false_ne_true]; exact h
theorem d_wipe {R : Prop} {vs : List Nat} {σ' : St} (e : wipe σ' vs = wipe σ vs) (h : R) : wipe σ' vs = wipe σ vs ∧ R := ⟨e, h⟩
theorem d_sl {r : V → Option Int → Option Int → Hp → VK → Prop} {tl th : TO} (h : te σ H fun x H1 => tl σ H1 fun l H2 => th σ H2 fun u H3 => r x l u H3 Q) : tSl r te tl th σ H Q := h
theorem d_noPart {Q : Option Int → Hp → Prop} (h : Q none H) : tNoPart σ H Q := h
theorem d_part {Q : Option Int → Hp → Prop} (h : te σ H fun x H1 => ∃ i, x = .int i ∧ Q (some i) H1) : tPart te σ H Q := h
theorem d_exI {R : Int → Prop} (h : R i) : ∃ k, V.int i = .int k ∧ R k := ⟨i, rfl, h⟩
theorem d_isi {c : V} {t u : Value} {b : Bool} (hc : ClsV c u) (ty : TyX K H x t) (e : PySem.W.kitOne K t u = some b) (h : Q (.bl b) H) : rIsi K [x, c] H Q := ⟨x, c, t, u, b, rfl, hc, ty, e, h⟩
theorem d_fld {f : Str} (h : ta σ H fun x H1 => ∃ a C dx fs v, x = .ref a ∧ H1 a = some (.ins C dx fs) ∧ Cls K C ∧ NoAttr K C f ∧ fs.lookup f = some v ∧ Q v H1) : tFld K ta f σ H Q := h
theorem d_iteNF {X Y : Prop} (h : X) : if (!false) = true then X else Y := by rw [if_pos (show (!false) = true from rfl)]; exact h
theorem d_iteNT {X Y : Prop} (h : Y) : if (!true) = true then X else Y := by rw [if_neg (by decide)]; exact h
theorem d_iteDT {P X Y : Prop} {inst : Decidable P} (c : P) (h : X) : if decide P = true then X else Y := by rw [if_pos (decide_eq_true c)]; exact h
theorem d_iteDF {P X Y : Prop} {inst : Decidable P} (c : ¬ P) (h : Y) : if decide P = true then X else Y := by rw [if_neg (by simpa using c)]; exact h
theorem d_gcd (h : Q (.int ((Nat.gcd i.natAbs j.natAbs : Nat) : Int)) H) : rGcd [.int i, .int j] H Q := ⟨i, j, rfl, h⟩
theorem d_sfld {f : Str} {tv : TE} {nx bk ct : St → Hp → Prop} {rt : VK} (h : tv σ H fun y H1 => ta σ H1 fun x H2 => ∃ a C dx fs, x = .ref a ∧ H2 a = some (.ins C dx fs) ∧ Cls K C ∧ NoAttr K C f ∧ fs.length < 1000 ∧
  nx σ (upd H2 a (.ins C dx (putF f y fs)))) : sFld K ta tv f ⟨nx, rt, bk, ct⟩ σ H := h
theorem d_for {wi : TI} {g : TG} {tb : TS} {nx bk ct : St → Hp → Prop} {rt : VK} (h : wi σ H fun J H1 => ∃ W : Nat → Nat → St → Hp → Prop, (∃ m, W 0 m σ H1) ∧ ∀ i m σ H, W i m σ H →
  (J.stop i H ∧ nx σ H) ∨ (J.go i H ∧ ∃ N : St → Hp → Prop, (∀ σ' H', N σ' H' → ∃ m', m' < m ∧ W (i + 1) m' σ' H') ∧ ∀ x H', J.yld i H x H' → g x σ H' fun σ2 H2 => tb ⟨N, rt, nx, N⟩ σ2 H2)) :
  tFor wi g tb ⟨nx, rt, bk, ct⟩ σ H := h
theorem f_range {lo : Int} {n : Nat} {g : TG} {tb : TS} {nx : St → Hp → Prop} {rt : VK} (Pv : Nat → St → Hp → Prop) (h0 : Pv 0 σ H)
    (hs : ∀ i σ H, i < n → Pv i σ H → g (.int (lo + i)) σ H fun σ2 H2 => tb ⟨Pv (i + 1), rt, nx, Pv (i + 1)⟩ σ2 H2) (hd : ∀ σ H, Pv n σ H → nx σ H) :
    ∃ W : Nat → Nat → St → Hp → Prop, (∃ m, W 0 m σ H) ∧ ∀ i m σ H, W i m σ H → ((Itr lo n).stop i H ∧ nx σ H) ∨ ((Itr lo n).go i H ∧ ∃ N : St → Hp → Prop, (∀ σ' H', N σ' H' → ∃ m', m' < m ∧ W (i + 1) m' σ' H') ∧
      ∀ x H', (Itr lo n).yld i H x H' → g x σ H' fun σ2 H2 => tb ⟨N, rt, nx, N⟩ σ2 H2) := for_range (D := ⟨nx, rt, fun _ _ => False, fun _ _ => False⟩) Pv h0 hs hd
theorem f_list {K : PySem.W.Frag} {a : Addr} {xs : List V} {g : TG} {tb : TS} {nx : St → Hp → Prop} {rt : VK} (Pv : Nat → St → Hp → Prop) (h0 : Pv 0 σ H) (hl : ∀ i σ H, i ≤ xs.length → Pv i σ H → SqL K H a xs)
    (hs : ∀ i x σ H, xs[i]? = some x → Pv i σ H → g x σ H fun σ2 H2 => tb ⟨Pv (i + 1), rt, nx, Pv (i + 1)⟩ σ2 H2) (hd : ∀ σ H, Pv xs.length σ H → nx σ H) :
    ∃ W : Nat → Nat → St → Hp → Prop, (∃ m, W 0 m σ H) ∧ ∀ i m σ H, W i m σ H → ((Itl K a).stop i H ∧ nx σ H) ∨ ((Itl K a).go i H ∧ ∃ N : St → Hp → Prop, (∀ σ' H', N σ' H' → ∃ m', m' < m ∧ W (i + 1) m' σ' H') ∧
      ∀ x H', (Itl K a).yld i H x H' → g x σ H' fun σ2 H2 => tb ⟨N, rt, nx, N⟩ σ2 H2) := for_list (D := ⟨nx, rt, fun _ _ => False, fun _ _ => False⟩) Pv h0 hl hs hd
theorem iteD {P X Y : Prop} {inst : Decidable P} (h1 : P → X) (h2 : ¬ P → Y) : if decide P = true then X else Y := by
  by_cases h : P
  · rw [if_pos (decide_eq_true h)]; exact h1 h
  · rw [if_neg (by simpa using h)]; exact h2 h
theorem iteN {P X Y : Prop} {inst : Decidable P} (h1 : ¬ P → X) (h2 : P → Y) : if (!decide P) = true then X else Y := by
  by_cases h : P
  · rw [if_neg (by simpa using h)]; exact h2 h
  · rw [if_pos (by simpa using h)]; exact h1 h
end
end RD

/-! ### own == and != of a class of the text -/
namespace OQ
open PySem L2 PySem.Spec PyProof.Rows
section
variable {X : Cx} {CX : CXT} {C f : Addr} {fd : FuncData} {ps : List Str} {sp : Sp} {E : XK} {k : Nat}
/-- a def of the text called somewhere below the body that runs -/
theorem run_at {A : Around} (hA : A.frames = X.A.frames) (hr : Room k A) {pins : List (Addr × Obj)} {σ : L2.St} {H : Hp} {s : Shared} {Q : VK} {us : List Value} {vs : List V}
    (F : FnOk X.prog X.w X.K X.mg X.base CX k f fd ps sp) (hb : Binds X.K fd ps []) (hx : Passes CX X E) (I : Inv X pins σ H s) (r : Vals vs us) (h : sp vs H Q E) :
    wpAny (model X.prog X.w) A (call (.ref f) us) (EP X pins σ Q) X.xe s := by
  have z := I.env0
  have e0 : Env0 X.prog X.w X.K X.mg X.base A X.stack s H := ⟨hA ▸ z.frames, z.mod, z.bs, z.bsz, z.funs, z.frf, z.hok, z.bare⟩
  have hl : us.length = ps.length := by rw [← r.length]; exact F.len _ _ _ _ h
  have b := hb s us I.kIn (by rw [List.append_nil]; exact hl)
  rw [List.append_nil] at b
  refine wpAny_call (codeAny_mono (F.run A X.stack s H ⟨us, []⟩ us vs Q E hr e0 b r h) ?_)
  rintro (e | fl) s' hq
  · exact hx pins σ H s e s' I hq
  · cases fl with
    | ret u => exact I.after hq
    | next => exact hq.elim
    | brk => exact hq.elim
    | cont => exact hq.elim
theorem cmpBack_of {pins : List (Addr × Obj)} {σ : L2.St} {Q : VK} {u : Value} {s' : Shared} (h : EP X pins σ Q u s') : PySem.W.CmpBack (EP X pins σ Q) u s' := by
  obtain ⟨v, H', I', r, q⟩ := h
  have e : EP X pins σ Q u s' := ⟨v, H', I', r, q⟩
  cases u <;> first
    | exact e
    | (exfalso; cases v <;> first | exact Value.noConfusion r | (obtain ⟨t, rt⟩ := r; exact Value.noConfusion rt))
/-- x == y by the __eq__ of x's class -/
def rOwnEq (K : PySem.W.Frag) (C : Addr) (sp : Sp) (E : XK) : R2 := fun x y H Q => ∃ a dx fs t, x = .ref a ∧ H a = some (.ins C dx fs) ∧ TyX K H y t ∧ PySem.W.notFirst K C t = true ∧ sp [x, y] H Q E
theorem op_ownEq (F : FnOk X.prog X.w X.K X.mg X.base CX k f fd ps sp) (hr : Room k X.A) (hs : PySem.W.findIn X.K (.ref C) "__eq__" = some (some (.ref f))) (hf : PySem.W.isFn X.K (.ref f) = true)
    (hb : Binds X.K fd ps []) (hx : Passes CX X E) : OpR X (compareOp .Eq) (rOwnEq X.K C sp E) := by
  intro pins s σ H x y v u Q I rx ry hq
  obtain ⟨a, dx, fs, t, rfl, ha, ty, nf, q⟩ := hq
  cases rx
  obtain ⟨_, J0, _⟩ := ins_get I.hok ha
  obtain ⟨_, J, _⟩ := J0.look
  obtain ⟨_, hF⟩ := I.fr
  obtain ⟨_, kx, hp, _⟩ := kit_of I ry ty
  exact PySem.W.cmp_K (op := .Eq) hr.units0 hF I.ok.mod.kin J (kx.ty _ _ I.kIn hp) nf hs hf
    (wpAny_mono (run_at rfl hr F hb hx I (vs := [V.ref a, y]) (us := [Value.ref a, u]) (Paired.cons (show RelV (V.ref a) (Value.ref a) from rfl) (Paired.cons ry .nil)) q) (fun _ _ z => cmpBack_of z) fun _ _ z => z)
/-- looking a builtin slot up at an instance and calling it -/
theorem ifBound_B {M : Model} {A : Around} {E : Value → Shared → Prop} {s : Shared} {K : PySem.W.Frag} {x C : Addr} {ox : Obj} {od : Option Obj} {name : Str} {id : String} {args : List Value} {Q : Option Value → Shared → Prop} (Z : K.In s.heap)
    (I : PySem.W.InstAt s.heap x ox C od) (hs : PySem.W.findIn K (.ref C) name = some (some (.builtin id))) (S : bindSpecial (.builtin id) (.ref x) = pure (Value.builtin id, [Value.ref x]))
    (h : wpAny M A (call (.builtin id) (.ref x :: args)) (fun v => Q (some v)) E s) : wpAny M A (callSpecialIfBound? (.ref x) name args) Q E s := by
  have fin : wpAny M A (call (.builtin id) ([Value.ref x] ++ args) >>= fun v => pure (some v)) Q E s :=
    wpAny_bind (wpAny_mono h (fun _ _ z => wpAny_pure z) fun _ _ z => z)
  have tail : wpAny M A (some <$> (pure (Value.builtin id, [Value.ref x]) : Sem (Value × List Value))) (fun a s' => wpAny M A (match a with
    | some (g, first) => call g (first ++ args) >>= fun v => pure (some v)
    | none => pure none) Q E s') E s := wpAny_bind (wpAny_pure (wpAny_pure fin))
  simp only [callSpecialIfBound?, bindSpecialIfBound?]
  refine wpAny_holding ?_
  refine wpAny_bind ?_
  refine wpAny_bind ?_
  refine wpAny_bind (I.type.here ?_)
  refine (PySem.W.looks_findIn Z hs).here ?_
  simp only [S]
  refine wpAny_bind ?_
  refine wpAny_askSetting ?_
  refine wpAny_ite ?_
  split
  · refine wpAny_bind ?_
    exact wpAny_pure (wpAny_pure fin)
  · refine wpAny_tryCatch ?_
    refine wpAny_bind ?_
    exact wpAny_pure (wpAny_pure fin)
/-- object.__ne__(x, y) by the own __eq__ -/
theorem ne_body {M : Program} {w : World} {A : Around} {E : Value → Shared → Prop} {s : Shared} {K : PySem.W.Frag} {x C f : Addr} {ox : Obj} {od : Option Obj} {b : Value} {Q : Fin → Shared → Prop} (Z : K.In s.heap) (hu : A.units < cLine)
    (I : PySem.W.InstAt s.heap x ox C od) (hs : PySem.W.findIn K (.ref C) "__eq__" = some (some (.ref f))) (hf : PySem.W.isFn K (.ref f) = true)
    (h : wpAny (model M w) A (call (.ref f) [.ref x, b]) (fun v s' => ∃ r, v = .bool r ∧ Q (.done (.ret (.bool (!r)))) s') E s) :
    wpAny (model M w) A (Builtin.«object.__ne__» ⟨[.ref x, b], []⟩) Q E s := by
  unfold Builtin.«object.__ne__»
  have step : wpAny (model M w) A (callSpecialIfBound? (.ref x) "__eq__" [b]) (fun o s' => ∃ r, o = some (.bool r) ∧ Q (.done (.ret (.bool (!r)))) s') E s :=
    PySem.W.ifBound_K Z I hs hf (wpAny_mono h (fun v s' ⟨r, e, q⟩ => ⟨r, by rw [e], q⟩) fun _ _ z => z)
  refine wpAny_bind (wpAny_of_eq (a := ((Value.ref x : Value), [b])) (by first | rfl | (simp only [slotArgs]; rfl)) ?_)
  dsimp only
  refine wpAny_bind (wpAny_cRoomFor hu ?_)
  refine wpAny_bind (wpAny_mono step (fun o s' hv => ?_) fun _ _ z => z)
  obtain ⟨r, rfl, q⟩ := hv
  dsimp only
  refine wpAny_bind ?_
  refine wpAny_truthy_bool ?_
  exact wpAny_pure q
end
/-- x != y by the __eq__ of x's class -/
def rOwnNe (K : PySem.W.Frag) (C : Addr) (sp : Sp) (E : XK) : R2 := fun x y H Q => ∃ a dx fs t, x = .ref a ∧ H a = some (.ins C dx fs) ∧ TyX K H y t ∧ PySem.W.notFirst K C t = true ∧ sp [x, y] H (fun v H' => ∃ r, v = .bl r ∧ Q (.bl (!r)) H') E
section
variable {X : Cx} {CX : CXT} {C f : Addr} {fd : FuncData} {ps : List Str} {sp : Sp} {E : XK} {k : Nat}
theorem op_ownNe (F : FnOk X.prog X.w X.K X.mg X.base CX k f fd ps sp) (hr : Room (k + 1) X.A) (hs : PySem.W.findIn X.K (.ref C) "__eq__" = some (some (.ref f))) (hf : PySem.W.isFn X.K (.ref f) = true)
    (hn : PySem.W.findIn X.K (.ref C) "__ne__" = some (some (.builtin "object.__ne__"))) (hm : PySem.W.mroIn X.K C (.type "object") = some true)
    (hb : Binds X.K fd ps []) (hx : Passes CX X E) : OpR X (compareOp .NotEq) (rOwnNe X.K C sp E) := by
  intro pins s σ H x y v u Q I rx ry hq
  obtain ⟨a, dx, fs, t, rfl, ha, ty, nf, q⟩ := hq
  cases rx
  obtain ⟨_, J0, _⟩ := ins_get I.hok ha
  obtain ⟨_, J, _⟩ := J0.look
  obtain ⟨_, hF⟩ := I.fr
  obtain ⟨_, kx, hp, _⟩ := kit_of I ry ty
  have hlook := kx.ty (model X.prog X.w) _ I.kIn hp
  have hu := hr.units0
  have body := ne_body (M := X.prog) (w := X.w) (A := X.A.in1) (E := X.xe) (b := u) (Q := fun fin s' => ∃ r : Bool, fin = .done (.ret (.bool r)) ∧ EP X pins σ Q (.bool r) s') I.kIn hr.in1.units0 J hs hf
    (wpAny_mono (run_at (A := X.A.in1) rfl hr.in1 F hb hx I (vs := [V.ref a, y]) (us := [Value.ref a, u]) (Paired.cons (show RelV (V.ref a) (Value.ref a) from rfl) (Paired.cons ry .nil)) q) (fun w' s' z => by
      obtain ⟨v', H', I', rr, r, e, q'⟩ := z
      subst e
      exact ⟨r, rr, !r, rfl, .bl (!r), H', I', rfl, q'⟩) fun _ _ z => z)
  have one : wpAny (model X.prog X.w) X.A (tryCompare (.ref a) "__ne__" u) (fun o s' => ∃ r : Bool, o = some (.bool r) ∧ EP X pins σ Q (.bool r) s') X.xe s := by
    unfold tryCompare
    refine wpAny_bind (ifBound_B I.kIn J hn (PySem.F.cmp_object.ne.bind _) (wpAny_call (codeAny_call_builtin PySem.F.cmp_object.ne.plain PySem.F.cmpEntry_ne ?_)))
    refine PySem.W.check_slot PySem.F.cmpKind_ne PySem.F.cmpSplit_ne (J.type.andThen (PySem.W.looks_mroIn I.kIn hm)) (PySem.F.cmpArgs_ne _ _) ?_
    refine wpAny_mono body (fun fin s' z => ?_) fun _ _ z => z
    obtain ⟨r, rfl, ep⟩ := z
    exact wpAny_pure ⟨r, rfl, ep⟩
  show wpAny (model X.prog X.w) X.A (richCompare .NotEq (.ref a) u) (EP X pins σ Q) X.xe s
  unfold richCompare
  simp only [oneThing_ref]
  refine wpAny_holding ?_
  refine wpAny_bind (wpAny_cRoomFor hu ?_)
  refine wpAny_bind (J.type.here ?_)
  refine wpAny_bind (hlook.here ?_)
  have fin : ∀ {β : Type} {z : Value → Sem Value} {y : Sem Value}, True := fun {_ _ _} => trivial
  split
  · rename_i qq
    have e : PySem.W.subIn X.K t (.ref C) = some false := by
      rcases Bool.or_eq_true_iff.mp nf with e | e
      · rw [beq_iff_eq.mp e] at qq
        simp at qq
      · exact beq_iff_eq.mp e
    refine wpAny_bind ((PySem.W.looks_subIn I.kIn e).here ?_)
    simp only [Bool.false_eq_true, if_false]
    refine wpAny_bind (wpAny_mono one (fun o s' z => ?_) fun _ _ z => z)
    obtain ⟨r, rfl, ep⟩ := z
    exact wpAny_pure ep
  · refine wpAny_bind (wpAny_pure ?_)
    simp only [Bool.false_eq_true, if_false]
    refine wpAny_bind (wpAny_mono one (fun o s' z => ?_) fun _ _ z => z)
    obtain ⟨r, rfl, ep⟩ := z
    exact wpAny_pure ep
end
end OQ

/-! ### errors: isinstance of a caught one that has fields; making an instance within a try -/
namespace OQ
open PySem L2 PySem.Spec PyProof.Rows
/-- isinstance(e, c), e the error that the suite holds at a: its class cls, its dict d -/
def rIsX (K : PySem.W.Frag) (D a : Addr) (cls : Value) (d : Option Addr) : List V → Hp → VK → Prop := fun xs H Q => ∃ (c : V) (cv : Value) (b : Bool) (dd : Addr) (fs : List (Str × V)),
  xs = [.ref a, c] ∧ cls = .ref D ∧ d = some dd ∧ H dd = some (.xd fs) ∧ ClsV c cv ∧ PySem.W.kitOne K (.ref D) cv = some b ∧ Q (.bl b) H
theorem call_isX {X : Cx} {a D : Addr} {cls : Value} {d : Option Addr} {oe : Obj} {pn : List (Addr × Obj)} (C : ExcC X.K D) (hz : Zc cls d oe) (hf : ∃ vs, oe.data = .fields vs) :
    CallR (X.suite a ((a, oe) :: pn)) (.builtin "isinstance") (rIsX X.K D a cls d) := by
  rintro pins s σ H xs us Q I r ⟨c, cv, b, dd, fs, rfl, rfl, rfl, hx, hc, e, q⟩
  cases r with
  | cons rx rr => cases rr with
    | cons rt rr =>
      cases rr
      cases rx
      have ec := hc.eq rt
      subst ec
      obtain ⟨hget, _⟩ := I.pin (a, oe) (List.mem_append_left _ (List.mem_cons_self ..))
      obtain ⟨vs, hv⟩ := hf
      obtain ⟨_, hns, _⟩ := (show ObjOk X.prog X.w H s.heap dd (.xd fs) from I.hok dd _ hx)
      obtain ⟨od, ho, _⟩ := lookIn_ns hns
      have J : PySem.W.InstAt s.heap a oe D (some od) := ⟨hget, hz.1, (by unfold PySem.W.notCls; rw [hv] <;> rfl), (by rw [hz.2]; exact ho)⟩
      have hcl : (PySem.W.clsIn X.K D).isSome = true := by
        obtain ⟨cd, h1, _⟩ := PySem.W.any_some C.hd
        rw [h1]; rfl
      exact PySem.W.kia_one (PySem.W.kitx_exc hcl C.hg C.hk C.hs C.ha C.hn C.ht C.hm) I.kIn J e (fun z => Value.noConfusion z) fun tk => ⟨.bl b, H, I.kept (t' := tk) fun _ _ z => z, rfl, q⟩
section
variable {X : Cx} {CX : CXT} {C f : Addr} {fd : FuncData} {ps : List Str} {sp : Sp} {k : Nat} {ds : List Value} {dvs : List V} {E : L2.St → XK} {x : Str} {p pos : Pos} {e : Expr} {es : List Expr} {t : TA}
/-- C(e, ..), what is raised wished for at the slots -/
def tMakeS (C : Addr) (sp : Sp) (dvs : List V) (E : L2.St → XK) (t : TA) : TE := fun σ H Q => t σ H fun vs H1 => ∀ x dx, H1 x = none → H1 dx = none → dx ≠ x →
  sp (.ref x :: (vs ++ dvs)) (upd (upd H1 dx (.own x)) x (.ins C dx [])) (fun v H2 => v = .non ∧ Q (.ref x) H2) (E σ)
theorem pe_makeS (M : Mk X.K C f) (F : FnOk X.prog X.w X.K X.mg X.base CX k f fd ps sp) (hr : Room (k + 1) X.A) (hg : Gl X x) (hm : X.mg x = some (.ref C)) (hb : Binds X.K fd ps ds) (hd : Vals dvs ds)
    (hx : ∀ σ, PassesAt CX X σ (E σ)) (ha : PA X (e :: es) t) (hdb : (x == ("__debug__" : Str)) = false := by decide)
    (he : starEach (e :: es) X.env = (false, eval e X.env) :: starEach es X.env := by rfl) (hpl : (backTo pos (starEach es X.env)).any (·.1) = false := by rfl) :
    PE X (.Call (.Name x p) (e :: es) [] pos) (tMakeS C sp dvs E t) := by
  refine ⟨fun pins s σ H Q I h => ?_⟩
  refine wpAny_Call_Name_kw (ld_glob I hg hm ?_ hdb)
  refine PySem.W.callWith_K (h₀ := X.base) I.ok.mod.kin M.kp (thn (ha.run pos pins s σ H _ I h) ?_) he hpl
  rintro us s1 ⟨vs, H1, I1, r, q⟩
  refine ⟨I1.kIn, ?_⟩
  have nx : H1 (s1.heap.objs.size + 1) = none := I1.hok.fresh (Nat.le_succ _)
  have ndx : H1 s1.heap.objs.size = none := I1.hok.fresh (Nat.le_refl _)
  have hq := q _ _ nx ndx (Nat.ne_of_lt (Nat.lt_succ_self _))
  have I2 := Inv.made (C := C) I1
  have r2 : Vals (V.ref (s1.heap.objs.size + 1) :: (vs ++ dvs)) (Value.ref (s1.heap.objs.size + 1) :: (us ++ ds)) := .cons rfl (r.append hd)
  have hl : (Value.ref (s1.heap.objs.size + 1) :: us ++ ds).length = ps.length := (r2.length.symm).trans (F.len _ _ _ _ hq)
  refine wpAny_call (make_map (f := f) I1.kIn M.makes M.init (beq_iff_eq.mp M.fn) (codeAny_mono (F.run _ X.stack _ _ _ _ _ _ (E σ) (hr.make C us []) (I2.env0.make C us []) (hb _ (_ :: us) I2.kIn hl) r2 hq) ?_))
  rintro (er | fl) s' hq'
  · exact hx σ pins _ _ er s' I2 hq'
  · cases fl with
    | ret u =>
      obtain ⟨v, H', I3, rv, ev, q3⟩ := I2.after hq'
      subst ev
      exact ⟨rv, V.ref (s1.heap.objs.size + 1), H', I3, rfl, q3⟩
    | next => exact hq'.elim
    | brk => exact hq'.elim
    | cont => exact hq'.elim
end
/-- // by a divisor of either sign, below 2 ^ 9000 -/
def CDivX (_ j : Int) : Prop := j ≠ 0 ∧ j.natAbs.log2 < 9000
theorem op_fdivX {X : Cx} : OpR X (binaryOp .FloorDiv) (rI CDivX fun i j => .int (i.fdiv j)) := opI fun i j _ _ _ _ _ hc q => floordiv_int hc.1 q (.inl (PyProof.noPylong_of_log2 hc.2))
end OQ

namespace OQ
open PySem L2
/-- one of two rules -/
theorem op_or {X : Cx} {f : Value → Value → Sem Value} {r1 r2 : R2} (h1 : OpR X f r1) (h2 : OpR X f r2) : OpR X f (fun x y H Q => r1 x y H Q ∨ r2 x y H Q) :=
  fun pins s σ H x y v u Q I rx ry h => h.elim (h1 pins s σ H x y v u Q I rx ry) (h2 pins s σ H x y v u Q I rx ry)
/-- what lets nothing out where the wish is empty -/
theorem passN {X : Cx} : Passes (L2.CX X.prog X.w) X E0 := fun pins σ H s e s' I h => by
  obtain ⟨_, _, _, _, _, _, _, _, _, _, _, _, f⟩ := h
  exact f.elim
section
variable {σ : L2.St} {H : Hp} {Q : VK} {K : PySem.W.Frag}
theorem d_makeS {C : Addr} {sp : Sp} {dvs : List V} {E : L2.St → XK} {t : TA} (h : t σ H fun vs H1 => ∀ x dx, H1 x = none → H1 dx = none → dx ≠ x →
  sp (.ref x :: (vs ++ dvs)) (upd (upd H1 dx (.own x)) x (.ins C dx [])) (fun v H2 => v = .non ∧ Q (.ref x) H2) (E σ)) : tMakeS C sp dvs E t σ H Q := h
theorem d_make {C : Addr} {sp : Sp} {dvs : List V} {E : XK} {t : TA} (h : t σ H fun vs H1 => ∀ x dx, H1 x = none → H1 dx = none → dx ≠ x →
  sp (.ref x :: (vs ++ dvs)) (upd (upd H1 dx (.own x)) x (.ins C dx [])) (fun v H2 => v = .non ∧ Q (.ref x) H2) E) : tMake C sp dvs E t σ H Q := h
end
end OQ
namespace OQ
open PySem L2
theorem d_isX {K : PySem.W.Frag} {D a : Addr} {cls : Value} {d : Option Addr} {H : Hp} {Q : VK} {c : V} {cv : Value} {b : Bool} {dd : Addr} {fs : List (Str × V)} (e1 : cls = .ref D) (e2 : d = some dd) (hx : H dd = some (.xd fs)) (hc : ClsV c cv)
    (e : PySem.W.kitOne K (.ref D) cv = some b) (h : Q (.bl b) H) : rIsX K D a cls d [.ref a, c] H Q := ⟨c, cv, b, dd, fs, rfl, e1, e2, hx, hc, e, h⟩
end OQ

/-! ### readings: chained comparisons -/
namespace RD
open PySem L2
theorem d_chain {r r' : R2} {ta tb tc : TE} {σ : L2.St} {H : Hp} {Q : VK} (h : ta σ H fun x H1 => tb σ H1 fun y H2 => r x y H2 fun z H3 => ∃ k, z = .bl k ∧ (if k = true then tc σ H3 fun u H4 => r' y u H4 Q else Q (.bl false) H3)) : tChain r r' ta tb tc σ H Q := h
variable {σ : L2.St} {H : Hp}
theorem f_tup {K : PySem.W.Frag} {a : Addr} {xs : List V} {g : TG} {tb : TS} {nx : L2.St → Hp → Prop} {rt : VK} (Pv : Nat → L2.St → Hp → Prop) (h0 : Pv 0 σ H) (hl : ∀ i σ H, i ≤ xs.length → Pv i σ H → SqT K H a xs)
    (hs : ∀ i x σ H, xs[i]? = some x → Pv i σ H → g x σ H fun σ2 H2 => tb ⟨Pv (i + 1), rt, nx, Pv (i + 1)⟩ σ2 H2) (hd : ∀ σ H, Pv xs.length σ H → nx σ H) :
    ∃ W : Nat → Nat → L2.St → Hp → Prop, (∃ m, W 0 m σ H) ∧ ∀ i m σ H, W i m σ H → ((Itt K a).stop i H ∧ nx σ H) ∨ ((Itt K a).go i H ∧ ∃ N : L2.St → Hp → Prop, (∀ σ' H', N σ' H' → ∃ m', m' < m ∧ W (i + 1) m' σ' H') ∧
      ∀ x H', (Itt K a).yld i H x H' → g x σ H' fun σ2 H2 => tb ⟨N, rt, nx, N⟩ σ2 H2) := for_tup (D := ⟨nx, rt, fun _ _ => False, fun _ _ => False⟩) Pv h0 hl hs hd
end RD

/-! ### a range as a value, and for over it -/
namespace OQ
open PySem L2 PySem.Spec PyProof.Rows
section
variable {X : Cx} {tg : Expr} {e : Expr} {te : TE}
theorem cr_range1 : CallR X (.type "range") (fun vs H Q => ∃ j : Int, vs = [V.int j] ∧ ∀ p, H p = none → Q (.ref p) (upd H p (.rng 0 j))) := by
  rintro pins s σ H vs us Q I r ⟨j, rfl, wish⟩
  cases r with
  | cons one rest =>
    cases rest
    obtain ⟨tok, rfl⟩ := one
    have free := I.hok.fresh (Nat.le_refl s.heap.objs.size)
    exact call_range_1 ⟨.ref s.heap.objs.size, _, I.laid (t' := s.toks + 1 + 1) (o := .rng 0 j) (fun _ _ z => Heap.get?_push_of_some _ z) (Nat.le_refl _) ⟨s.toks, tok, s.toks + 1, Heap.get?_push_size _ rfl⟩, rfl, wish _ free⟩
/-- for .. in e, e a range from lo to hi -/
def iRngV (te : TE) : TI := fun σ H R => te σ H fun x H1 => ∃ (a : Addr) (lo hi : Int), x = .ref a ∧ H1 a = some (.rng lo hi) ∧ (-(2 ^ 62) ≤ lo ∧ lo < 2 ^ 62 ∧ -(2 ^ 62) ≤ hi ∧ hi < 2 ^ 62) ∧ R (Itr lo (hi - lo).toNat) H1
theorem pi_rngV (he : PE X e te) : PI X tg e (iRngV te) := by
  refine ⟨fun pins s σ H R I asked => thn (he.run pins s σ H _ I asked) fun v s1 ⟨x, H1, I1, rx, a, lo, hi, ex, ea, ⟨b1, b2, b3, b4⟩, go⟩ => ?_⟩
  subst ex
  obtain rfl : v = Value.ref a := rx
  obtain ⟨t, u, w, there⟩ := I1.hok a _ ea
  have isr : IsRange s1.heap a lo hi 1 t u w := there
  have len : (((hi - lo).toNat : Nat) : Int) = Builtin.Range.rangeSize lo hi 1 := by rw [rangeSize_one]; split <;> omega
  refine wpAny_pyIter_range isr (small_one b1 b2 b3 b4) ⟨s1.heap.objs.size, [s1.heap.objs.size], _, _, H1, rfl, I1.kept (t' := s1.toks) fun _ _ z => Heap.get?_push_of_some _ z, turn_range _ lo (hi - lo).toNat, ?_, fun b hb => ?_, go⟩
  · show IsRangeIter _ _ (lo + ((0 : Nat) : Int) * 1) ((((hi - lo).toNat : Nat) : Int) - ((0 : Nat) : Int)) 1
    rw [len]
    simp only [Int.natCast_zero, Int.zero_mul, Int.add_zero, Int.sub_zero]
    exact Heap.get?_push_size _ rfl
  · obtain rfl : b = s1.heap.objs.size := by simpa using hb
    exact I1.fpOk (Nat.le_refl _) (I1.hok.fresh (Nat.le_refl _))
end
end OQ

/-! ### rules whose reading names K itself (for the blocks of comprehensions) -/
namespace OQ
open PySem L2 PySem.Spec PyProof.Rows
section
variable {X : Cx} {e : Expr} {ta : TE} {f : Str} {pos : Pos}
theorem ixL (K : PySem.W.Frag) (h : X.K = K := by rfl) : IxR X (rIxL K) := h ▸ ix_list
theorem ixT (K : PySem.W.Frag) (h : X.K = K := by rfl) : IxR X (rIxT K) := h ▸ ix_tup
theorem fldK (K : PySem.W.Frag) (he : PE X e ta) (h : X.K = K := by rfl) (hb : attributeBase e f X.env (eval e X.env) = eval e X.env := by rfl) : PE X (.Attribute e f pos) (tFld K ta f) := h ▸ pe_fld he hb
def rTupK (K : PySem.W.Frag) : List V → Hp → VK → Prop := fun xs H Q => ∃ p ys, xs = [.ref p] ∧ ((SqL K H p ys ∧ ∀ l, H l = none → Q (.ref l) (upd H l (.tup ys))) ∨ (SqT K H p ys ∧ Q (.ref p) H))
theorem tupK (K : PySem.W.Frag) (h : X.K = K := by rfl) : CallR X (.type "tuple") (rTupK K) := h ▸ call_tuple_of
theorem pi_listK (K : PySem.W.Frag) {tg : Expr} {l : Expr} {tl : TE} (hl : PE X l tl) (h : X.K = K := by rfl) : PI X tg l (iList K tl) := h ▸ pi_list hl
theorem pi_tupK (K : PySem.W.Frag) {tg : Expr} {l : Expr} {tl : TE} (hl : PE X l tl) (h : X.K = K := by rfl) : PI X tg l (iTup K tl) := h ▸ pi_tup hl
end
end OQ

/-! ### own errors as values: made, their fields read, isinstance of them -/
namespace OQ
open PySem L2 PySem.Spec PyProof.Rows
section
variable {X : Cx} {CX : CXT} {x n : Str} {C fI : Addr} {k : Nat} {fd : FuncData} {ps : List Str} {sp : Sp} {ds : List Value} {dvs : List V} {p pos : Pos} {e : Expr} {es : List Expr} {ta : TA} {te : TE} {E : XK}
/-- C(e, ..), C an own error: it stands as it was made -/
def tMkV (C : Addr) (sp : Sp) (dvs : List V) (E : XK) (ta : TA) : TE := fun σ H Q => ta σ H fun vs H1 => ∀ a, H1 a = none → sp (.ref a :: (vs ++ dvs)) (upd H1 a (exo a C none)) (fun v H2 => v = .non ∧ Q (.ref a) H2) E
/-- a new error: its place, and the state with it -/
theorem newErr {pins : List (Addr × Obj)} {st : Shared} {σ : L2.St} {H : Hp} (us : List Value) (D : Addr) (J : Inv X pins σ H st) :
    H (st.heap.objs.size + 1) = none ∧ Inv X pins σ (upd H (st.heap.objs.size + 1) (exo (st.heap.objs.size + 1) D none)) { st with heap := (st.heap.push (PySem.W.kdv_tup us)).push (PySem.HandSPX.excO D st.heap.objs.size) } := by
  have le := Nat.le_succ st.heap.objs.size
  refine ⟨J.hok.fresh le, J.laid (t' := st.toks) (fun _ _ z => Heap.get?_push_of_some _ (Heap.get?_push_of_some _ z)) le (exo_ok (t1 := st.heap.objs.size) ?_)⟩
  have z := Heap.get?_push_size (h := st.heap.push (PySem.W.kdv_tup us)) (o := PySem.HandSPX.excO D st.heap.objs.size) rfl
  have y : (st.heap.push (PySem.W.kdv_tup us)).objs.size = st.heap.objs.size + 1 := by simp [Heap.push]
  rw [y] at z
  exact z
theorem run_mkV {pins : List (Addr × Obj)} {st : Shared} {σ : L2.St} {H1 : Hp} {Q : VK} {vs : List V} {us : List Value} (T : OexC X.K C) (iC : PySem.W.findIn X.K (.ref C) "__init__" = some (some (.ref fI))) (tI : PySem.W.typeIn X.K (.ref fI) = some (.type "function"))
    (F1 : FnOk X.prog X.w X.K X.mg X.base CX k fI fd ps sp) (hr : Room (k + 1) X.A) (hb : Binds X.K fd ps ds) (hd : Vals dvs ds) (hx : Passes CX X E) (few : ps.length ≤ 100) (J : Inv X pins σ H1 st) (rv : Vals vs us)
    (wish : ∀ a, H1 a = none → sp (.ref a :: (vs ++ dvs)) (upd H1 a (exo a C none)) (fun v H2 => v = .non ∧ Q (.ref a) H2) E) : wpAny (model X.prog X.w) X.A (call (.ref C) us) (EP X pins σ Q) X.xe st := by
  obtain ⟨free, J2⟩ := newErr us C J
  have asked := wish _ free
  have all : Vals (V.ref (st.heap.objs.size + 1) :: (vs ++ dvs)) (Value.ref (st.heap.objs.size + 1) :: (us ++ ds)) := .cons rfl (rv.append hd)
  have many : (Value.ref (st.heap.objs.size + 1) :: us ++ ds).length = ps.length := (all.length.symm).trans (F1.len _ _ _ _ asked)
  have short : us.length ≤ sizeLine := by
    have q : (Value.ref (st.heap.objs.size + 1) :: us ++ ds).length ≤ 100 := many ▸ few
    simp only [List.cons_append, List.length_cons, List.length_append] at q
    exact Nat.le_trans (show us.length ≤ 100 by omega) (by decide)
  have body := F1.run _ X.stack _ _ ⟨Value.ref (st.heap.objs.size + 1) :: us, []⟩ _ _ _ E (hr.make C us []) (J2.env0.make C us []) (hb _ (_ :: us) J2.kIn many) all asked
  obtain ⟨_, _, _, _, bm, _, _, _, _, _, _, _, _, _, _, look, good⟩ := T.cls
  refine wpAny_call (PySem.HandSPX.call_own F.excBase_ValueError (fun _ => PySem.HandSPX.refsVE_contains _ bm good) (J.kIn _ _ look) (PySem.W.looks_findIn J.kIn iC) (fun v => PySem.W.bind_fn J.kIn v tI) short (codeAny_mono body ?_))
  rintro (er | fl) s2 post
  · exact hx pins σ _ _ er s2 J2 post
  · match fl, post with
    | .ret u, post =>
      obtain ⟨v, H2, J3, ru, e, q⟩ := J2.after post
      subst e
      exact ⟨ru, V.ref (st.heap.objs.size + 1), H2, J3, rfl, q⟩
theorem pe_mkV (T : OexC X.K C) (iC : PySem.W.findIn X.K (.ref C) "__init__" = some (some (.ref fI))) (tI : PySem.W.typeIn X.K (.ref fI) = some (.type "function"))
    (F1 : FnOk X.prog X.w X.K X.mg X.base CX k fI fd ps sp) (hr : Room (k + 1) X.A) (hb : Binds X.K fd ps ds) (hd : Vals dvs ds) (hx : Passes CX X E) (hsz : ps.length ≤ 100) (hg : Gl X x) (hm : X.mg x = some (.ref C)) (ha : PA X (e :: es) ta)
    (hdb : (x == ("__debug__" : Str)) = false := by decide) (he : starEach (e :: es) X.env = (false, eval e X.env) :: starEach es X.env := by rfl) (hpl : (backTo pos (starEach es X.env)).any (·.1) = false := by rfl) :
    PE X (.Call (.Name x p) (e :: es) [] pos) (tMkV C sp dvs E ta) := by
  refine ⟨fun pins s σ H Q I h => ?_⟩
  refine wpAny_Call_Name_kw (ld_glob I hg hm ?_ hdb)
  refine PySem.W.callWith_K (h₀ := X.base) I.ok.mod.kin T.kC (thn (ha.run pos pins s σ H _ I h) fun us s1 ⟨vs, H1, I1, r1, q1⟩ => ⟨I1.kIn, ?_⟩) he hpl
  exact run_mkV T iC tI F1 hr hb hd hx hsz I1 r1 q1
theorem pe_mkV0 (T : OexC X.K C) (iC : PySem.W.findIn X.K (.ref C) "__init__" = some (some (.ref fI))) (tI : PySem.W.typeIn X.K (.ref fI) = some (.type "function"))
    (F1 : FnOk X.prog X.w X.K X.mg X.base CX k fI fd ps sp) (hr : Room (k + 1) X.A) (hb : Binds X.K fd ps ds) (hd : Vals dvs ds) (hx : Passes CX X E) (hsz : ps.length ≤ 100) (hg : Gl X x) (hm : X.mg x = some (.ref C))
    (hdb : (x == ("__debug__" : Str)) = false := by decide) : PE X (.Call (.Name x p) [] [] pos) (tMkV C sp dvs E tNil) := by
  refine ⟨fun pins s σ H Q I h => ?_⟩
  refine wpAny_Call_Name_kw (ld_glob I hg hm ?_ hdb)
  exact PySem.W.callWith_K0 I.kIn T.kC (run_mkV (us := []) (vs := []) T iC tI F1 hr hb hd hx hsz I .nil h)
/-- an own error at a, with its fields -/
def ErrAt (H : Hp) (a C : Addr) (fs : List (Str × V)) : Prop := ∃ d, H a = some (exo a C (some d)) ∧ H d = some (exd d fs)
theorem errInst {pins : List (Addr × Obj)} {s : Shared} {σ : L2.St} {H : Hp} {a : Addr} {fs : List (Str × V)} (I : Inv X pins σ H s) (h : ErrAt H a C fs) :
    ∃ (oe : Obj) (od : Obj) (mA : Str → Option Value), PySem.W.InstAt s.heap a oe C (some od) ∧ (∀ f, RelO (fs.lookup f) (mA f)) ∧ ∀ n, PySem.W.lookIn n od = some (mA n) := by
  obtain ⟨d, e1, e2⟩ := h
  obtain ⟨t1, ho⟩ := exo_at I.hok e1
  obtain ⟨mA, hns, rel⟩ := exd_at I.hok e2
  obtain ⟨od, hd, hl⟩ := lookIn_ns hns
  exact ⟨_, od, mA, ⟨ho, rfl, rfl, hd⟩, rel, hl⟩
/-- e.f -/
def tVf (K : PySem.W.Frag) (n : Str) (te : TE) : TE := fun σ H Q => te σ H fun x H1 => ∃ (a C : Addr) (fs : List (Str × V)) (v : V), x = .ref a ∧ ErrAt H1 a C fs ∧ XfC K C ∧ PySem.W.findIn K (.ref C) n = some none ∧ fs.lookup n = some v ∧ Q v H1
theorem pe_vf (he : PE X e te) (hb : attributeBase e n X.env (eval e X.env) = eval e X.env := by rfl) : PE X (.Attribute e n pos) (tVf X.K n te) := by
  refine ⟨fun pins s σ H Q I h => ?_⟩
  refine attr_of hb (thn (he.run pins s σ H _ I h) fun u s1 hh => ?_)
  obtain ⟨x, H1, I1, rx, a, D, fs, v, ex, er, T, hno, l, q⟩ := hh
  subst ex
  obtain rfl : u = Value.ref a := rx
  obtain ⟨oe, od, mA, J, hr, hl⟩ := errInst I1 er
  obtain ⟨u, hu, ru⟩ := RelO.some_of (v := v) (o := mA n) (by rw [← l]; exact hr n)
  exact HandSPX.exc_get I1.kIn J T.ga T.gg T.exC (PySem.W.findObj_own T.hdC hno rfl (by rw [hl, hu])) (handed_of ru) ⟨v, H1, I1.tok _, ru, q⟩
/-- isinstance(x, c), x such an error -/
def rIsV (K : PySem.W.Frag) : List V → Hp → VK → Prop := fun xs H Q => ∃ (a D : Addr) (fs : List (Str × V)) (c : V) (cv : Value) (b : Bool), xs = [.ref a, c] ∧ ErrAt H a D fs ∧ ExcC K D ∧ ClsV c cv ∧ PySem.W.kitOne K (.ref D) cv = some b ∧ Q (.bl b) H
theorem call_isV : CallR X (.builtin "isinstance") (rIsV X.K) := by
  rintro pins s σ H xs us Q I r ⟨a, D, fs, c, cv, b, rfl, er, C, hc, e, q⟩
  cases r with
  | cons rx rr => cases rr with
    | cons rt rr =>
      cases rr
      cases rx
      have ec := hc.eq rt
      subst ec
      obtain ⟨oe, od, mA, J, _, _⟩ := errInst I er
      have hcl : (PySem.W.clsIn X.K D).isSome = true := by
        obtain ⟨cd, h1, _⟩ := PySem.W.any_some C.hd
        rw [h1]; rfl
      exact PySem.W.kia_one (PySem.W.kitx_exc hcl C.hg C.hk C.hs C.ha C.hn C.ht C.hm) I.kIn J e (fun z => Value.noConfusion z) fun tk => ⟨.bl b, H, I.kept (t' := tk) fun _ _ z => z, rfl, q⟩
end
end OQ

/-! ### own errors: what is known of their classes -/
namespace OQ
open PySem L2 PySem.Spec PyProof.Rows
structure ErC (K : PySem.W.Frag) (W fI C : Addr) : Prop where
  oex : OexC K C
  ini : PySem.W.findIn K (.ref C) "__init__" = some (some (.ref fI))
  va : PySem.W.findIn K (.ref C) "value" = some none
  xf : XfC K C
  exi : ExcC K C
  mro : ∃ cd, PySem.W.clsIn K C = some cd ∧ cd.mro = [.ref C, .ref W, .type "ValueError", .type "Exception", .type "BaseException", .type "object"]
theorem kit_er {K : PySem.W.Frag} {W f g C D : Addr} (a : ErC K W f C) (b : ErC K W g D) (n : D ≠ W) : PySem.W.kitOne K (.ref C) (.ref D) = some (decide (C = D)) := by
  by_cases h : C = D
  · subst h
    unfold PySem.W.kitOne
    rw [if_pos (by simp), decide_eq_true rfl]
  · have hb : ((Value.ref C : Value) == Value.ref D) = false := Bool.eq_false_iff.mpr fun q => h (by cases beq_iff_eq.mp q; rfl)
    unfold PySem.W.kitOne
    rw [if_neg (by rw [hb]; decide), decide_eq_false h]
    obtain ⟨cd, e1, _⟩ := b.mro
    obtain ⟨cc, e2, e3⟩ := a.mro
    have t : ((PySem.W.clsIn K D).isSome && PySem.W.typeIn K (.ref D) == some (.type "type")) = true := by rw [e1, b.oex.tyC] <;> rfl
    show (if ((PySem.W.clsIn K D).isSome && PySem.W.typeIn K (.ref D) == some (.type "type")) = true then PySem.W.mroIn K C (.ref D) else none) = some false
    rw [if_pos t]
    unfold PySem.W.mroIn
    rw [e2]
    show (if cc.mro.isEmpty = true then none else some (cc.mro.contains (.ref D))) = some false
    rw [e3, if_neg (by simp)]
    congr 1
    refine Bool.eq_false_iff.mpr fun q => ?_
    have m := List.contains_iff_mem.mp q
    simp only [List.mem_cons, List.not_mem_nil, or_false] at m
    rcases m with m | m | m | m | m | m
    · cases m; exact h rfl
    · cases m; exact n rfl
    all_goals cases m
end OQ

/-! ### C.f(..), C an own class of the text: the def itself -/
namespace OQ
open PySem L2 PySem.Spec PyProof.Rows
/-- C.f read off the class: the def at g -/
structure CDef (K : PySem.W.Frag) (C g : Addr) (n : Str) : Prop where
  rd : PySem.W.readsIn K C (.type "type") = true
  ga : PySem.W.specialIn K (.ref C) "__getattribute__" = some (some (.builtin "type.__getattribute__"))
  val : PySem.W.findCls K (.ref C) (.type "type") n = some (.val (.ref g))
  kp : PySem.W.keepIn K (.ref g) = true
section
variable {X : Cx} {CX : CXT} {n : Str} {C g : Addr} {k : Nat} {fd : FuncData} {ps : List Str} {sp : Sp} {o e : Expr} {es : List Expr} {to : TE} {t : TA} {E : XK} {pos apos : Pos} {pl : Sem Bool}
def tCDef (C : Addr) (sp : Sp) (E : XK) (to : TE) (t : TA) : TE := fun σ H Q => to σ H fun x H1 => x = .ref C ∧ t σ H1 fun vs H2 => sp vs H2 Q E
theorem pe_cdef (ho : PE X o to) (c : CDef X.K C g n) (F : FnOk X.prog X.w X.K X.mg X.base CX k g fd ps sp) (hr : Room k X.A) (hb : Binds X.K fd ps []) (hx : Passes CX X E) (ha : PA X (e :: es) t)
    (ht : eval (.Call (.Attribute o n apos) (e :: es) [] pos) X.env = (do
      let ov ← eval o X.env
      standAt apos.atName
      let (f, first) ← holding [ov] (getMethod ov n pl)
      callWith pos f first (backTo pos (starEach (e :: es) X.env)) (backToKw pos (keywordEach [] X.env))) := by rfl)
    (he : starEach (e :: es) X.env = (false, eval e X.env) :: starEach es X.env := by rfl) (hpl : (backTo pos (starEach es X.env)).any (·.1) = false := by rfl) :
    PE X (.Call (.Attribute o n apos) (e :: es) [] pos) (tCDef C sp E to t) := by
  refine ⟨fun pins s σ H Q I h => ?_⟩
  refine PySem.W.methodCall_KW (pl := pl) (thn (ho.run pins s σ H _ I h) fun u s1 ⟨x, H1, I1, rx, ex, q⟩ => ?_) ht
  subst ex
  obtain rfl : u = Value.ref C := rx
  refine PySem.W.method_cls I1.kIn c.ga (PySem.W.cls_value I1.kIn c.rd c.val rfl ?_)
  show wpAny _ _ (callWith pos (Value.ref g) [] (backTo pos (starEach (e :: es) X.env)) []) _ _ _
  refine PySem.W.callWith_K (h₀ := X.base) I1.ok.mod.kin c.kp (thn (ha.run pos pins _ σ H1 _ (I1.tok _) q) fun us s2 ⟨vs, H2, I2, rv, q2⟩ => ⟨I2.kIn, ?_⟩) he hpl
  exact run_at (A := X.A) rfl hr F hb hx I2 rv q2
end
end OQ

/-! ### own errors: of which classes above -/
namespace OQ
open PySem L2 PySem.Spec PyProof.Rows
theorem mro_has {K : PySem.W.Frag} {W f C : Addr} (a : ErC K W f C) {B : Value} (h : B ∈ [Value.ref C, .ref W, .type "ValueError", .type "Exception", .type "BaseException", .type "object"]) : PySem.W.mroIn K C B = some true := by
  obtain ⟨cc, e1, e2⟩ := a.mro
  unfold PySem.W.mroIn
  rw [e1]
  show (if cc.mro.isEmpty = true then none else some (cc.mro.contains B)) = some true
  rw [e2, if_neg (by simp), List.contains_iff_mem.mpr h]
theorem kit_eV {K : PySem.W.Frag} {W f C : Addr} (a : ErC K W f C) : PySem.W.kitOne K (.ref C) (.type "ValueError") = some true := by
  unfold PySem.W.kitOne
  rw [if_neg (by simp)]
  show (if PySem.W.kitMeta "ValueError" = true then PySem.W.mroIn K C (.type "ValueError") else none) = some true
  rw [if_pos (by decide +kernel), mro_has a (by simp)]
theorem kit_eW {K : PySem.W.Frag} {W f C : Addr} (a : ErC K W f C) (hc : PySem.W.isClsIn K W = true) (ht : PySem.W.typeIn K (.ref W) = some (.type "type")) : PySem.W.kitOne K (.ref C) (.ref W) = some true := by
  by_cases n : (Value.ref C == Value.ref W) = true
  · unfold PySem.W.kitOne
    rw [if_pos n]
  · unfold PySem.W.kitOne
    rw [if_neg n]
    have h : ((PySem.W.clsIn K W).isSome && PySem.W.typeIn K (.ref W) == some (.type "type")) = true := by
      rw [show (PySem.W.clsIn K W).isSome = true from hc, ht]; rfl
    show (if ((PySem.W.clsIn K W).isSome && PySem.W.typeIn K (.ref W) == some (.type "type")) = true then PySem.W.mroIn K C (.ref W) else none) = some true
    rw [if_pos h, mro_has a (by simp)]
end OQ

/-! ### all that is asked of an own error's class, in one look -/
namespace OQ
open PySem L2 PySem.Spec PyProof.Rows
/-- the classes above such a one -/
def upVE (C W : Addr) : List Value := [.ref C, .ref W, .type "ValueError", .type "Exception", .type "BaseException", .type "object"]
def shpB (W C : Addr) : Option Obj → Bool
  | some ⟨.type "type", _, .cls k, z⟩ => k.hasDict && (!k.hasDel && (decide (k.mro = upVE C W) && decide (z.size = 6 ∧ z[4]? = some (some (.builtin "ValueError.__new__")))))
  | _ => false
theorem six {z : Array (Option Value)} {u : Option Value} (n : z.size = 6) (e : z[4]? = some u) : ∃ a b c d f, z = #[a, b, c, d, u, f] := by
  obtain ⟨l⟩ := z
  match l, n, e with
  | [a, b, c, d, v, f], _, e => exact ⟨a, b, c, d, f, by cases e; rfl⟩
def fndB (K : PySem.W.Frag) (C : Addr) (n : Str) (v : Option Value) : Bool := decide (PySem.W.findIn K (.ref C) n = some v)
def erB (K : PySem.W.Frag) (W f C : Addr) : Bool :=
  shpB W C (K.lookup C) && (fndB K C "__setattr__" (some (.builtin "object.__setattr__")) && (decide (PySem.W.subIn K (.ref C) (.type "BaseException") = some true) && (decide (PySem.W.typeIn K (.ref C) = some (.type "type")) &&
    (PySem.W.keepIn K (.ref C) && (fndB K C "__init__" (some (.ref f)) && (fndB K C "value" none && (fndB K C "__getattribute__" (some (.builtin "BaseException.__getattribute__")) && (fndB K C "__getattr__" none &&
      (PySem.W.hasDictIn K C && fndB K C "__class__" (some (.builtin "object.__class__")))))))))))
/-- f of all of them -/
def allB {α : Type} (f : α → Bool) : List α → Bool
  | [] => true
  | x :: r => f x && allB f r
theorem allB_at {α : Type} {f : α → Bool} : ∀ {l : List α}, allB f l = true → ∀ x ∈ l, f x = true
  | [], _, _, m => nomatch m
  | y :: r, h, x, m => by
    have q : (f y && allB f r) = true := h
    rw [Bool.and_eq_true] at q
    rcases List.mem_cons.mp m with e | m
    · rw [e]; exact q.1
    · exact allB_at q.2 x m
theorem two {a b : Bool} (h : (a && b) = true) : a = true ∧ b = true := by simpa using h
theorem erB_ok {K : PySem.W.Frag} {W f C : Addr} (hn : PySem.W.specialIn K (.builtin "object.__class__") "__get__" = some (some (.builtin "getset_descriptor.__get__"))) (ht : PySem.W.takesIn K (.builtin "object.__class__") = some true)
    (h : erB K W f C = true) : ErC K W f C := by
  obtain ⟨c1, h⟩ := two h
  obtain ⟨c2, h⟩ := two h
  obtain ⟨c3, h⟩ := two h
  obtain ⟨c4, h⟩ := two h
  obtain ⟨c5, h⟩ := two h
  obtain ⟨c6, h⟩ := two h
  obtain ⟨c7, h⟩ := two h
  obtain ⟨c8, h⟩ := two h
  obtain ⟨c9, h⟩ := two h
  obtain ⟨c10, c11⟩ := two h
  have F : ∀ {n : Str} {v : Option Value}, fndB K C n v = true → PySem.W.findIn K (.ref C) n = some v := fun q => of_decide_eq_true q
  have sub := of_decide_eq_true c3
  cases e : K.lookup C with
  | none => rw [e] at c1; cases c1
  | some o =>
    rw [e] at c1
    unfold shpB at c1
    split at c1
    · rename_i dd k z eo
      have eo' := Option.some.inj eo
      subst eo'
      obtain ⟨d1, c1⟩ := two c1
      obtain ⟨d2, c1⟩ := two c1
      obtain ⟨d3, d4⟩ := two c1
      obtain ⟨s1, s2⟩ := of_decide_eq_true d4
      obtain ⟨k0, k1, k2, k3, k5, rfl⟩ := six s1 s2
      have mr := of_decide_eq_true d3
      obtain ⟨nm, bs, mro, ns, qn, hdct, sn, sub2, ab, col, hdel⟩ := k
      simp only [Bool.not_eq_true'] at d1 d2 mr
      subst d1 d2 mr
      have cl : PySem.W.clsIn K C = some { name := nm, bases := bs, mro := upVE C W, ns := ns, qualname := qn, hasDict := true, slotNames := sn, subclasses := sub2, abstract := ab, collection := col, hasDel := false } := by
        unfold PySem.W.clsIn
        rw [e]
      have up : PySem.W.mroIn K C (.type "object") = some true := by
        unfold PySem.W.mroIn
        rw [cl]
        show (if (upVE C W).isEmpty = true then none else some ((upVE C W).contains (.type "object"))) = some true
        rw [if_neg (by simp [upVE]), List.contains_iff_mem.mpr (by simp [upVE])]
      exact ⟨⟨⟨nm, qn, ns, bs, [.ref W, .type "ValueError", .type "Exception", .type "BaseException", .type "object"], sn, sub2, ab, col, dd, k0, k1, k2, k3, k5, e, by rfl⟩, F c2, sub, of_decide_eq_true c4, c5⟩, F c6, F c7,
        ⟨F c8, F c9, sub, c10⟩, ⟨F c8, F c9, sub, c10, F c11, hn, ht, up⟩, ⟨_, cl, rfl⟩⟩
    · cases c1
end OQ
namespace OQ
open PySem L2 PySem.Spec PyProof.Rows
theorem ErC.cls {K : PySem.W.Frag} {W f C : Addr} (a : ErC K W f C) : PySem.W.isClsIn K C = true := by
  obtain ⟨cc, e, _⟩ := a.mro
  show (PySem.W.clsIn K C).isSome = true
  rw [e]; rfl
/-- what «except D» says of an error of C -/
theorem exm_is {K : PySem.W.Frag} {C D : Addr} {b : Bool} (h1 : PySem.W.subIn K (.ref D) (.type "BaseException") = some true) (h2 : PySem.W.isClsIn K D = true) (h3 : PySem.W.typeIn K (.ref D) = some (.type "type")) (h : PySem.W.mroIn K C (.ref D) = some b) :
    PySem.W.exmOne K (.ref C) (.ref D) = some b := by
  unfold PySem.W.exmOne
  rw [h1, if_pos (by rfl)]
  have q : ((PySem.W.clsIn K D).isSome && PySem.W.typeIn K (.ref D) == some (.type "type")) = true := by
    rw [show (PySem.W.clsIn K D).isSome = true from h2, h3]; rfl
  unfold PySem.W.kitCls
  exact (if_pos q).trans h
theorem mro_er {K : PySem.W.Frag} {W f C : Addr} (a : ErC K W f C) {D : Addr} (n : D ≠ W) : PySem.W.mroIn K C (.ref D) = some (decide (C = D)) := by
  by_cases h : C = D
  · subst h; rw [mro_has a (by simp), decide_eq_true rfl]
  · obtain ⟨cc, e1, e2⟩ := a.mro
    unfold PySem.W.mroIn
    rw [e1, decide_eq_false h]
    show (if cc.mro.isEmpty = true then none else some (cc.mro.contains (.ref D))) = some false
    rw [e2, if_neg (by simp)]
    refine congrArg some (Bool.eq_false_iff.mpr fun q => ?_)
    have m := List.contains_iff_mem.mp q
    simp only [List.mem_cons, Value.ref.injEq, reduceCtorEq, List.not_mem_nil, or_false] at m
    exact m.elim (fun z => h z.symm) n
theorem exm_er {K : PySem.W.Frag} {W f g C D : Addr} (a : ErC K W f C) (b : ErC K W g D) (n : D ≠ W) : PySem.W.exmOne K (.ref C) (.ref D) = some (decide (C = D)) := exm_is b.oex.exC b.cls b.oex.tyC (mro_er a n)
theorem exm_eW {K : PySem.W.Frag} {W f C : Addr} (a : ErC K W f C) (h1 : PySem.W.subIn K (.ref W) (.type "BaseException") = some true) (h2 : PySem.W.isClsIn K W = true) (h3 : PySem.W.typeIn K (.ref W) = some (.type "type")) :
    PySem.W.exmOne K (.ref C) (.ref W) = some true := exm_is h1 h2 h3 (mro_has a (by simp))
end OQ

/-! ### the head by one run: facts by names, and one more look -/
namespace OQ
open PySem L2 PySem.Spec PyProof.Rows
/-- what of the heap is looked at: what the module's names reach, and the host's own names -/
def frB (n : Nat) (g : Addr → Option Obj) : PySem.W.Frag := He.frG g (cStatics :: He.asD g n)
def hookB (n : Nat) (fa : List He.Fa) (fn : List He.DefD) (ex : PySem.W.Frag → Bool) : PySem.W.Hook where
  α := He.AlD × Bool
  obs := fun s => (He.obsD fa fn (frB n s.heap.get?), ex (frB n s.heap.get?))
  val := fun _ => (He.valD fn, true)
  says := fun _ h => ∃ K : PySem.W.Frag, K.In h ∧ He.SaysD fa fn K ∧ ex K = true
  of := fun _ _ e => ⟨_, He.frG_in, congrArg Prod.fst e, congrArg Prod.snd e⟩
  keeps := fun _ _ _ ⟨K, hK, c, x⟩ k => ⟨K, PySem.W.Frag.In.keeps hK k, c, x⟩
def obB (n : Nat) (fa : List He.Fa) (fn : List He.DefD) (ex : PySem.W.Frag → Bool) (s : PySem.W.SharedT) : He.AlD × Bool :=
  (He.obsD fa fn (frB n (HandSHeadRun.getT s)), ex (frB n (HandSHeadRun.getT s)))
theorem obB_eq (n : Nat) (fa : List He.Fa) (fn : List He.DefD) (ex : PySem.W.Frag → Bool) (s : PySem.W.SharedT) : obB n fa fn ex s = (hookB n fa fn ex).obs s.abs := by
  have e : HandSHeadRun.getT s = s.abs.heap.get? := funext (HandSHeadRun.getT_eq s)
  unfold obB
  rw [e]
  rfl
theorem fun_of {K : PySem.W.Frag} {x q : Str} {st : Stmt} {f : Addr} {fd : FuncData} (F : FunD K x q (defArgs st) (defBody st) (defScope st) [] [] f fd) : Fun K x q st f fd := by
  obtain ⟨oc, od, dV, kV, doc, pm, an, cd, ct, sl, e, look, code, df, _⟩ := F.ex
  rcases df with ⟨_, rfl⟩ | ⟨no, _⟩
  · exact ⟨⟨oc, od, kV, doc, pm, an, cd, ct, sl, e, look, code⟩, F.kp⟩
  · exact absurd rfl no
/-- v as an option's option -/
def isB (a : Option (Option Value)) (v : Option Value) : Bool := decide (a = some v)
theorem isB_ok {a : Option (Option Value)} {v : Option Value} (h : isB a v = true) : a = some v := of_decide_eq_true h
end OQ

/-! ### the head in chunks: the run of the top from one written state to the next -/
namespace HG
open PySem PySem.W PySem.Calls PyProof.Rows HandSHeadRun
noncomputable def okQ : Nat → Option Value → Thread → Bool := PySem.W.Fast.tw6613529449190102663
theorem okQ_eq : @stepOk = okQ := PySem.W.Fast.te6613529449190102663
noncomputable def execsQ : List Stmt → Env → Sem Flow := PySem.W.Fast.tw12563942051412417395
theorem execsQ_eq : @execs = execsQ := PySem.W.Fast.te12563942051412417395
noncomputable def blockQ : List Stmt → Env → Sem Unit := PySem.W.Fast.tw1066825118222455980
theorem blockQ_eq : @blockStart = blockQ := PySem.W.Fast.te1066825118222455980
section
variable (st : SharedT → Thread → Option (SharedT × Thread)) (ok : Thread → Bool)
/-- to the end of a row, at the top's own depth -/
def goE : Nat → SharedT → Thread → Option (Flow × SharedT × Code × Pos)
  | 0, _, _ => none
  | m + 1, s, t => match endAt 1 t with
    | some f => some (f, s, t.code, t.pos)
    | none => match ok t with
      | false => none
      | true => match st s t with
        | some (s', t') => frS s' fun s' => goE m s' t'
        | none => none
/-- just so many steps -/
def goT : Nat → SharedT → Thread → Option (SharedT × Thread)
  | 0, s, t => some (s, t)
  | m + 1, s, t => match through t with
    | true => none
    | false => match ok t with
      | false => none
      | true => match st s t with
        | some (s', t') => frS s' fun s' => goT m s' t'
        | none => none
end
section
variable {tb : String → Option Builtin} {p : Program} {w : World} {n0 : Nat} {ann : Option Value}
theorem goE_ok : ∀ {m : Nat} {s s' : SharedT} {t : Thread} {f : Flow} {c : Code} {q : Pos}, goE (stepT (denote tb) p w) (stepOk n0 ann) m s t = some (f, s', c, q) → segRun tb p w n0 ann 1 m s.abs t = some (f, s'.abs, c, q)
  | 0, _, _, _, _, _, _, h => by cases h
  | m + 1, s, s', t, f, c, q, h => by
    have h1 : (match endAt 1 t with
      | some f => some (f, s, t.code, t.pos)
      | none => match stepOk n0 ann t with
        | false => none
        | true => match stepT (denote tb) p w s t with
          | some (s', t') => frS s' fun s' => goE (stepT (denote tb) p w) (stepOk n0 ann) m s' t'
          | none => none) = some (f, s', c, q) := h
    unfold segRun
    cases he : endAt 1 t with
    | some g =>
      rw [he] at h1
      cases h1
      rfl
    | none =>
      rw [he] at h1
      cases hk : stepOk n0 ann t with
      | false =>
        rw [hk] at h1
        cases h1
      | true =>
        rw [hk] at h1
        cases hs : stepT (denote tb) p w s t with
        | none =>
          rw [hs] at h1
          cases h1
        | some r =>
          obtain ⟨s2, t2⟩ := r
          rw [hs] at h1
          have h3 : (frS s2 fun s' => goE (stepT (denote tb) p w) (stepOk n0 ann) m s' t2) = some (f, s', c, q) := h1
          rw [frS_eq] at h3
          have z := goE_ok h3
          show (match step (denote tb) p w s.abs t with
            | .go s' t' => segRun tb p w n0 ann 1 m s' t'
            | .halt _ _ => none) = some (f, s'.abs, c, q)
          rw [stepT_spec hs]
          exact z
theorem goT_ok : ∀ {m : Nat} {s s' : SharedT} {t t' : Thread}, goT (stepT (denote tb) p w) (stepOk n0 ann) m s t = some (s', t') → topGo tb p w n0 ann m s.abs t = some (s'.abs, t')
  | 0, _, _, _, _, h => by
    cases h
    rfl
  | m + 1, s, s', t, t', h => by
    have h1 : (match through t with
      | true => none
      | false => match stepOk n0 ann t with
        | false => none
        | true => match stepT (denote tb) p w s t with
          | some (s', t') => frS s' fun s' => goT (stepT (denote tb) p w) (stepOk n0 ann) m s' t'
          | none => none) = some (s', t') := h
    unfold topGo
    cases he : through t with
    | true =>
      rw [he] at h1
      cases h1
    | false =>
      rw [he] at h1
      cases hk : stepOk n0 ann t with
      | false =>
        rw [hk] at h1
        cases h1
      | true =>
        rw [hk] at h1
        cases hs : stepT (denote tb) p w s t with
        | none =>
          rw [hs] at h1
          cases h1
        | some r =>
          obtain ⟨s2, t2⟩ := r
          rw [hs] at h1
          have h3 : (frS s2 fun s' => goT (stepT (denote tb) p w) (stepOk n0 ann) m s' t2) = some (s', t') := h1
          rw [frS_eq] at h3
          have z := goT_ok h3
          show (match step (denote tb) p w s.abs t with
            | .go s' t' => topGo tb p w n0 ann m s' t'
            | .halt _ _ => none) = some (s'.abs, t')
          rw [stepT_spec hs]
          exact z
end
/-- the twins in their places -/
noncomputable abbrev stQ (p : Program) (w : World) := stepQ (denQ tabQ) p w
theorem goE_q {p : Program} {w : World} {n0 : Nat} {ann : Option Value} {m : Nat} {s s' : SharedT} {l : List Stmt} {env : Env} {c c' : Code} {q q' : Pos} {B : List Frame} {f : Flow} (h : goE (stQ p w) (okQ n0 ann) m s ⟨(execsQ l env).wrap doneF deadEnd id id, c, q, B⟩ = some (f, s', c', q')) :
    segRun treeTable p w n0 ann 1 m s.abs (piecesOf l env c q B) = some (f, s'.abs, c', q') := by
  have e : stQ p w = stepT (denote treeTable) p w := by unfold stQ; rw [← stepQ_eq, ← denQ_eq, ← tabQ_eq]
  rw [e, ← okQ_eq, ← execsQ_eq] at h
  exact goE_ok h
theorem goB_q {p : Program} {w : World} {n0 : Nat} {ann : Option Value} {m : Nat} {s s' : SharedT} {l : List Stmt} {env : Env} {c c' : Code} {q q' : Pos} {B : List Frame} {f : Flow} (h : goE (stQ p w) (okQ n0 ann) m s ⟨(blockQ l env).wrap (fun _ => doneF .next) deadEnd id id, c, q, B⟩ = some (f, s', c', q')) :
    segRun treeTable p w n0 ann 1 m s.abs (blockOf l env c q B) = some (f, s'.abs, c', q') := by
  have e : stQ p w = stepT (denote treeTable) p w := by unfold stQ; rw [← stepQ_eq, ← denQ_eq, ← tabQ_eq]
  rw [e, ← okQ_eq, ← blockQ_eq] at h
  exact goE_ok h
theorem goT_q {p : Program} {w : World} {n0 : Nat} {ann : Option Value} {m : Nat} {s s' : SharedT} {t : Thread} {b : Code} {c : Code} {q : Pos} {B : List Frame} (h : goT (stQ p w) (okQ n0 ann) m s t = some (s', ⟨denQ tabQ b, c, q, B⟩)) :
    topGo treeTable p w n0 ann m s.abs t = some (s'.abs, ⟨denote treeTable b, c, q, B⟩) := by
  have e : stQ p w = stepT (denote treeTable) p w := by unfold stQ; rw [← stepQ_eq, ← denQ_eq, ← tabQ_eq]
  rw [e, ← okQ_eq, ← denQ_eq, ← tabQ_eq] at h
  exact goT_ok h
theorem goF_q {p : Program} {w : World} {n0 : Nat} {ann : Option Value} {m : Nat} {s s' : SharedT} {t : Thread} (h : goF (stQ p w) n0 ann m s t = some s') : topRun treeTable p w n0 ann m s.abs t = some s'.abs := by
  have e : stQ p w = stepT (denote treeTable) p w := by unfold stQ; rw [← stepQ_eq, ← denQ_eq, ← tabQ_eq]
  rw [e] at h
  exact goF_ok h
/-- the boot and the imports -/
def openF (st : Program → SharedT → Thread → Option (SharedT × Thread)) (fence : Program → Shared → Option Shared) (M : Nat) (p : Program) : Option Shared := match impF (st (opening p)) M (startT (opening p)) (start (opening p)).2 with
  | some s => fence p s.abs
  | none => none
theorem openF_q {M : Nat} {p : Program} {w : World} {s0 : Shared} (h : openF (fun q => stQ q w) fenceQ M p = some s0) : fencedOpening treeTable p w M = some s0 := by
  have e : (fun q => stQ q w) = (fun q => stepT (denote treeTable) q w) := by unfold stQ; rw [← stepQ_eq, ← denQ_eq, ← tabQ_eq]
  rw [e, ← fenceQ_eq] at h
  unfold openF at h
  cases e1 : impF (stepT (denote treeTable) (opening p) w) M (startT (opening p)) (start (opening p)).2 with
  | none =>
    rw [e1] at h
    cases h
  | some s =>
    rw [e1] at h
    have h1 : fenceModules? p s.abs = some s0 := h
    have a1 := impF_ok e1
    rw [startT_eq] at a1
    unfold fencedOpening
    rw [a1]
    exact h1
theorem openB_q {M : Nat} {p : Program} {w : World} {x0 : SharedT} (h : (openF (fun q => stQ q w) fenceQ M p).bind treeOf = some x0) : fencedOpening treeTable p w M = some x0.abs := by
  obtain ⟨s, e, e2⟩ := Option.bind_eq_some_iff.mp h
  rw [(treeOf_eq e2).1]
  exact openF_q e
theorem left_run {p q : Program} {loose : List Str} {Xt : Shared → Bool} {α : Type} {Yf : Shared → α} {Ya : World → α} {N M n0 : Nat} {ann : Option Value} {s0 s1 : World → Shared}
    (hb : ∀ w, fencedOpening treeTable p w N = some (s0 w))
    (hz : ∀ w, ((s0 w).heap.isNs mainGlobals && (s0 w).gens.size == 0, (s0 w).heap.objs.size, (s0 w).heap.nsMap mainGlobals "__annotations__") = (true, n0, ann))
    (hr : ∀ w, topRun treeTable p w n0 ann M (s0 w) (topStub p) = some (s1 w)) (le : Nat.ble M N = true)
    (hl : ∀ w, looksF p (s0 w).heap (s1 w) = true) (hs : ∀ w, openSeen q loose (importedModules p.main.body) Xt true (s1 w) = openGood q loose) (hy : ∀ w, Yf (s1 w) = Ya w) :
    LeftO p q loose Xt Yf Ya N true := fun w => by
  obtain ⟨z1, z2, z3⟩ : _ ∧ _ ∧ _ := by simpa only [Prod.mk.injEq] using hz w
  have r := topRun_mono (N - M) _ _ _ _ (hr w)
  rw [show M + (N - M) = N by have := Nat.le_of_ble_eq_true le; omega] at r
  have l1 : (staticsOk (importedModules p.main.body) (s0 w).heap (s1 w).heap && namesBound p (s1 w).heap && gensDone (s1 w) && laidKept (s0 w).heap (s1 w).heap) = true := hl w
  have t : topFrom treeTable p w N (s0 w) = some (s1 w) := by
    unfold topFrom
    rw [z1]
    show (topRun treeTable p w (s0 w).heap.objs.size ((s0 w).heap.nsMap mainGlobals "__annotations__") N (s0 w) (topStub p)).bind _ = _
    rw [z2, z3, r]
    show (match staticsOk (importedModules p.main.body) (s0 w).heap (s1 w).heap && namesBound p (s1 w).heap && gensDone (s1 w) && laidKept (s0 w).heap (s1 w).heap with | true => some (s1 w) | false => none) = _
    rw [l1]
  unfold openEnds
  rw [hb w]
  show (topFrom treeTable p w N _).map _ = _
  rw [t]
  exact congrArg some (Prod.ext (hs w) (hy w))
theorem head_run {r : OpenRow} {q : Program} {H : Hook} {ob : SharedT → H.α} {N M n0 : Nat} {ann : Option Value} {x0 x1 : World → SharedT} {loose : List PySem.Str} {d : DefRec} {kwd : List (PySem.Str × PySem.Expr)} (ho : ∀ s : SharedT, ob s = H.obs s.abs)
    (hb : ∀ w, (openF (fun q => stQ q w) fenceQ N r.prog).bind treeOf = some (x0 w))
    (hz : ∀ w, ((x0 w).abs.heap.isNs mainGlobals && (x0 w).abs.gens.size == 0, (x0 w).abs.heap.objs.size, (x0 w).abs.heap.nsMap mainGlobals "__annotations__") = (true, n0, ann))
    (hr : ∀ w, topRun treeTable r.prog w n0 ann M (x0 w).abs (topStub r.prog) = some (x1 w).abs) (le : Nat.ble M N = true)
    (hl : ∀ w, looksF r.prog (x0 w).abs.heap (x1 w).abs = true) (hs : ∀ w, seenQ q loose (importedModules r.prog.main.body) (fun s => xlAt q [] s && recOk r.toRowW.records s) (x1 w).abs = openGood q loose) (hy : ∀ w, ob (x1 w) = H.val w)
    (hdef : defOf q r.name = some (d, kwd)) (hp : r.prog.theDef r.name = some (d.params, d.body, d.scope)) (hk : kwWritten? d.params.kwonlyargs d.params.kw_defaults = some kwd)
    (hwr : (!r.writes || r.records.isEmpty) = true) (k1 : r.wellSaid = true) (ok : (chainsOk q && opensWell r.prog && (frees r.toRowW && r.within.isEmpty)) = true) (hbr : r.prog.bare) (hw : r.toRowW.promised)
    (call : WalkO q loose (XL q []) H.says r.toRowW d kwd fun f vs => PySem.call f vs) : r.Holds := by
  have left : LeftO r.prog q loose (fun s => xlAt q [] s && recOk r.toRowW.records s) H.obs H.val N true :=
    left_run (fun w => openB_q (hb w)) hz hr le hl (fun w => by rw [seenQ_eq]; exact hs w) (fun w => by rw [← ho]; exact hy w)
  exact holds_open (r := r) (q := q) (loose := loose) (XP := XL q []) (YP := H.says) (d := d) (kwd := kwd) left H.of H.keeps (fun s z => xl_of s (Bool.and_eq_true_iff.mp z).1) XL.keeps hdef hp hk (fun s z => recFacts_of (Bool.and_eq_true_iff.mp z).2) hwr k1 ok hbr hw call
end HG

open RD in
local macro_rules | `(tactic| walk_at "rd1") => `(tactic| with_reducible first
  | refine d_seq ?_ | refine d_asg ?_ | refine d_op ?_ | refine d_c ?_ | refine d_gname ?_ | refine d_ifS ?_ | refine d_test ?_ | refine d_bl ?_ | refine d_ret ?_ | refine d_next ?_ | refine d_drop ?_
  | refine d_and ?_ | refine d_or ?_ | refine d_not ?_ | refine d_andV ?_ | refine d_orV ?_ | refine d_notV ?_ | refine d_if ?_ | refine d_tB ?_
  | refine d_rI0 ?_ | refine d_rU ?_ | refine d_eqI ?_ | refine d_neI ?_ | refine d_eqS ?_ | refine d_neS ?_ | refine d_eqB ?_ | refine d_isN ?_ | refine d_notN ?_ | refine d_intB ?_ | refine d_un ?_ | refine d_cb ?_ | refine d_cons ?_ | refine d_nil ?_ | refine d_lst ?_ | refine d_tup ?_ | refine d_call ?_
  | refine d_iList ?_ | refine d_rng1 ?_ | refine d_lc ?_ | refine d_yes ?_ | refine d_iteT ?_ | refine d_iteF ?_ | refine d_sl ?_ | refine d_noPart ?_ | refine d_part ?_ | refine d_exI ?_ | refine d_fld ?_ | refine d_iteNF ?_ | refine d_iteNT ?_ | refine d_gcd ?_ | refine d_sfld ?_ | refine d_for ?_ | refine OQ.d_makeS ?_ | refine OQ.d_make ?_ | refine OQ.d_methS ?_ | refine OQ.d_meth ?_ | refine d_gsub ?_ | refine d_par ?_ | refine d_int ?_ | refine d_abs ?_)
local macro_rules | `(tactic| walk_at "rdH") => `(tactic| first | assumption | exact L2.upd_same | (simp only [L2.upd_same, L2.upd_ne, ne_eq, not_false_eq_true, *]; done))
local macro_rules | `(tactic| walk_at "rdC") => `(tactic| first | assumption | (refine Or.inr ⟨?_, ?_⟩ <;> first | decide | omega) | (refine Or.inl ⟨?_, ?_⟩ <;> first | decide | omega) | (show (0 : Int) < _; first | assumption | decide | omega) | exact ⟨by decide, by decide +kernel⟩ | exact ⟨by decide, by decide, by decide +kernel⟩ | exact ⟨by assumption, by assumption⟩)
local macro_rules | `(tactic| walk_at "rd2") => `(tactic| first
  | refine RD.d_var rfl ?_
  | ((with_reducible (refine' RD.d_ixL ?hs ?e ?k)); (case hs => exact L2.SqL.of (by walk_at "rdH")); (case e => rfl))
  | ((with_reducible (refine' RD.d_ixT ?hs ?e ?k)); (case hs => exact L2.SqT.of (by walk_at "rdH")); (case e => rfl))
  | ((with_reducible (refine' RD.d_lenL ?hs ?k)); (case hs => exact L2.SqL.of (by walk_at "rdH")))
  | ((with_reducible (refine' RD.d_wipe ?e ?k)); (case e => rfl))
  | ((with_reducible (refine' RD.d_refL ?hs ?k)); (case hs => exact L2.SqL.of (by walk_at "rdH")))
  | ((with_reducible (refine' RD.d_lenT ?hs ?k)); (case hs => exact L2.SqT.of (by walk_at "rdH")))
  | ((with_reducible (refine' RD.d_lenS ?hs ?k)); (case hs => first | assumption | omega))
  | ((with_reducible (refine' RD.d_rI ?c ?k)); (case c => walk_at "rdC"))
  | ((with_reducible (refine' RD.d_setL ?hs ?e ?k)); (case hs => walk_at "rdH"); (case e => rfl)))
local macro_rules | `(tactic| walk_at "rd") => `(tactic| repeat (first | walk_at "rd1" | walk_at "rd2"))

/-! ### words, watches, links, floods -/
namespace WW
abbrev Wd := List Nat
def piece (W : Wd) (i j : Nat) : Wd := (W.drop i).take (j - i)
/-- the watch w stands at spot l of W -/
def Hit (W : Wd) (l : Nat) (w : Wd) : Prop := piece W l (l + w.length) = w
def Link (ws : List Wd) (W : Wd) (i j : Nat) : Prop := ∃ w ∈ ws, (Hit W i w ∧ j = i + w.length) ∨ (Hit W j w ∧ i = j + w.length)
instance {W : Wd} {l : Nat} {w : Wd} : Decidable (Hit W l w) := inferInstanceAs (Decidable (_ = _))
theorem Link.symm {ws : List Wd} {W : Wd} {i j : Nat} (h : Link ws W i j) : Link ws W j i := by
  obtain ⟨w, m, h⟩ := h
  exact ⟨w, m, h.symm⟩
theorem piece_length (W : Wd) (i j : Nat) : (piece W i j).length = min (j - i) (W.length - i) := by simp [piece]
theorem Hit.bound {W : Wd} {l : Nat} {w : Wd} (h : Hit W l w) (n : w ≠ []) : l + w.length ≤ W.length := by
  have e := congrArg List.length h
  rw [piece_length] at e
  have : 0 < w.length := List.length_pos_iff.mpr n
  omega
theorem Link.le {ws : List Wd} {W : Wd} {i j : Nat} (hw : ∀ w ∈ ws, w ≠ []) (h : Link ws W i j) : i ≤ W.length ∧ j ≤ W.length ∧ i ≠ j := by
  obtain ⟨w, m, ⟨h, e⟩ | ⟨h, e⟩⟩ := h
  · have := h.bound (hw w m)
    have : 0 < w.length := List.length_pos_iff.mpr (hw w m)
    omega
  · have := h.bound (hw w m)
    have : 0 < w.length := List.length_pos_iff.mpr (hw w m)
    omega
theorem Link.mono {ws vs : List Wd} {W : Wd} {i j : Nat} (s : ∀ w ∈ ws, w ∈ vs) (h : Link ws W i j) : Link vs W i j := by
  obtain ⟨w, m, h⟩ := h
  exact ⟨w, s w m, h⟩
/-- r steps lead from g to v -/
def Wk (E : Nat → Nat → Prop) (g : Nat) : Nat → Nat → Prop
  | 0, v => v = g
  | r + 1, v => ∃ u, Wk E g r u ∧ E u v
/-- r steps and no fewer -/
def Ds (E : Nat → Nat → Prop) (g r v : Nat) : Prop := Wk E g r v ∧ ∀ s, s < r → ¬ Wk E g s v
def Rc (E : Nat → Nat → Prop) (g v : Nat) : Prop := ∃ r, Wk E g r v
theorem Rc.ds {E : Nat → Nat → Prop} {g v : Nat} (h : Rc E g v) : ∃ r, Ds E g r v := by
  obtain ⟨r, h⟩ := h
  induction r using Nat.strongRecOn with
  | ind r ih =>
    by_cases c : ∃ s, s < r ∧ Wk E g s v
    · obtain ⟨s, hs, k⟩ := c
      exact ih s hs k
    · exact ⟨r, h, fun s hs k => c ⟨s, hs, k⟩⟩
theorem Ds.uniq {E : Nat → Nat → Prop} {g r s v : Nat} (h : Ds E g r v) (k : Ds E g s v) : r = s := by
  rcases Nat.lt_trichotomy r s with c | c | c
  · exact (k.2 r c h.1).elim
  · exact c
  · exact (h.2 s c k.1).elim
/-- a step further than r leads to r + 1, or to what is nearer -/
theorem Ds.step {E : Nat → Nat → Prop} {g r u v : Nat} (h : Ds E g r u) (e : E u v) : Ds E g (r + 1) v ∨ ∃ s, s ≤ r ∧ Ds E g s v := by
  obtain ⟨s, k⟩ := Rc.ds ⟨r + 1, u, h.1, e⟩
  by_cases c : s ≤ r
  · exact .inr ⟨s, c, k⟩
  · by_cases c2 : s = r + 1
    · subst c2; exact .inl k
    · exact (k.2 (r + 1) (by omega) ⟨u, h.1, e⟩).elim
theorem Ds.back {E : Nat → Nat → Prop} {g r v : Nat} (h : Ds E g (r + 1) v) : ∃ u, Ds E g r u ∧ E u v := by
  obtain ⟨⟨u, k, e⟩, n⟩ := h
  exact ⟨u, ⟨k, fun s hs z => n (s + 1) (by omega) ⟨u, z, e⟩⟩, e⟩
theorem Ds.down {E : Nat → Nat → Prop} {g : Nat} : ∀ {r v : Nat}, Ds E g r v → ∀ s, s ≤ r → ∃ u, Ds E g s u
  | r, v, h, s, hs => by
    by_cases c : s = r
    · subst c; exact ⟨v, h⟩
    · cases r with
      | zero => omega
      | succ r =>
        obtain ⟨u, k, _⟩ := h.back
        exact k.down s (by omega)
theorem Wk.trans {E : Nat → Nat → Prop} {g u : Nat} {r : Nat} (h : Wk E g r u) : ∀ {s v : Nat}, Wk E u s v → Wk E g (r + s) v
  | 0, v, k => by cases k; exact h
  | s + 1, v, ⟨x, k, e⟩ => ⟨x, h.trans k, e⟩
theorem Rc.trans {E : Nat → Nat → Prop} {g u v : Nat} (h : Rc E g u) (k : Rc E u v) : Rc E g v := by
  obtain ⟨r, h⟩ := h
  obtain ⟨s, k⟩ := k
  exact ⟨r + s, h.trans k⟩
theorem Rc.one {E : Nat → Nat → Prop} {u v : Nat} (e : E u v) : Rc E u v := ⟨1, u, rfl, e⟩
theorem Rc.refl {E : Nat → Nat → Prop} {u : Nat} : Rc E u u := ⟨0, rfl⟩
theorem Rc.symm {E : Nat → Nat → Prop} (sy : ∀ u v, E u v → E v u) {u v : Nat} (h : Rc E u v) : Rc E v u := by
  obtain ⟨r, h⟩ := h
  induction r generalizing v with
  | zero => cases h; exact .refl
  | succ r ih =>
    obtain ⟨x, k, e⟩ := h
    exact (Rc.one (sy _ _ e)).trans (ih k)
theorem Rc.mono {E F : Nat → Nat → Prop} (m : ∀ u v, E u v → F u v) {u v : Nat} (h : Rc E u v) : Rc F u v := by
  obtain ⟨r, h⟩ := h
  induction r generalizing v with
  | zero => cases h; exact .refl
  | succ r ih =>
    obtain ⟨x, k, e⟩ := h
    exact (ih k).trans (.one (m _ _ e))
/-- the book of ws tells W -/
def Told (ws : List Wd) (W : Wd) : Prop := Rc (Link ws W) 0 W.length
end WW
namespace WW
/-! the marks: spots with one mark are led to one another -/
structure Cls (m : Nat → Int) (n : Nat) (F : Nat → Nat → Prop) : Prop where
  snd : ∀ i j, i ≤ n → j ≤ n → m i = m j → Rc F i j
  cmp : ∀ i j, F i j → m i = m j
def addE (F : Nat → Nat → Prop) (a b : Nat) : Nat → Nat → Prop := fun u v => F u v ∨ (u = a ∧ v = b) ∨ (v = a ∧ u = b)
theorem Cls.same {m : Nat → Int} {n a b : Nat} {F : Nat → Nat → Prop} (h : Cls m n F) (e : m a = m b) : Cls m n (addE F a b) :=
  ⟨fun i j hi hj z => (h.snd i j hi hj z).mono fun _ _ => .inl, fun i j z => by
    rcases z with z | ⟨rfl, rfl⟩ | ⟨rfl, rfl⟩
    · exact h.cmp _ _ z
    · exact e
    · exact e.symm⟩
def relab (m : Nat → Int) (a b : Nat) : Nat → Int := fun i => if m i = m b then m a else m i
theorem Cls.join {m : Nat → Int} {n a b : Nat} {F : Nat → Nat → Prop} (h : Cls m n F) (ha : a ≤ n) (hb : b ≤ n) (e : m a ≠ m b) : Cls (relab m a b) n (addE F a b) := by
  have up : ∀ u v, Rc F u v → Rc (addE F a b) u v := fun u v k => k.mono fun _ _ => .inl
  have ab : Rc (addE F a b) a b := .one (.inr (.inl ⟨rfl, rfl⟩))
  have ba : Rc (addE F a b) b a := .one (.inr (.inr ⟨rfl, rfl⟩))
  refine ⟨fun i j hi hj z => ?_, fun i j z => ?_⟩
  · unfold relab at z
    split at z <;> split at z
    · rename_i c d
      exact up _ _ (h.snd i j hi hj (c.trans d.symm))
    · rename_i c d
      exact ((up _ _ (h.snd i b hi hb c)).trans ba).trans (up _ _ (h.snd a j ha hj z))
    · rename_i c d
      exact ((up _ _ (h.snd i a hi ha z)).trans ab).trans (up _ _ (h.snd b j hb hj d.symm))
    · exact up _ _ (h.snd i j hi hj z)
  · unfold relab
    rcases z with z | ⟨rfl, rfl⟩ | ⟨rfl, rfl⟩
    · rw [h.cmp _ _ z]
    · rw [if_neg e, if_pos rfl]
    · rw [if_neg e, if_pos rfl]
theorem Cls.told {m : Nat → Int} {n : Nat} {F : Nat → Nat → Prop} (h : Cls m n F) {i j : Nat} (hi : i ≤ n) (hj : j ≤ n) : m i = m j ↔ Rc F i j := by
  refine ⟨h.snd i j hi hj, fun k => ?_⟩
  obtain ⟨r, k⟩ := k
  clear hi hj
  induction r generalizing j with
  | zero => cases k; rfl
  | succ r ih =>
    obtain ⟨x, k, e⟩ := k
    exact (ih k).trans (h.cmp _ _ e)
/-! the links, as they are found -/
/-- those found ahead of the watch kk at spot low -/
def LkF (ws : List Wd) (W : Wd) (low kk : Nat) (i j : Nat) : Prop := ∃ l k w, ws[k]? = some w ∧ Hit W l w ∧ (l < low ∨ (l = low ∧ k < kk)) ∧ ((i = l ∧ j = l + w.length) ∨ (j = l ∧ i = l + w.length))
theorem LkF.zero {ws : List Wd} {W : Wd} {i j : Nat} : ¬ LkF ws W 0 0 i j := by
  rintro ⟨l, k, w, _, _, c, _⟩
  omega
theorem LkF.next {ws : List Wd} {W : Wd} {low i j : Nat} : LkF ws W low ws.length i j ↔ LkF ws W (low + 1) 0 i j := by
  refine ⟨fun ⟨l, k, w, h1, h2, c, h3⟩ => ⟨l, k, w, h1, h2, by omega, h3⟩, fun ⟨l, k, w, h1, h2, c, h3⟩ => ⟨l, k, w, h1, h2, ?_, h3⟩⟩
  have := (List.getElem?_eq_some_iff.mp h1).1
  omega
theorem LkF.all {ws : List Wd} {W : Wd} {i j : Nat} (n : ∀ w ∈ ws, w ≠ []) : LkF ws W W.length 0 i j ↔ Link ws W i j := by
  constructor
  · rintro ⟨l, k, w, h1, h2, c, h3⟩
    refine ⟨w, List.mem_of_getElem? h1, ?_⟩
    rcases h3 with ⟨rfl, e⟩ | ⟨rfl, e⟩
    · exact .inl ⟨h2, e⟩
    · exact .inr ⟨h2, e⟩
  · rintro ⟨w, m, h⟩
    obtain ⟨k, hk⟩ := List.getElem?_of_mem m
    have l0 : 0 < w.length := List.length_pos_iff.mpr (n w m)
    rcases h with ⟨h, e⟩ | ⟨h, e⟩
    · exact ⟨i, k, w, hk, h, by have := h.bound (n w m); omega, .inl ⟨rfl, e⟩⟩
    · exact ⟨j, k, w, hk, h, by have := h.bound (n w m); omega, .inr ⟨rfl, e⟩⟩
theorem LkF.miss {ws : List Wd} {W : Wd} {low kk : Nat} {w : Wd} (hk : ws[kk]? = some w) (h : ¬ Hit W low w) (i j : Nat) : LkF ws W low (kk + 1) i j ↔ LkF ws W low kk i j := by
  refine ⟨fun ⟨l, k, v, h1, h2, c, h3⟩ => ⟨l, k, v, h1, h2, ?_, h3⟩, fun ⟨l, k, v, h1, h2, c, h3⟩ => ⟨l, k, v, h1, h2, by omega, h3⟩⟩
  rcases c with c | ⟨rfl, c⟩
  · exact .inl c
  · by_cases e : k = kk
    · subst e
      rw [hk] at h1
      cases h1
      exact (h h2).elim
    · exact .inr ⟨rfl, by omega⟩
theorem LkF.hit {ws : List Wd} {W : Wd} {low kk : Nat} {w : Wd} (hk : ws[kk]? = some w) (h : Hit W low w) (i j : Nat) : LkF ws W low (kk + 1) i j ↔ addE (LkF ws W low kk) low (low + w.length) i j := by
  constructor
  · rintro ⟨l, k, v, h1, h2, c, h3⟩
    by_cases e : l = low ∧ k = kk
    · obtain ⟨rfl, rfl⟩ := e
      rw [hk] at h1
      cases h1
      rcases h3 with ⟨rfl, rfl⟩ | ⟨rfl, rfl⟩
      · exact .inr (.inl ⟨rfl, rfl⟩)
      · exact .inr (.inr ⟨rfl, rfl⟩)
    · exact .inl ⟨l, k, v, h1, h2, by omega, h3⟩
  · rintro (⟨l, k, v, h1, h2, c, h3⟩ | h3)
    · exact ⟨l, k, v, h1, h2, by omega, h3⟩
    · refine ⟨low, kk, w, hk, h, by omega, ?_⟩
      rcases h3 with ⟨rfl, rfl⟩ | ⟨rfl, rfl⟩
      · exact .inl ⟨rfl, rfl⟩
      · exact .inr ⟨rfl, rfl⟩
theorem LkF.new {ws : List Wd} {W : Wd} {low kk : Nat} {w : Wd} (nd : ws.Nodup) (n : ∀ w ∈ ws, w ≠ []) (hk : ws[kk]? = some w) (h : Hit W low w) : ¬ LkF ws W low kk low (low + w.length) ∧ ¬ LkF ws W low kk (low + w.length) low := by
  have l0 : 0 < w.length := List.length_pos_iff.mpr (n w (List.mem_of_getElem? hk))
  have key : ∀ l k v, ws[k]? = some v → Hit W l v → (l < low ∨ (l = low ∧ k < kk)) → l = low → v.length = w.length → False := by
    rintro l k v h1 h2 c rfl e
    have e2 : v = w := by
      unfold Hit at h2 h
      rw [← h2, ← h, e]
    subst e2
    have lt : k < kk := by omega
    have := (List.getElem?_inj (List.getElem?_eq_some_iff.mp h1).1 nd).mp (h1.trans hk.symm)
    omega
  refine ⟨fun ⟨l, k, v, h1, h2, c, h3⟩ => ?_, fun ⟨l, k, v, h1, h2, c, h3⟩ => ?_⟩ <;>
  · have l1 : 0 < v.length := List.length_pos_iff.mpr (n v (List.mem_of_getElem? h1))
    exact key l k v h1 h2 c (by omega) (by omega)
/-- rows of links -/
structure LkI (rows : Nat → List Nat) (F : Nat → Nat → Prop) : Prop where
  mem : ∀ i j, j ∈ rows i ↔ F i j
  nd : ∀ i, (rows i).Nodup
def push (rows : Nat → List Nat) (a b : Nat) : Nat → List Nat := fun i => if i = a then rows i ++ [b] else rows i
theorem LkI.add {rows : Nat → List Nat} {F : Nat → Nat → Prop} {a b : Nat} (h : LkI rows F) (ne : a ≠ b) (n1 : ¬ F a b) (n2 : ¬ F b a) : LkI (push (push rows a b) b a) (addE F a b) := by
  have e : ∀ i, push (push rows a b) b a i = if i = a then rows i ++ [b] else if i = b then rows i ++ [a] else rows i := by
    intro i
    unfold push
    by_cases c : i = a
    · subst c; rw [if_neg ne, if_pos rfl, if_pos rfl]
    · simp only [if_neg c]
  refine ⟨fun i j => ?_, fun i => ?_⟩
  · rw [e]
    split
    · rename_i c
      subst c
      rw [List.mem_append, h.mem, List.mem_singleton]
      unfold addE
      constructor
      · rintro (z | z)
        · exact .inl z
        · exact .inr (.inl ⟨rfl, z⟩)
      · rintro (z | ⟨_, z⟩ | ⟨_, z⟩)
        · exact .inl z
        · exact .inr z
        · exact (ne z).elim
    · rename_i c
      split
      · rename_i d
        subst d
        rw [List.mem_append, h.mem, List.mem_singleton]
        unfold addE
        constructor
        · rintro (z | z)
          · exact .inl z
          · exact .inr (.inr ⟨z, rfl⟩)
        · rintro (z | ⟨z, _⟩ | ⟨z, _⟩)
          · exact .inl z
          · exact (c z).elim
          · exact .inr z
      · rename_i d
        rw [h.mem]
        unfold addE
        constructor
        · exact .inl
        · rintro (z | ⟨z, _⟩ | ⟨_, z⟩)
          · exact z
          · exact (c z).elim
          · exact (d z).elim
  · rw [e]
    have app : ∀ (l : List Nat) (x : Nat), l.Nodup → x ∉ l → (l ++ [x]).Nodup := by
      intro l x nl nx
      rw [List.nodup_append]
      refine ⟨nl, by simp, fun y hy z hz q => ?_⟩
      rw [List.mem_singleton] at hz
      subst hz; subst q
      exact nx hy
    split
    · rename_i c
      subst c
      exact app _ _ (h.nd _) fun z => n1 ((h.mem _ _).mp z)
    · split
      · rename_i c d
        subst d
        exact app _ _ (h.nd _) fun z => n2 ((h.mem _ _).mp z)
      · exact h.nd _
theorem LkI.iff {rows : Nat → List Nat} {F G : Nat → Nat → Prop} (h : LkI rows F) (e : ∀ i j, G i j ↔ F i j) : LkI rows G := ⟨fun i j => (h.mem i j).trans (e i j).symm, h.nd⟩
theorem LkI.zero {ws : List Wd} {W : Wd} : LkI (fun _ => []) (LkF ws W 0 0) := ⟨fun i j => ⟨fun z => (nomatch z), fun z => (LkF.zero z).elim⟩, fun _ => List.nodup_nil⟩
end WW
namespace WW
theorem nodup_len : ∀ (n : Nat) (l : List Nat), l.Nodup → (∀ x ∈ l, x < n) → l.length ≤ n
  | 0, l, _, h => by
    cases l with
    | nil => exact Nat.le_refl _
    | cons a r => exact absurd (h a (List.mem_cons_self ..)) (Nat.not_lt_zero _)
  | n + 1, l, nd, h => by
    by_cases m : n ∈ l
    · have e := List.length_erase_of_mem m
      have ih := nodup_len n (l.erase n) (nd.erase n) (fun x hx => by
        have := h x (List.mem_of_mem_erase hx)
        have : x ≠ n := fun z => by subst z; exact (nd.not_mem_erase hx)
        omega)
      omega
    · exact Nat.le_succ_of_le (nodup_len n l nd fun x hx => by
        have := h x hx
        have : x ≠ n := fun z => m (z ▸ hx)
        omega)
theorem LkF.le {ws : List Wd} {W : Wd} {low kk i j : Nat} (n : ∀ w ∈ ws, w ≠ []) (h : LkF ws W low kk i j) : i ≤ W.length ∧ j ≤ W.length := by
  obtain ⟨l, k, w, h1, h2, c, h3⟩ := h
  have := h2.bound (n w (List.mem_of_getElem? h1))
  omega
theorem LkI.len {rows : Nat → List Nat} {F : Nat → Nat → Prop} {n : Nat} (h : LkI rows F) (b : ∀ i j, F i j → j ≤ n) (i : Nat) : (rows i).length ≤ n + 1 :=
  nodup_len _ _ (h.nd i) fun x m => Nat.lt_succ_of_le (b _ _ ((h.mem i x).mp m))
theorem addE.le {F : Nat → Nat → Prop} {a b n : Nat} (h : ∀ i j, F i j → j ≤ n) (ha : a ≤ n) (hb : b ≤ n) (i j : Nat) (k : addE F a b i j) : j ≤ n := by
  rcases k with k | ⟨_, rfl⟩ | ⟨rfl, _⟩
  · exact h _ _ k
  · exact hb
  · exact ha
/-- ints sorted, as numbers -/
theorem sorted_nats {r : List Nat} {ns : List Int} (p : ns.Perm (r.map fun (j : Nat) => (j : Int))) (s : ns.Pairwise (· ≤ ·)) (nd : r.Nodup) : ∃ q : List Nat, ns = q.map (fun (j : Nat) => (j : Int)) ∧ (∀ x, x ∈ q ↔ x ∈ r) ∧ q.Pairwise (· < ·) := by
  refine ⟨ns.map Int.toNat, ?_, fun x => ?_, ?_⟩
  · rw [List.map_map]
    have : ∀ z ∈ ns, ((fun (j : Nat) => (j : Int)) ∘ Int.toNat) z = z := fun z m => by
      obtain ⟨j, _, rfl⟩ := List.mem_map.mp (p.mem_iff.mp m)
      simp
    rw [List.map_congr_left this, List.map_id']
  · rw [List.mem_map]
    constructor
    · rintro ⟨z, m, rfl⟩
      obtain ⟨j, mj, rfl⟩ := List.mem_map.mp (p.mem_iff.mp m)
      simpa using mj
    · intro m
      exact ⟨(x : Int), p.mem_iff.mpr (List.mem_map.mpr ⟨x, m, rfl⟩), by simp⟩
  · have nd' : ns.Nodup := p.nodup_iff.mpr (List.Pairwise.map _ (fun a b (h : a ≠ b) => (fun z => h (by omega) : (a : Int) ≠ (b : Int))) nd)
    rw [List.pairwise_map]
    have both := s.and nd'
    refine both.imp_of_mem ?_
    rintro a b ma mb ⟨h1, h2⟩
    obtain ⟨x, _, rfl⟩ := List.mem_map.mp (p.mem_iff.mp ma)
    obtain ⟨y, _, rfl⟩ := List.mem_map.mp (p.mem_iff.mp mb)
    simp at *
    omega
end WW

/-! ### texts as lists of letters -/
namespace WW
open PySem L2
/-- the text of these letters -/
def S (l : Wd) : Str := ⟨l.toArray⟩
theorem S_len (l : Wd) : (S l).length = l.length := by show l.toArray.size = _; simp
theorem S_cps (l : Wd) : (S l).cps.toList = l := rfl
theorem S_of (z : Str) : z = S z.cps.toList := by cases z; rfl
theorem S_inj {l m : Wd} : S l = S m ↔ l = m := by
  constructor
  · intro h
    have := congrArg (fun z : Str => z.cps.toList) h
    exact this
  · exact congrArg S
theorem S_app (l m : Wd) : S l ++ S m = S (l ++ m) := by
  show Str.mk _ = Str.mk _
  simp [S]
theorem take_all {α : Type} (l : List α) {n m : Nat} (h : l.length ≤ n) (k : l.length ≤ m) : l.take n = l.take m := by
  rw [List.take_of_length_le h, List.take_of_length_le k]
theorem cut_nat {α : Type} (l : List α) (a b : Nat) : (l.drop (min a l.length)).take (min b l.length - min a l.length) = (l.drop a).take (b - a) := by
  rcases Nat.le_total a l.length with ha | ha
  · have e : min a l.length = a := by omega
    rw [e]
    rcases Nat.le_total b l.length with hb | hb
    · have e : min b l.length = b := by omega
      rw [e]
    · exact take_all _ (by rw [List.length_drop]; omega) (by rw [List.length_drop]; omega)
  · have e : min a l.length = l.length := by omega
    rw [e, List.drop_of_length_le (Nat.le_refl l.length), List.drop_of_length_le ha]
    simp
theorem S_cut (l : Wd) (a b : Nat) : cutS (S l) (some (a : Int)) (some (b : Int)) = S (piece l a b) := by
  unfold cutS piece
  rw [S_len, HT.sIx_nat, HT.sIx_nat, S_cps, cut_nat]
  rfl
theorem S_cutLo (l : Wd) (a : Nat) : cutS (S l) (some (a : Int)) none = S (l.drop a) := by
  have e : cutS (S l) (some (a : Int)) none = cutS (S l) (some (a : Int)) (some ((l.length : Nat) : Int)) := by
    unfold cutS
    rw [S_len, HT.sIx_nat, HT.sIx_nat, HT.sIx_none, Nat.min_self]
  rw [e, S_cut]
  show S _ = S _
  congr 1
  exact List.take_of_length_le (by rw [List.length_drop]; omega)
theorem S_cutHi (l : Wd) (b : Nat) : cutS (S l) none (some (b : Int)) = S (l.take b) := by
  have e : cutS (S l) none (some (b : Int)) = cutS (S l) (some ((0 : Nat) : Int)) (some (b : Int)) := by
    unfold cutS
    have z : ∀ n : Nat, HT.sIx n 0 (some ((0 : Nat) : Int)) = 0 := fun n => by rw [HT.sIx_nat, Nat.zero_min]
    rw [z, HT.sIx_none]
  rw [e, S_cut]
  rfl
/-- a row of texts -/
def Ss (ws : List Wd) : List V := ws.map fun w => V.str (S w)
theorem Ss_get {ws : List Wd} {i : Nat} {x : V} (h : (Ss ws)[i]? = some x) : ∃ w, ws[i]? = some w ∧ x = .str (S w) := by
  unfold Ss at h
  rw [List.getElem?_map] at h
  cases e : ws[i]? with
  | none => rw [e] at h; cases h
  | some w => rw [e] at h; cases h; exact ⟨w, rfl, rfl⟩
theorem Ss_len (ws : List Wd) : (Ss ws).length = ws.length := List.length_map ..
def Lt (c : Nat) : Prop := 97 ≤ c ∧ c ≤ 122
instance {c : Nat} : Decidable (Lt c) := inferInstanceAs (Decidable (_ ∧ _))
/-- all of its signs are letters -/
def Lw (l : Wd) : Prop := ∀ c ∈ l, Lt c
theorem Lw.piece {l : Wd} (h : Lw l) (a b : Nat) : Lw (piece l a b) := fun c m => h c (List.mem_of_mem_drop (List.mem_of_mem_take m))
theorem Lw.drop {l : Wd} (h : Lw l) (a : Nat) : Lw (l.drop a) := fun c m => h c (List.mem_of_mem_drop m)
theorem Lw.take {l : Wd} (h : Lw l) (a : Nat) : Lw (l.take a) := fun c m => h c (List.mem_of_mem_take m)
theorem Lw.app {l m : Wd} (h : Lw l) (k : Lw m) : Lw (l ++ m) := fun c z => (List.mem_append.mp z).elim (h c) (k c)
theorem Lw.nil : Lw [] := fun _ m => nomatch m
theorem Lw.one {c : Nat} (h : Lt c) : Lw [c] := fun x m => by rw [List.mem_singleton.mp m]; exact h
def alpha : Str := "abcdefghijklmnopqrstuvwxyz"
theorem alpha_S : alpha = S (List.range' 97 26) := by decide +kernel
theorem alpha_in (c : Nat) : decide (c ∈ alpha.cps.toList) = decide (Lt c) := by
  rw [alpha_S, S_cps]
  rw [decide_eq_decide]
  unfold Lt
  rw [List.mem_range'_1]
  omega
theorem alpha_at {i : Nat} (h : i < 26) : (List.range' 97 26)[i]? = some (97 + i) := by
  rw [List.getElem?_range' h]; simp
end WW
/-! ### readings of texts -/
namespace RD
open PySem L2
section
variable {σ : L2.St} {H : Hp} {Q : VK} {K : PySem.W.Frag} {l m : WW.Wd} {a b : Nat} {i j : Int}
def rAddS : R2 := fun x y H Q => ∃ i j, x = .str i ∧ y = .str j ∧ i.length + j.length ≤ sizeLine ∧ Q (.str (i ++ j)) H
theorem o_addS {X : Cx} : OpR X (binaryOp .Add) rAddS := op_add_str
theorem d_addS (n : l.length + m.length ≤ sizeLine) (h : Q (.str (WW.S (l ++ m))) H) : rAddS (.str (WW.S l)) (.str (WW.S m)) H Q :=
  ⟨_, _, rfl, rfl, by rw [WW.S_len, WW.S_len]; exact n, by rw [WW.S_app]; exact h⟩
def rSign : R2 := fun x y H Q => ∃ (c : Nat) (z : Str), x = .str ⟨#[c]⟩ ∧ y = .str z ∧ Q (.bl (decide (c ∈ z.cps.toList))) H
theorem o_sign {X : Cx} : OpR X (compareOp .In) rSign := op_in_sign
theorem d_alpha {c : Nat} (h : Q (.bl (decide (WW.Lt c))) H) : rSign (.str ⟨#[c]⟩) (.str "abcdefghijklmnopqrstuvwxyz") H Q :=
  ⟨c, _, rfl, rfl, by rw [show decide (c ∈ (("abcdefghijklmnopqrstuvwxyz" : Str)).cps.toList) = decide (WW.Lt c) from WW.alpha_in c]; exact h⟩
theorem d_cutS {i j : Int} (hi : i = a) (hj : j = b) (n : l.length ≤ sizeLine) (h : Q (.str (WW.S (WW.piece l a b))) H) : rSlS (.str (WW.S l)) (some i) (some j) H Q := by
  subst hi hj
  exact ⟨_, rfl, by rw [WW.S_len]; exact n, by rw [WW.S_cut]; exact h⟩
theorem d_cutSLo {i : Int} (hi : i = a) (n : l.length ≤ sizeLine) (h : Q (.str (WW.S (l.drop a))) H) : rSlS (.str (WW.S l)) (some i) none H Q := by
  subst hi
  exact ⟨_, rfl, by rw [WW.S_len]; exact n, by rw [WW.S_cutLo]; exact h⟩
theorem d_cutSHi {i : Int} (hi : i = b) (n : l.length ≤ sizeLine) (h : Q (.str (WW.S (l.take b))) H) : rSlS (.str (WW.S l)) none (some i) H Q := by
  subst hi
  exact ⟨_, rfl, by rw [WW.S_len]; exact n, by rw [WW.S_cutHi]; exact h⟩
theorem d_lenW (n : l.length ≤ sizeLine) (h : Q (.int l.length) H) : rLen K [.str (WW.S l)] H Q := ⟨_, _, rfl, ⟨by rw [WW.S_len]; exact n, rfl⟩, by rw [WW.S_len]; exact h⟩
theorem d_ixS {i : Int} {c : Nat} (hi : i = a) (n : l.length ≤ sizeLine) (e : l[a]? = some c) (h : Q (.str (WW.S [c])) H) : rIxS (.str (WW.S l)) (.int i) H Q := by
  subst hi
  exact ⟨_, _, c, rfl, rfl, by rw [WW.S_len]; exact n, by rw [WW.S_cps]; exact atI_nat e, h⟩
theorem d_eqW (h : Q (.bl (decide (l = m))) H) : rEq (.str (WW.S l)) (.str (WW.S m)) H Q := ⟨rfl, by
  have e : decide (V.str (WW.S l) = V.str (WW.S m)) = decide (l = m) := by rw [decide_eq_decide]; exact ⟨fun z => WW.S_inj.mp (V.str.inj z), fun z => by rw [z]⟩
  rw [e]; exact h⟩
theorem d_neW (h : Q (.bl (!decide (l = m))) H) : rNe (.str (WW.S l)) (.str (WW.S m)) H Q := ⟨rfl, by
  have e : decide (V.str (WW.S l) = V.str (WW.S m)) = decide (l = m) := by rw [decide_eq_decide]; exact ⟨fun z => WW.S_inj.mp (V.str.inj z), fun z => by rw [z]⟩
  rw [e]; exact h⟩
end
end RD

/-! ### enumerate over a tuple -/
namespace OQ
open PySem L2 PySem.Spec PyProof.Rows
theorem meets_enumV {v : Value} {o : Obj} {B : Heap → Prop} (b : Begins v o B) :
    Meets (Builtin.«enumerate.__new__» ⟨[.type "enumerate", v], []⟩) (fun _ R z => B z.heap ∧
      R (.ok (.ret (.ref (z.heap.push o).objs.size))) { z with heap := (z.heap.push o).push { cls := .type "enumerate", data := .fields #[.none, .bool false, .ref z.heap.objs.size, rawInt 0, .none, .none] } }) :=
  .of_wp fun P W A R z q => by
    obtain ⟨hp, g, d, tk, os⟩ := z; obtain ⟨b0, q⟩ := q
    have know := sub_enumerate
    have begin_ : ∀ {A' : Around} {E Q : Value → Shared → Prop}, Q (.ref hp.objs.size) ⟨hp.push o, g, d, tk, os⟩ → wpAny (model P W) A' (pyIter v) Q E ⟨hp, g, d, tk, os⟩ :=
      fun r => b.iter P W _ _ ⟨hp, g, d, tk, os⟩ _ b0 r
    wp_walk using begin_
    refine wpAny_stack_any fun _ => wpAny_pure ?_
    split
    · rename_i c _ _ _ _ _
      cases (c == Value.type "enumerate") <;> (wp_walk using begin_; exact ⟨_, rfl, q⟩)
    · (wp_walk using begin_; exact ⟨_, rfl, q⟩)
theorem call_enumV {P : Program} {W : World} {A : Around} {E Q : Value → Shared → Prop} {z : Shared} {v : Value} {o : Obj} {B : Heap → Prop} (b : Begins v o B) (b0 : B z.heap)
    (q : ∀ h', IsEnum h' (z.heap.objs.size + 1) z.heap.objs.size 0 .none → h'.get? z.heap.objs.size = some o → (∀ c u, z.heap.get? c = some u → h'.get? c = some u) → Q (.ref (z.heap.objs.size + 1)) { z with heap := h' }) :
    wpAny (model P W) A (call (.type "enumerate") [v]) Q E z := by
  refine callType_new F.called_enumerate (by decide) (F.typeCall_enumerate_1 _) (F.newCall_enumerate_1 _) (fun _ => F.args_object_init_2 _ _) F.entry_enumerate_new (meets_enumV b) ⟨b0, ?_⟩
  have n1 : (z.heap.push o).objs.size = z.heap.objs.size + 1 := Heap.size_push ..
  have e1 := Heap.get?_push_size (z.heap.push o) (o := { cls := .type "enumerate", data := .fields #[.none, .bool false, .ref z.heap.objs.size, rawInt 0, .none, .none] }) rfl
  rw [n1] at e1
  show _ ∧ _
  rw [n1]
  exact ⟨⟨_, e1, rfl⟩, q _ e1 (Heap.get?_push_of_some _ (Heap.get?_push_size _ b.free)) fun c u x => Heap.get?_push_of_some _ (Heap.get?_push_of_some _ x)⟩
/-- the tuple at a, each item in a new pair behind its number -/
def IteT (K : PySem.W.Frag) (a : Addr) : It where
  go i H := ∃ xs x, SqT K H a xs ∧ xs[i]? = some x
  yld i H v H' := ∃ T x, v = .ref T ∧ H T = none ∧ H' = upd H T (.tup [.int (i : Nat), x]) ∧ ∀ xs, SqT K H a xs → xs[i]? = some x
  stop i H := ∃ xs, SqT K H a xs ∧ xs.length ≤ i
theorem two_mem {b e it : Addr} (h : b ∈ [e, it]) : b = e ∨ b = it := by simpa using h
theorem turn_enumT {P : Program} {w : World} {K : PySem.W.Frag} {elts : List Expr} {kk : Nat} {tpos : Pos} (a e it : Addr) :
    Turn P w K (.Tuple elts kk tpos) (IteT K a) [e, it] e (fun i h => (∃ old, IsEnum h e it ((i : Nat) : Int) old) ∧ h.IsTupleIter it a i ∧ e ≠ it) where
  mem := List.mem_cons_self ..
  obj := fun i h st b hb => by
    obtain ⟨⟨old, x1⟩, ⟨o, x2, _, x3⟩, _⟩ := st
    rcases two_mem hb with rfl | rfl
    · exact ⟨_, x1, fun _ z => nomatch z⟩
    · exact ⟨o, x2, fun _ z => by rw [x3] at z; cases z⟩
  keep := fun i h h' st k => ⟨st.1.imp fun _ y => k e (List.mem_cons_self ..) _ y, st.2.1.at fun o y => k it (by simp) o y, st.2.2⟩
  item := by
    intro X hP hw hK hc i pins s σ H E I hf st hg
    subst hP hw hK
    obtain ⟨⟨old, x1⟩, x2, ne⟩ := st
    obtain ⟨xs, x, sq, hx⟩ := hg
    obtain ⟨its, rv, pt, _⟩ := I.tuple sq
    obtain ⟨u, hu, ru⟩ := rv.get hx
    have pt' : s.heap.IsTuple a its.toArray := pt
    have na : a ≠ it := fun z => by
      subst z
      obtain ⟨o1, y1, c1, _⟩ := x2
      obtain ⟨o2, y2, c2, _⟩ := pt'
      rw [y1] at y2
      cases y2
      rw [c1] at c2
      simp at c2
    have le : e < s.heap.objs.size := Heap.lt_size x1
    have li : it < s.heap.objs.size := let ⟨_, y, _⟩ := x2; Heap.lt_size y
    have la : a < s.heap.objs.size := let ⟨_, y, _⟩ := pt'; Heap.lt_size y
    have nea : e ≠ a := fun z => by
      subst z
      obtain ⟨o2, y2, c2, _⟩ := pt'
      have y1 : s.heap.get? e = _ := x1
      rw [y1] at y2
      cases y2
      simp at c2
    have lt : i < its.toArray.size := by
      have := rv.length
      have := (List.getElem?_eq_some_iff.mp hx).1
      rw [List.size_toArray]; omega
    refine wpAny_pyNext_enum_itemD (Draws.tuple (A := X.A.in1) (show X.A.in1.handled = none from I.ok.hd hc) it a na its.toArray) x1 ⟨x2, pt'⟩ lt ne (by intro z; rcases two_mem z with z | z; exact ne z; exact nea z) fun y h1 tk hy out st1 hT _ hk => ?_
    have ey : y = u := by
      have : its.toArray[i]? = some u := by simpa using hu
      rw [this] at hy
      exact (Option.some.inj hy).symm
    subst ey
    refine ⟨_, rfl, wpAny_letOwnedTupleGo_enum (s := { s with heap := h1, toks := tk + 1 }) out fun h2 x3 sb => ?_⟩
    have hT2 := (sb.2 _ (Nat.ne_of_gt le)).trans hT
    have new : ObjOk X.prog X.w (upd H s.heap.objs.size (.tup [.int (i : Nat), x])) h2 s.heap.objs.size (.tup [.int (i : Nat), x]) :=
      ⟨by show 2 ≤ sizeLine; decide, [.int i tk, y], .cons ⟨_, rfl⟩ (.cons ru .nil), ⟨_, hT2, rfl, _, rfl⟩⟩
    have I2 : Inv X pins σ (upd H s.heap.objs.size (.tup [.int (i : Nat), x])) { s with heap := h2, toks := tk + 1 } :=
      I.turnedNew (ch := [e, it]) (fun b o nb q => (sb.2 b (fun z => nb (by simp [z]))).trans (hk b o (fun z => nb (by simp [z])) (fun z => nb (by simp [z])) q)) hf (Nat.le_refl _) new
    refine ⟨.ref s.heap.objs.size, _, I2, rfl, ⟨_, x, rfl, I.hok.fresh (Nat.le_refl _), rfl, fun ys hy => by rw [I.tuple_inj hy sq]; exact hx⟩, ⟨⟨y, ?_⟩, st1.1.at fun o q => (sb.2 it (Ne.symm ne)).trans q, ne⟩, fun b hb => ?_⟩
    · rw [Int.natCast_succ]; exact x3
    · have lb : b < s.heap.objs.size := (two_mem hb).elim (fun z => z ▸ le) (fun z => z ▸ li)
      rw [upd_ne (Nat.ne_of_lt lb)]
      exact (hf b hb).1
  done := by
    intro X hP hw hK hc i pins s σ H E I hf st hg
    subst hP hw hK
    obtain ⟨⟨old, x1⟩, x2, ne⟩ := st
    obtain ⟨xs, sq, lx⟩ := hg
    obtain ⟨its, rv, pt, _⟩ := I.tuple sq
    obtain ⟨f0, f1, f2, f3, f4, f5⟩ := hf it (by simp)
    have pt' : s.heap.IsTuple a its.toArray := pt
    have len := rv.length
    have hT : s.TypeIs (.ref e) "enumerate" := ⟨_, x1, rfl⟩
    unfold pyNext
    refine wpAny_bind (wpAny_attempt (wpAny_callSpecial?_slot (name := Str.ofString "__next__") hT F.slot_enumerate_next
      (wpAny_call_entry F.slot_enumerate_next hT F.entry_enumerate_next ?_ (F.args_enumerate_next_1 _))))
    show wpAny _ _ (field (.ref e) 2 >>= _) _ _ _
    refine wpAny_bind (wpAny_field x1 rfl (x := .ref it) rfl ?_)
    refine wpAny_bind (wpAny_nextOf_tuple_end (I.ok.hd hc) x2 pt' (by simp; omega) fun h' x he' hx' => ?_)
    obtain ⟨o, ho, c⟩ := hx'
    exact wpAny_bind (wpAny_isInstance (T := "StopIteration") (b := true) ⟨o, ho, c⟩ isSubtype_stop (wpAny_pure ⟨rfl, I.turned (t' := s.toks) (fun b u nb q => he' b u nb q) f0 f1 f3 f4 f5⟩))
  self := fun A i s Q E st h => let ⟨⟨_, x1⟩, _⟩ := st; wpAny_pyIter_enum x1 h
def iEnumT (K : PySem.W.Frag) (ta : TA) : TI := fun σ H R => ta σ H fun vs H1 => ∃ a xs, vs = [.ref a] ∧ SqT K H1 a xs ∧ R (IteT K a) H1
theorem pi_enumT {X : Cx} {arg : Expr} {ta : TA} {p q tp : Pos} {elts : List Expr} {kk : Nat} (hg : Gl X "enumerate") (hm : X.mg "enumerate" = none) (ha : PA X [arg] ta) (hs : starEach [arg] X.env = [(false, eval arg X.env)] := by rfl) :
    PI X (.Tuple elts kk tp) (.Call (.Name "enumerate" p) [arg] [] q) (iEnumT X.K ta) := by
  refine ⟨fun pins s σ H R I asked => Call_ (ld_blt I hg hm boot_enumerate (callWith_type1 (thn (ha.run q pins s σ H _ I asked) fun us s1 ⟨vs, H1, I1, rel, a, xs, evs, sq, go⟩ => ?_) hs rfl))⟩
  subst evs
  cases rel with
  | cons one rest =>
    cases rest
    cases one
    obtain ⟨its, rv, pt, _⟩ := I1.tuple sq
    have pt' : s1.heap.IsTuple a its.toArray := pt
    refine call_enumV (begins_tuple a its.toArray) pt' fun h' x1 x2 hk => wpAny_pyIter_enum x1 ?_
    refine ⟨s1.heap.objs.size + 1, [s1.heap.objs.size + 1, s1.heap.objs.size], _, _, H1, rfl, I1.kept (t' := s1.toks) hk, turn_enumT a (s1.heap.objs.size + 1) s1.heap.objs.size, ⟨⟨.none, x1⟩, ⟨_, x2, rfl, rfl⟩, Nat.succ_ne_self _⟩, fun b hb => ?_, go⟩
    have lb : s1.heap.objs.size ≤ b := by
      rcases two_mem hb with z | z
      · exact z ▸ Nat.le_succ _
      · exact z ▸ Nat.le_refl _
    exact I1.fpOk lb (I1.hok.fresh lb)
/-- enumerate of a list or of a tuple -/
theorem walk_enumT {K : PySem.W.Frag} {a : Addr} {xs : List V} : Walk (IteT K a) xs.length (fun H => SqT K H a xs) (YPair (fun i => some (.int (i : Nat))) (fun i => xs[i]?)) where
  goes i _ hi q := ⟨xs, xs[i], q, List.getElem?_eq_getElem hi⟩
  stops _ q := ⟨xs, q, Nat.le_refl _⟩
  yields i H v H' _ q y := let ⟨T, x, h1, h2, h3, h4⟩ := y; ⟨T, .int (i : Nat), x, h1, h2, h3, rfl, h4 xs q⟩
end OQ

/-! ### rows: lists or tuples -/
namespace OQ
open PySem L2 PySem.Spec PyProof.Rows
def SeqAt (K : PySem.W.Frag) (H : Hp) (a : Addr) (xs : List V) : Prop := SqL K H a xs ∨ SqT K H a xs
theorem sqT_same {K : PySem.W.Frag} {H H' : Hp} {a : Addr} {xs : List V} (h : SqT K H a xs) (e : Same H H') : SqT K H' a xs :=
  h.imp (fun h => h.imp (e _ _) fun ⟨o, h⟩ => ⟨o, e _ _ h⟩) id
theorem SeqAt.same {K : PySem.W.Frag} {H H' : Hp} {a : Addr} {xs : List V} (h : SeqAt K H a xs) (e : Same H H') : SeqAt K H' a xs :=
  h.imp e.seq fun h => sqT_same h e
theorem SeqAt.len {K : PySem.W.Frag} {H : Hp} {a : Addr} {xs : List V} {Q : VK} (h : SeqAt K H a xs) (k : Q (.int xs.length) H) : RD.rLen K [.ref a] H Q :=
  h.elim (fun h => RD.d_lenL h k) fun h => RD.d_lenT h k
/-- the one way of walking or the other -/
def iOr (u w : TI) : TI := fun σ H R => u σ H R ∨ w σ H R
theorem pi_or {X : Cx} {tg e : Expr} {u w : TI} (h : PI X tg e u) (k : PI X tg e w) : PI X tg e (iOr u w) :=
  ⟨fun pins s σ H R I z => z.elim (h.run pins s σ H R I) (k.run pins s σ H R I)⟩
theorem pi_seq {X : Cx} {tg e : Expr} {te : TE} (he : PE X e te) : PI X tg e (iOr (iList X.K te) (iTup X.K te)) := pi_or (pi_list he) (pi_tup he)
theorem d_seqVar {K : PySem.W.Frag} {σ : L2.St} {H : Hp} {R : It → Hp → Prop} {n : Nat} {a : Addr} {xs : List V} (e : σ[n]? = some (some (.ref a))) (h : SeqAt K H a xs)
    (k : ∀ J G, Walk J xs.length G (YAt xs) → (∀ H', Same H H' → G H') → R J H) : iOr (iList K (tVar n)) (iTup K (tVar n)) σ H R := by
  rcases h with h | h
  · exact .inl ⟨_, e, a, rfl, ⟨xs, h⟩, k _ _ walk_list fun H' s => s.seq h⟩
  · exact .inr ⟨_, e, a, rfl, ⟨xs, h⟩, k _ _ walk_tup fun H' s => sqT_same h s⟩
theorem d_enumVar {K : PySem.W.Frag} {σ : L2.St} {H : Hp} {R : It → Hp → Prop} {n : Nat} {a : Addr} {xs : List V} (e : σ[n]? = some (some (.ref a))) (h : SeqAt K H a xs)
    (k : ∀ J G, Walk J xs.length G (YPair (fun i => some (.int (i : Nat))) (fun i => xs[i]?)) → (∀ H', Same H H' → G H') → R J H) :
    iOr (iEnum K (tCons (tVar n) tNil)) (iEnumT K (tCons (tVar n) tNil)) σ H R := by
  rcases h with h | h
  · exact .inl ⟨_, e, a, xs, rfl, h, k _ _ walk_enum fun H' s => s.seq h⟩
  · exact .inr ⟨_, e, a, xs, rfl, h, k _ _ walk_enumT fun H' s => sqT_same h s⟩
theorem eqV_str {z y : Str} : eqV (.str z) (.str y) = (z == y) := rfl
theorem inV_Ss (w : WW.Wd) (ws : List WW.Wd) : inV (.str (WW.S w)) (WW.Ss ws) = decide (w ∈ ws) := by
  unfold inV WW.Ss
  rw [Bool.eq_iff_iff]
  simp only [List.any_map, List.any_eq_true, Function.comp, decide_eq_true_eq, eqV_str, beq_iff_eq, WW.S_inj]
  constructor
  · rintro ⟨x, m, rfl⟩; exact m
  · intro m; exact ⟨w, m, rfl⟩
theorem flat_Ss (ws : List WW.Wd) : (WW.Ss ws).all flatV = true := by
  unfold WW.Ss
  rw [List.all_map]
  exact List.all_eq_true.mpr fun _ _ => rfl
theorem d_inSs {K : PySem.W.Frag} {H : Hp} {Q : VK} {a : Addr} {w : WW.Wd} {ws : List WW.Wd} (h : SeqAt K H a (WW.Ss ws)) (k : Q (.bl (decide (w ∈ ws))) H) : rIn K false (.str (WW.S w)) (.ref a) H Q :=
  ⟨a, _, rfl, h, rfl, flat_Ss ws, by rw [inV_Ss]; exact k⟩
theorem d_notInSs {K : PySem.W.Frag} {H : Hp} {Q : VK} {a : Addr} {w : WW.Wd} {ws : List WW.Wd} (h : SeqAt K H a (WW.Ss ws)) (k : Q (.bl (!decide (w ∈ ws))) H) : rIn K true (.str (WW.S w)) (.ref a) H Q :=
  ⟨a, _, rfl, h, rfl, flat_Ss ws, by rw [inV_Ss]; exact k⟩
end OQ
namespace OQ
open PySem L2 PySem.Spec PyProof.Rows
theorem sortK {X : Cx} (K : PySem.W.Frag) (h : X.K = K := by rfl) : CallR X (.builtin "sorted") (rSortedI K) := h ▸ cr_sortedI
theorem lenK {X : Cx} (K : PySem.W.Frag) (h : X.K = K := by rfl) : CallR X (.builtin "len") (RD.rLen K) := h ▸ RD.c_len
theorem inK {X : Cx} (K : PySem.W.Frag) (h : X.K = K := by rfl) : OpR X (compareOp .In) (rIn K false) := h ▸ op_in_seq
theorem notInK {X : Cx} (K : PySem.W.Frag) (h : X.K = K := by rfl) : OpR X (compareOp .NotIn) (rIn K true) := h ▸ op_notIn_seq
end OQ

/-! ### any for, step by step -/
namespace RD
open PySem L2
theorem f_it {J : It} {n : Nat} {G : Hp → Prop} {Y : Nat → Hp → V → Hp → Prop} {σ : L2.St} {H : Hp} {g : TG} {tb : TS} {nx : L2.St → Hp → Prop} {rt : VK} (w : Walk J n G Y) (Pv : Nat → L2.St → Hp → Prop) (h0 : Pv 0 σ H) (hG : ∀ i σ H, i ≤ n → Pv i σ H → G H)
    (hs : ∀ i x σ H H', i < n → Pv i σ H → Y i H x H' → g x σ H' fun σ2 H2 => tb ⟨Pv (i + 1), rt, nx, Pv (i + 1)⟩ σ2 H2) (hd : ∀ σ H, Pv n σ H → nx σ H) :
    ∃ W : Nat → Nat → L2.St → Hp → Prop, (∃ m, W 0 m σ H) ∧ ∀ i m σ H, W i m σ H → (J.stop i H ∧ nx σ H) ∨ (J.go i H ∧ ∃ N : L2.St → Hp → Prop, (∀ σ' H', N σ' H' → ∃ m', m' < m ∧ W (i + 1) m' σ' H') ∧
      ∀ x H', J.yld i H x H' → g x σ H' fun σ2 H2 => tb ⟨N, rt, nx, N⟩ σ2 H2) := for_it (D := ⟨nx, rt, fun _ _ => False, fun _ _ => False⟩) w Pv h0 hG hs hd
/-- a pair taken apart by two names -/
theorem d_two {K : PySem.W.Frag} {n i j : Nat} {a : Addr} {x y : V} {σ : L2.St} {H : Hp} {R : L2.St → Hp → Prop} (en : n = 2) (e : SqT K H a [x, y]) (k : R ((σ.set i (some x)).set j (some y)) H) :
    gTup K n (gCons (gName i) (gCons (gName j) gNil)) (.ref a) σ H R := ⟨a, [x, y], rfl, e, en.symm, x, [y], rfl, y, [], rfl, rfl, k⟩
end RD
namespace OQ
open PySem L2
theorem d_tupSeq {K : PySem.W.Frag} {H : Hp} {a : Addr} {xs : List V} {Q : VK} (h : SeqAt K H a xs) (k : ∀ H' t, Same H H' → SqT K H' t xs → Q (.ref t) H') : rTupK K [.ref a] H Q := by
  rcases h with h | h
  · exact ⟨a, xs, rfl, .inl ⟨h, fun l hl => k _ l (fun b u e => by rw [upd_ne (ne_of_none e hl)]; exact e) (SqT.of upd_same)⟩⟩
  · exact ⟨a, xs, rfl, .inr ⟨h, k _ a (Same.refl _) h⟩⟩
end OQ
namespace RD
open PySem L2
theorem d_bm {K : PySem.W.Frag} {T : String} {r : V → List V → Hp → VK → Prop} {to : TE} {t : TA} {σ : L2.St} {H : Hp} {Q : VK} (h : to σ H fun x H1 => tyV K T x H1 ∧ t σ H1 fun xs H2 => r x xs H2 Q) : tBM K T r to t σ H Q := h
theorem tyL {K : PySem.W.Frag} {H : Hp} {p : Addr} {xs : List V} (e : H p = some (.lst xs)) : tyV K "list" (.ref p) H := .inl ⟨rfl, xs, SqL.of e⟩
theorem d_app {H : Hp} {Q : VK} {p : Addr} {xs : List V} {y : V} (e : H p = some (.lst xs)) (n : xs.length < sizeLine) (h : Q .non (upd H p (.lst (xs ++ [y])))) : rAppend (.ref p) [y] H Q := ⟨p, xs, y, rfl, rfl, e, n, h⟩
end RD
namespace WW
open PySem L2
def Ns (r : List Nat) : List V := r.map fun (j : Nat) => V.int j
theorem Ns_len (r : List Nat) : (Ns r).length = r.length := List.length_map ..
theorem Ns_app (r : List Nat) (j : Nat) : Ns r ++ [V.int j] = Ns (r ++ [j]) := by unfold Ns; rw [List.map_append]; rfl
theorem Ns_get {r : List Nat} {i : Nat} {x : V} (h : (Ns r)[i]? = some x) : ∃ j, r[i]? = some j ∧ x = .int (j : Nat) := by
  unfold Ns at h
  rw [List.getElem?_map] at h
  cases e : r[i]? with
  | none => rw [e] at h; cases h
  | some w => rw [e] at h; cases h; exact ⟨w, rfl, rfl⟩
end WW
namespace RD
open PySem L2
theorem d_dput {td ty tv : TE} {σ : L2.St} {H : Hp} {nx bk ct : L2.St → Hp → Prop} {rt : VK} (h : tv σ H fun v H1 => td σ H1 fun x H2 => ty σ H2 fun y H3 => ∃ a H4, x = .ref a ∧ DPut H3 a y v H4 ∧ nx σ H4) : sDPut td ty tv ⟨nx, rt, bk, ct⟩ σ H := h
theorem d_dget {td ty : TE} {σ : L2.St} {H : Hp} {Q : VK} (h : td σ H fun x H1 => ty σ H1 fun y H2 => ∃ a v, x = .ref a ∧ DGet H2 a y (some v) ∧ Q v H2) : tDGet td ty σ H Q := h
end RD
namespace RD
open PySem L2
theorem d_din {ty td : TE} {σ : L2.St} {H : Hp} {Q : VK} (h : ty σ H fun y H1 => td σ H1 fun x H2 => ∃ a o, x = .ref a ∧ DGet H2 a y o ∧ Q (.bl o.isSome) H2) : tDIn ty td σ H Q := h
theorem d_dnotin {ty td : TE} {σ : L2.St} {H : Hp} {Q : VK} (h : ty σ H fun y H1 => td σ H1 fun x H2 => ∃ a o, x = .ref a ∧ DGet H2 a y o ∧ Q (.bl (!o.isSome)) H2) : tDNotIn ty td σ H Q := h
end RD
namespace RD
open PySem L2
theorem d_break {nx bk ct : L2.St → Hp → Prop} {rt : VK} {σ : L2.St} {H : Hp} (h : bk σ H) : tBreak ⟨nx, rt, bk, ct⟩ σ H := h
end RD
namespace WW
open PySem L2
theorem Ss_app (ws : List Wd) (w : Wd) : Ss ws ++ [V.str (S w)] = Ss (ws ++ [w]) := by unfold Ss; rw [List.map_append]; rfl
theorem nodup_snoc {α : Type} {l : List α} {x : α} (h : l.Nodup) (n : x ∉ l) : (l ++ [x]).Nodup := by
  rw [List.nodup_append]
  refine ⟨h, by simp, fun a ha b hb q => ?_⟩
  rw [List.mem_singleton] at hb
  subst hb; subst q
  exact n ha
end WW
namespace RD
open PySem L2
theorem d_lstRg {ta : TE} {σ : L2.St} {H : Hp} {Q : VK} (h : ta σ H fun x H1 => ∃ n, x = .int n ∧ RgOk 0 n ∧ ∀ q, H1 q = none → Q (.ref q) (upd H1 q (.lst (rgV 0 n)))) : tLstRg (tRg1 ta) σ H Q := h
end RD

/-! ### breadth first -/
namespace WW
open PySem L2
def Dk (ps : List (Nat × Nat)) : List (Key × V) := ps.map fun p => (Sum.inl (p.1 : Int), V.int p.2)
def look (ps : List (Nat × Nat)) (v : Nat) : Option Nat := (ps.find? fun p => p.1 == v).map (·.2)
theorem valV_Dk (ps : List (Nat × Nat)) (v : Nat) : valV (Dk ps) (Sum.inl (v : Int)) = (look ps v).map fun (d : Nat) => V.int d := by
  induction ps with
  | nil => rfl
  | cons p ps ih =>
    unfold Dk look at *
    rw [List.map_cons, List.find?_cons]
    by_cases c : p.1 = v
    · rw [valV_pos (by rw [c])]
      simp [c]
    · rw [valV_neg (fun z => c (by have := Sum.inl.inj z; omega)), ih]
      have e : (p.1 == v) = false := by simpa using c
      rw [e]
theorem look_none {ps : List (Nat × Nat)} {v : Nat} : look ps v = none ↔ v ∉ ps.map (·.1) := by
  unfold look
  rw [Option.map_eq_none_iff, List.find?_eq_none, List.mem_map]
  constructor
  · rintro h ⟨p, m, e⟩
    exact h p m (by simpa using e)
  · intro h p m e
    exact h ⟨p, m, by simpa using e⟩
theorem look_snoc {ps : List (Nat × Nat)} {v r : Nat} (h : look ps v = none) (w : Nat) : look (ps ++ [(v, r)]) w = if w = v then some r else look ps w := by
  by_cases c : w = v
  · subst c
    rw [if_pos rfl]
    unfold look at *
    rw [List.find?_append]
    rw [Option.map_eq_none_iff] at h
    simp [h]
  · rw [if_neg c]
    unfold look
    rw [List.find?_append]
    have : ((v, r) :: []).find? (fun p : Nat × Nat => p.1 == w) = none := by simp; exact fun z => c z.symm
    rw [this]
    simp
theorem Dk_put {ps : List (Nat × Nat)} {v r : Nat} (h : look ps v = none) : putK (Dk ps) (Sum.inl (v : Int)) (.int r) = Dk (ps ++ [(v, r)]) := by
  rw [putK_new]
  · unfold Dk; rw [List.map_append]; rfl
  · rw [valV_Dk, h]; rfl
/-- what is found while the ring of those r steps away is gone through: Sn was seen -/
structure Bf (E : Nat → Nat → Prop) (g n r : Nat) (ps : List (Nat × Nat)) (far : List Nat) (Sn : Nat → Prop) : Prop where
  st : ∀ v d, look ps v = some d ↔ (Ds E g d v ∧ d ≤ r) ∨ (d = r + 1 ∧ Ds E g (r + 1) v ∧ Sn v)
  far : ∀ v, v ∈ far ↔ Ds E g (r + 1) v ∧ Sn v
  nd : (ps.map (·.1)).Nodup
  lt : ∀ p ∈ ps, p.1 < n
theorem Bf.iff {E : Nat → Nat → Prop} {g n r : Nat} {ps : List (Nat × Nat)} {far : List Nat} {Sn Sm : Nat → Prop} (h : Bf E g n r ps far Sn) (e : ∀ v, Sm v ↔ Sn v) : Bf E g n r ps far Sm :=
  ⟨fun v d => by rw [h.st, e], fun v => by rw [h.far, e], h.nd, h.lt⟩
theorem Bf.len {E : Nat → Nat → Prop} {g n r : Nat} {ps : List (Nat × Nat)} {far : List Nat} {Sn : Nat → Prop} (h : Bf E g n r ps far Sn) : ps.length ≤ n := by
  have := nodup_len n _ h.nd (fun x m => by obtain ⟨p, mp, rfl⟩ := List.mem_map.mp m; exact h.lt p mp)
  rwa [List.length_map] at this
theorem Bf.here {E : Nat → Nat → Prop} {g n r : Nat} {ps : List (Nat × Nat)} {far : List Nat} {Sn : Nat → Prop} (h : Bf E g n r ps far Sn) {u : Nat} (hu : Ds E g r u) : look ps u = some r := (h.st u r).mpr (.inl ⟨hu, Nat.le_refl _⟩)
theorem Bf.old {E : Nat → Nat → Prop} {g n r : Nat} {ps : List (Nat × Nat)} {far : List Nat} {Sn : Nat → Prop} (h : Bf E g n r ps far Sn) {v : Nat} (hv : look ps v ≠ none) : Bf E g n r ps far (fun w => Sn w ∨ w = v) := by
  have key : Ds E g (r + 1) v → Sn v := fun k => by
    cases e : look ps v with
    | none => exact absurd e hv
    | some d =>
      rcases (h.st v d).mp e with ⟨k2, le⟩ | ⟨_, _, s⟩
      · have := k.uniq k2; omega
      · exact s
  have same : ∀ w, (Ds E g (r + 1) w ∧ (Sn w ∨ w = v)) ↔ (Ds E g (r + 1) w ∧ Sn w) := fun w => by
    constructor
    · rintro ⟨a, b | rfl⟩
      · exact ⟨a, b⟩
      · exact ⟨a, key a⟩
    · rintro ⟨a, b⟩; exact ⟨a, .inl b⟩
  exact ⟨fun w d => by rw [h.st, same], fun w => by rw [h.far, same], h.nd, h.lt⟩
theorem Bf.new {E : Nat → Nat → Prop} {g n r : Nat} {ps : List (Nat × Nat)} {far : List Nat} {Sn : Nat → Prop} (h : Bf E g n r ps far Sn) {u v : Nat} (hu : Ds E g r u) (e : E u v) (hn : v < n) (hv : look ps v = none) : Bf E g n r (ps ++ [(v, r + 1)]) (far ++ [v]) (fun w => Sn w ∨ w = v) := by
  have dv : Ds E g (r + 1) v := by
    rcases hu.step e with k | ⟨s, hs, k⟩
    · exact k
    · have := (h.st v s).mpr (.inl ⟨k, hs⟩)
      rw [hv] at this; cases this
  refine ⟨fun w d => ?_, fun w => ?_, ?_, ?_⟩
  · rw [look_snoc hv]
    by_cases c : w = v
    · subst c
      rw [if_pos rfl]
      constructor
      · intro z; cases z; exact .inr ⟨rfl, dv, .inr rfl⟩
      · rintro (⟨k, le⟩ | ⟨rfl, _, _⟩)
        · have := k.uniq dv; omega
        · rfl
    · rw [if_neg c, h.st]
      constructor
      · rintro (k | ⟨a, b, s⟩)
        · exact .inl k
        · exact .inr ⟨a, b, .inl s⟩
      · rintro (k | ⟨a, b, s | s⟩)
        · exact .inl k
        · exact .inr ⟨a, b, s⟩
        · exact (c s).elim
  · rw [List.mem_append, h.far, List.mem_singleton]
    constructor
    · rintro (⟨a, s⟩ | rfl)
      · exact ⟨a, .inl s⟩
      · exact ⟨dv, .inr rfl⟩
    · rintro ⟨a, s | s⟩
      · exact .inl ⟨a, s⟩
      · exact .inr s
  · rw [List.map_append, List.nodup_append]
    refine ⟨h.nd, by simp, fun a ha b hb q => ?_⟩
    simp at hb
    subst hb; subst q
    exact (look_none.mp hv) ha
  · intro p m
    rcases List.mem_append.mp m with m | m
    · exact h.lt p m
    · rw [List.mem_singleton.mp m]; exact hn
/-- between the rounds -/
structure Bo (E : Nat → Nat → Prop) (g n r : Nat) (ps : List (Nat × Nat)) (ring : List Nat) : Prop where
  st : ∀ v d, look ps v = some d ↔ Ds E g d v ∧ d ≤ r
  ring : ∀ v, v ∈ ring ↔ Ds E g r v
  nd : (ps.map (·.1)).Nodup
  lt : ∀ p ∈ ps, p.1 < n
theorem Bo.zero {E : Nat → Nat → Prop} {g n : Nat} (hg : g < n) : Bo E g n 0 [(g, 0)] [g] := by
  have z : ∀ v, Ds E g 0 v ↔ v = g := fun v => ⟨fun h => h.1, fun h => ⟨h, fun _ k => absurd k (Nat.not_lt_zero _)⟩⟩
  refine ⟨fun v d => ?_, fun v => by rw [z, List.mem_singleton], by simp, by simp; exact hg⟩
  unfold look
  by_cases c : g = v
  · subst c
    simp
    constructor
    · rintro rfl; exact ⟨(z _).mpr rfl, rfl⟩
    · rintro ⟨_, h⟩; exact h.symm
  · simp [c]
    intro k
    intro q
    subst q
    exact c ((z _).mp k).symm
theorem Bo.begin {E : Nat → Nat → Prop} {g n r : Nat} {ps : List (Nat × Nat)} {ring : List Nat} (h : Bo E g n r ps ring) : Bf E g n r ps [] (fun _ => False) :=
  ⟨fun v d => by rw [h.st]; simp, fun v => by simp, h.nd, h.lt⟩
theorem Bf.done {E : Nat → Nat → Prop} {g n r : Nat} {ps : List (Nat × Nat)} {ring far : List Nat} {Sn : Nat → Prop} (h : Bf E g n r ps far Sn) (hr : ∀ v, v ∈ ring ↔ Ds E g r v) (hs : ∀ u v, u ∈ ring → E u v → Sn v) : Bo E g n (r + 1) ps far := by
  have se : ∀ v, Ds E g (r + 1) v → Sn v := fun v k => by
    obtain ⟨u, ku, e⟩ := k.back
    exact hs u v ((hr u).mpr ku) e
  refine ⟨fun v d => ?_, fun v => ?_, h.nd, h.lt⟩
  · rw [h.st]
    constructor
    · rintro (⟨k, le⟩ | ⟨rfl, k, _⟩)
      · exact ⟨k, by omega⟩
      · exact ⟨k, Nat.le_refl _⟩
    · rintro ⟨k, le⟩
      by_cases c : d ≤ r
      · exact .inl ⟨k, c⟩
      · have : d = r + 1 := by omega
        subst this
        exact .inr ⟨rfl, k, se v k⟩
  · rw [h.far]
    exact ⟨fun k => k.1, fun k => ⟨k, se v k⟩⟩
theorem Bo.end_ {E : Nat → Nat → Prop} {g n r : Nat} {ps : List (Nat × Nat)} (h : Bo E g n r ps []) (v d : Nat) : look ps v = some d ↔ Ds E g d v := by
  rw [h.st]
  refine ⟨fun k => k.1, fun k => ⟨k, ?_⟩⟩
  by_cases c : d ≤ r
  · exact c
  · obtain ⟨u, ku⟩ := k.down r (by omega)
    exact nomatch (h.ring u).mpr ku
end WW

/-! ### the law's marks -/
namespace WW
open PySem L2
def Ms (n : Nat) (m : Nat → Int) : List V := (List.range n).map fun i => V.int (m i)
theorem Ms_len (n : Nat) (m : Nat → Int) : (Ms n m).length = n := by unfold Ms; rw [List.length_map, List.length_range]
theorem Ms_get {n i : Nat} (m : Nat → Int) (h : i < n) : (Ms n m)[i]? = some (.int (m i)) := by unfold Ms; rw [List.getElem?_map, List.getElem?_range h]; rfl
theorem Ms_set {n i : Nat} (m : Nat → Int) (v : Int) : (Ms n m).set i (.int v) = Ms n (fun j => if j = i then v else m j) := by
  apply List.ext_getElem?
  intro j
  by_cases hj : j < n
  · rw [Ms_get _ hj, List.getElem?_set]
    by_cases c : i = j
    · subst c
      rw [if_pos rfl, Ms_len, if_pos hj, if_pos rfl]
    · rw [if_neg c, if_neg (fun z => c z.symm), Ms_get _ hj]
  · rw [List.getElem?_eq_none (by rw [List.length_set, Ms_len]; omega), List.getElem?_eq_none (by rw [Ms_len]; omega)]
theorem rgV_Ms (n : Nat) : rgV 0 (n : Int) = Ms n (fun i => (i : Int)) := by
  unfold rgV Ms
  rw [show ((n : Int) - 0).toNat = n from by omega]
  refine List.map_congr_left fun i _ => ?_
  rw [Int.zero_add]
/-- the links ahead of spot sp of the watch kk -/
def MkF (ws : List Wd) (W : Wd) (kk sp : Nat) (i j : Nat) : Prop := ∃ l k w, ws[k]? = some w ∧ Hit W l w ∧ (k < kk ∨ (k = kk ∧ l < sp)) ∧ ((i = l ∧ j = l + w.length) ∨ (j = l ∧ i = l + w.length))
theorem MkF.zero {ws : List Wd} {W : Wd} {i j : Nat} : ¬ MkF ws W 0 0 i j := by
  rintro ⟨l, k, w, _, _, c, _⟩
  omega
theorem MkF.next {ws : List Wd} {W w : Wd} {kk sp i j : Nat} (hk : ws[kk]? = some w) (n : w ≠ []) (hs : W.length < sp + w.length) : MkF ws W kk sp i j ↔ MkF ws W (kk + 1) 0 i j := by
  refine ⟨fun ⟨l, k, v, h1, h2, c, h3⟩ => ⟨l, k, v, h1, h2, by omega, h3⟩, fun ⟨l, k, v, h1, h2, c, h3⟩ => ⟨l, k, v, h1, h2, ?_, h3⟩⟩
  by_cases e : k = kk
  · subst e
    rw [hk] at h1; cases h1
    have := h2.bound n
    omega
  · omega
theorem MkF.all {ws : List Wd} {W : Wd} {i j : Nat} : MkF ws W ws.length 0 i j ↔ Link ws W i j := by
  constructor
  · rintro ⟨l, k, w, h1, h2, c, h3⟩
    refine ⟨w, List.mem_of_getElem? h1, ?_⟩
    rcases h3 with ⟨rfl, e⟩ | ⟨rfl, e⟩
    · exact .inl ⟨h2, e⟩
    · exact .inr ⟨h2, e⟩
  · rintro ⟨w, m, h⟩
    obtain ⟨k, hk⟩ := List.getElem?_of_mem m
    have := (List.getElem?_eq_some_iff.mp hk).1
    rcases h with ⟨h, e⟩ | ⟨h, e⟩
    · exact ⟨i, k, w, hk, h, by omega, .inl ⟨rfl, e⟩⟩
    · exact ⟨j, k, w, hk, h, by omega, .inr ⟨rfl, e⟩⟩
theorem MkF.miss {ws : List Wd} {W : Wd} {kk sp : Nat} {w : Wd} (hk : ws[kk]? = some w) (h : ¬ Hit W sp w) (i j : Nat) : MkF ws W kk (sp + 1) i j ↔ MkF ws W kk sp i j := by
  refine ⟨fun ⟨l, k, v, h1, h2, c, h3⟩ => ⟨l, k, v, h1, h2, ?_, h3⟩, fun ⟨l, k, v, h1, h2, c, h3⟩ => ⟨l, k, v, h1, h2, by omega, h3⟩⟩
  rcases c with c | ⟨rfl, c⟩
  · exact .inl c
  · by_cases e : l = sp
    · subst e
      rw [hk] at h1
      cases h1
      exact (h h2).elim
    · exact .inr ⟨rfl, by omega⟩
theorem MkF.hit {ws : List Wd} {W : Wd} {kk sp : Nat} {w : Wd} (hk : ws[kk]? = some w) (h : Hit W sp w) (i j : Nat) : MkF ws W kk (sp + 1) i j ↔ addE (MkF ws W kk sp) sp (sp + w.length) i j := by
  constructor
  · rintro ⟨l, k, v, h1, h2, c, h3⟩
    by_cases e : l = sp ∧ k = kk
    · obtain ⟨rfl, rfl⟩ := e
      rw [hk] at h1
      cases h1
      rcases h3 with ⟨rfl, rfl⟩ | ⟨rfl, rfl⟩
      · exact .inr (.inl ⟨rfl, rfl⟩)
      · exact .inr (.inr ⟨rfl, rfl⟩)
    · exact .inl ⟨l, k, v, h1, h2, by omega, h3⟩
  · rintro (⟨l, k, v, h1, h2, c, h3⟩ | h3)
    · exact ⟨l, k, v, h1, h2, by omega, h3⟩
    · refine ⟨sp, kk, w, hk, h, by omega, ?_⟩
      rcases h3 with ⟨rfl, rfl⟩ | ⟨rfl, rfl⟩
      · exact .inl ⟨rfl, rfl⟩
      · exact .inr ⟨rfl, rfl⟩
theorem Cls.iff {m : Nat → Int} {n : Nat} {F G : Nat → Nat → Prop} (h : Cls m n F) (e : ∀ i j, G i j ↔ F i j) : Cls m n G :=
  ⟨fun i j hi hj z => (h.snd i j hi hj z).mono fun u v k => (e u v).mpr k, fun i j z => h.cmp i j ((e i j).mp z)⟩
theorem Cls.zero {ws : List Wd} {W : Wd} {n : Nat} : Cls (fun i => (i : Int)) n (MkF ws W 0 0) :=
  ⟨fun i j _ _ z => by have : i = j := by omega
                       subst this; exact .refl, fun i j z => (MkF.zero z).elim⟩
/-- marks of the first at spots set anew -/
def relabTo (m : Nat → Int) (a b at_ : Nat) : Nat → Int := fun i => if i < at_ ∧ m i = m b then m a else m i
theorem relabTo_zero (m : Nat → Int) (a b : Nat) : relabTo m a b 0 = m := by funext i; unfold relabTo; rw [if_neg (by omega)]
theorem relabTo_a {m : Nat → Int} {a b t : Nat} : relabTo m a b t a = m a := by unfold relabTo; split <;> rfl
theorem relabTo_at {m : Nat → Int} {a b t : Nat} : relabTo m a b t t = m t := by unfold relabTo; rw [if_neg (by omega)]
theorem relabTo_hit {m : Nat → Int} {a b t : Nat} (h : m t = m b) : (fun j => if j = t then m a else relabTo m a b t j) = relabTo m a b (t + 1) := by
  funext j
  unfold relabTo
  by_cases c : j = t
  · subst c; rw [if_pos rfl, if_pos ⟨by omega, h⟩]
  · rw [if_neg c]
    by_cases d : j < t ∧ m j = m b
    · rw [if_pos d, if_pos ⟨by omega, d.2⟩]
    · rw [if_neg d, if_neg (fun z => d ⟨by omega, z.2⟩)]
theorem relabTo_miss {m : Nat → Int} {a b t : Nat} (h : m t ≠ m b) : relabTo m a b (t + 1) = relabTo m a b t := by
  funext j
  unfold relabTo
  by_cases d : j < t ∧ m j = m b
  · rw [if_pos d, if_pos ⟨by omega, d.2⟩]
  · rw [if_neg d, if_neg (fun z => d ⟨by
      rcases Nat.lt_or_ge j t with q | q
      · exact q
      · have : j = t := by omega
        subst this; exact (h z.2).elim, z.2⟩)]
theorem Ms_congr {n : Nat} {m m' : Nat → Int} (h : ∀ i, i < n → m i = m' i) : Ms n m = Ms n m' := by
  unfold Ms
  exact List.map_congr_left fun i hi => by rw [h i (List.mem_range.mp hi)]
end WW

/-! ### rows of texts, compared -/
namespace OQ
open PySem L2 PySem.Spec PyProof.Rows
def Td (ls : List WW.Wd) : List PyData := ls.map fun l => .str (WW.S l)
theorem Td_all {K : PySem.W.Frag} {H : Hp} : ∀ ls : List WW.Wd, DpAll K H (WW.Ss ls) (Td ls)
  | [] => .nil
  | l :: ls => .cons (.str _) (Td_all ls)
theorem Td_lay : ∀ ls : List WW.Wd, (∀ l ∈ ls, WW.Lw l) → PyData.canLayAll0 (Td ls) = true ∧ PyData.depthAll (Td ls) = 0
  | [], _ => ⟨by rw [Td, List.map_nil, PyData.canLayAll0], by rw [Td, List.map_nil, PyData.depthAll]⟩
  | l :: ls, h => by
    obtain ⟨h1, h2⟩ := Td_lay ls fun x m => h x (List.mem_cons_of_mem _ m)
    have hl := h l (List.mem_cons_self ..)
    have e : Td (l :: ls) = .str (WW.S l) :: Td ls := rfl
    rw [e, PyData.canLayAll0, PyData.canLay0, PyData.depthAll, PyData.depth, h1, h2]
    refine ⟨?_, rfl⟩
    rw [Bool.and_true]
    show (WW.S l).cps.all (· < 0x110000) = true
    have : ∀ c ∈ l, c < 0x110000 := fun c m => by have := hl c m; unfold WW.Lt at this; omega
    simpa [WW.S] using this
theorem Td_shaped (ls : List WW.Wd) (h : ∀ l ∈ ls, WW.Lw l) : SeqAt.shaped (.list (Td ls)) = true ∧ SeqAt.shaped (.tuple (Td ls)) = true := by
  obtain ⟨h1, h2⟩ := Td_lay ls h
  constructor <;> (unfold SeqAt.shaped; rw [PyData.canLay0, PyData.depth, h1, h2]; rfl)
theorem Td_eqv : ∀ ls ms : List WW.Wd, PyData.eqvAll (Td ls) (Td ms) = decide (ls = ms)
  | [], [] => by rw [Td, List.map_nil, PyData.eqvAll]; rfl
  | [], m :: ms => by rw [Td, Td, List.map_nil, List.map_cons, PyData.eqvAll]; rfl
  | l :: ls, [] => by rw [Td, Td, List.map_nil, List.map_cons, PyData.eqvAll]; rfl
  | l :: ls, m :: ms => by
    have e1 : Td (l :: ls) = .str (WW.S l) :: Td ls := rfl
    have e2 : Td (m :: ms) = .str (WW.S m) :: Td ms := rfl
    rw [e1, e2, PyData.eqvAll, PyData.eqv, Td_eqv ls ms, Bool.eq_iff_iff]
    simp only [Bool.and_eq_true, beq_iff_eq, decide_eq_true_eq, List.cons.injEq, WW.S_inj]
theorem d_neSs {K : PySem.W.Frag} {H : Hp} {Q : VK} {a b : Addr} {ls ms : List WW.Wd} (ha : SqL K H a (WW.Ss ls)) (hb : SqL K H b (WW.Ss ms)) (la : ∀ l ∈ ls, WW.Lw l) (lb : ∀ l ∈ ms, WW.Lw l) (k : Q (.bl (!decide (ls = ms))) H) : rNeD K (.ref a) (.ref b) H Q :=
  ⟨_, _, .lst ha (Td_all ls), .lst hb (Td_all ms), (Td_shaped ls la).1, (Td_shaped ms lb).1, by rw [PyData.eqv, Td_eqv]; exact k⟩
theorem d_eqSs {K : PySem.W.Frag} {H : Hp} {Q : VK} {a b : Addr} {ls ms : List WW.Wd} (ha : SqL K H a (WW.Ss ls)) (hb : SqL K H b (WW.Ss ms)) (la : ∀ l ∈ ls, WW.Lw l) (lb : ∀ l ∈ ms, WW.Lw l) (k : Q (.bl (decide (ls = ms))) H) : rEqD K (.ref a) (.ref b) H Q :=
  ⟨_, _, .lst ha (Td_all ls), .lst hb (Td_all ms), (Td_shaped ls la).1, (Td_shaped ms lb).1, by rw [PyData.eqv, Td_eqv]; exact k⟩
theorem d_eqSsT {K : PySem.W.Frag} {H : Hp} {Q : VK} {a b : Addr} {ls ms : List WW.Wd} (ha : SqT K H a (WW.Ss ls)) (hb : SqT K H b (WW.Ss ms)) (la : ∀ l ∈ ls, WW.Lw l) (lb : ∀ l ∈ ms, WW.Lw l) (k : Q (.bl (decide (ls = ms))) H) : rEqD K (.ref a) (.ref b) H Q :=
  ⟨_, _, .tup ha (Td_all ls), .tup hb (Td_all ms), (Td_shaped ls la).2, (Td_shaped ms lb).2, by rw [PyData.eqv, Td_eqv]; exact k⟩
theorem d_neSsT {K : PySem.W.Frag} {H : Hp} {Q : VK} {a b : Addr} {ls ms : List WW.Wd} (ha : SqT K H a (WW.Ss ls)) (hb : SqT K H b (WW.Ss ms)) (la : ∀ l ∈ ls, WW.Lw l) (lb : ∀ l ∈ ms, WW.Lw l) (k : Q (.bl (!decide (ls = ms))) H) : rNeD K (.ref a) (.ref b) H Q :=
  ⟨_, _, .tup ha (Td_all ls), .tup hb (Td_all ms), (Td_shaped ls la).2, (Td_shaped ms lb).2, by rw [PyData.eqv, Td_eqv]; exact k⟩
end OQ

/-! ### a piece found in a word -/
namespace WW
open PySem L2
theorem Hit.of_sub {W w : Wd} {i : Nat} : Builtin.Str.subAt (S W) (S w) i = true ↔ Hit W i w := by
  rw [StrLaws.subAt_eq, beq_iff_eq, S_cps, S_cps, S_len]
  unfold Hit piece
  rw [Nat.add_sub_cancel_left]
theorem occ_full (s sub : Str) (hi : Nat) : ∀ (l : List Nat) (a f : Nat), (forIn l (#[a], f) (StrLaws.occBody s sub hi 1)).run.fst = #[a]
  | [], a, f => rfl
  | x :: l, a, f => by
    rw [List.forIn_cons]
    unfold StrLaws.occBody
    rw [if_neg (by intro h; have := h.1.1.1; simp at this)]
    exact occ_full s sub hi l a f
theorem occ_first (s sub : Str) (hi : Nat) : ∀ (n lo free : Nat), free ≤ lo →
    (∃ i, lo ≤ i ∧ i < lo + n ∧ i + sub.length ≤ hi ∧ Builtin.Str.subAt s sub i = true ∧ (∀ j, lo ≤ j → j < i → ¬ (j + sub.length ≤ hi ∧ Builtin.Str.subAt s sub j = true)) ∧ (forIn (List.range' lo n) ((#[] : Array Nat), free) (StrLaws.occBody s sub hi 1)).run.fst = #[i]) ∨
    ((∀ j, lo ≤ j → j < lo + n → ¬ (j + sub.length ≤ hi ∧ Builtin.Str.subAt s sub j = true)) ∧ (forIn (List.range' lo n) ((#[] : Array Nat), free) (StrLaws.occBody s sub hi 1)).run.fst = #[])
  | 0, lo, free, _ => .inr ⟨fun j h1 h2 => by omega, rfl⟩
  | n + 1, lo, free, hf => by
    rw [List.range'_succ, List.forIn_cons]
    by_cases hc : lo + sub.length ≤ hi ∧ Builtin.Str.subAt s sub lo = true
    · refine .inl ⟨lo, Nat.le_refl _, by omega, hc.1, hc.2, fun j h1 h2 => by omega, ?_⟩
      have c1 : (((#[] : Array Nat), free).fst.size < 1 ∧ ((#[] : Array Nat), free).snd ≤ lo) ∧ lo + sub.length ≤ hi := ⟨⟨by simp, hf⟩, hc.1⟩
      have e : StrLaws.occBody s sub hi 1 lo ((#[] : Array Nat), free) = pure (ForInStep.yield (#[lo], lo + sub.length)) := by
        unfold StrLaws.occBody
        rw [if_pos ⟨c1, hc.2⟩]
        rfl
      rw [e]
      exact occ_full s sub hi _ lo _
    · have e : StrLaws.occBody s sub hi 1 lo ((#[] : Array Nat), free) = pure (ForInStep.yield ((#[] : Array Nat), free)) := by
        unfold StrLaws.occBody
        rw [if_neg (fun h => hc ⟨h.1.2, h.2⟩)]
      rw [e]
      rcases occ_first s sub hi n (lo + 1) free (by omega) with ⟨i, h1, h2, h3, h4, h5, h6⟩ | ⟨h1, h2⟩
      · refine .inl ⟨i, by omega, by omega, h3, h4, fun j j1 j2 => ?_, h6⟩
        by_cases c : j = lo
        · subst c; exact hc
        · exact h5 j (by omega) j2
      · refine .inr ⟨fun j j1 j2 => ?_, h2⟩
        by_cases c : j = lo
        · subst c; exact hc
        · exact h1 j (by omega) (by omega)
/-- what a search for w from spot lo on tells: the next spot where it stands, or -1 -/
def Nx (W w : Wd) (lo : Nat) (v : Int) : Prop := (∃ i : Nat, v = i ∧ lo ≤ i ∧ Hit W i w ∧ ∀ j, lo ≤ j → j < i → ¬ Hit W j w) ∨ (v = -1 ∧ ∀ j, lo ≤ j → ¬ Hit W j w)
theorem occ_nx {W w : Wd} {lo : Nat} (n : w ≠ []) : Nx W w lo (match Builtin.Str.occurrences (S W) (S w) lo (S W).length 1 with | i :: _ => (i : Int) | [] => -1) := by
  rw [StrLaws.occ_eq]
  rcases occ_first (S W) (S w) (S W).length ((S W).length + 1 - lo) lo lo (Nat.le_refl _) with ⟨i, h1, h2, h3, h4, h5, h6⟩ | ⟨h1, h2⟩
  · rw [h6]
    refine .inl ⟨i, rfl, h1, Hit.of_sub.mp h4, fun j j1 j2 z => h5 j j1 j2 ⟨?_, Hit.of_sub.mpr z⟩⟩
    rw [S_len, S_len]; exact z.bound n
  · rw [h2]
    refine .inr ⟨rfl, fun j j1 z => ?_⟩
    have b := z.bound n
    have l0 : 0 < w.length := List.length_pos_iff.mpr n
    refine h1 j j1 ?_ ⟨by rw [S_len, S_len]; exact b, Hit.of_sub.mpr z⟩
    rw [S_len]; omega
theorem find_nx {W w : Wd} (n : w ≠ []) : Nx W w 0 (Txt.find (S W) (S w)) := occ_nx n
theorem find3_nx {W w : Wd} {lo : Nat} {i : Int} (n : w ≠ []) (e : i = lo) : Nx W w lo (Txt.find3 (S W) (S w) i) := by
  subst e
  have e : PySem.fromIndex (S W).length (lo : Int) = lo := by
    unfold PySem.fromIndex
    split <;> omega
  have h := occ_nx (W := W) (w := w) (lo := lo) n
  unfold Txt.find3
  rw [e]
  exact h
/-! the links, as they are found piece by piece -/
/-- those found ahead of spot low with the piece kk -/
def LkG (ws : List Wd) (W : Wd) (kk low : Nat) (i j : Nat) : Prop := ∃ l k w, ws[k]? = some w ∧ Hit W l w ∧ (k < kk ∨ (k = kk ∧ l < low)) ∧ ((i = l ∧ j = l + w.length) ∨ (j = l ∧ i = l + w.length))
theorem LkG.zero {ws : List Wd} {W : Wd} {i j : Nat} : ¬ LkG ws W 0 0 i j := by
  rintro ⟨l, k, w, _, _, c, _⟩
  omega
theorem LkG.skip {ws : List Wd} {W w : Wd} {kk lo hi : Nat} (hk : ws[kk]? = some w) (le : lo ≤ hi) (n : ∀ j, lo ≤ j → j < hi → ¬ Hit W j w) (i j : Nat) : LkG ws W kk hi i j ↔ LkG ws W kk lo i j := by
  refine ⟨fun ⟨l, k, v, h1, h2, c, h3⟩ => ⟨l, k, v, h1, h2, ?_, h3⟩, fun ⟨l, k, v, h1, h2, c, h3⟩ => ⟨l, k, v, h1, h2, by omega, h3⟩⟩
  rcases c with c | ⟨rfl, c⟩
  · exact .inl c
  · rw [hk] at h1
    cases h1
    refine .inr ⟨rfl, ?_⟩
    apply Nat.lt_of_not_le
    intro z
    exact n l z c h2
theorem LkG.next {ws : List Wd} {W w : Wd} {kk lo i j : Nat} (hk : ws[kk]? = some w) (n : ∀ j, lo ≤ j → ¬ Hit W j w) : LkG ws W (kk + 1) 0 i j ↔ LkG ws W kk lo i j := by
  refine ⟨fun ⟨l, k, v, h1, h2, c, h3⟩ => ⟨l, k, v, h1, h2, ?_, h3⟩, fun ⟨l, k, v, h1, h2, c, h3⟩ => ⟨l, k, v, h1, h2, by omega, h3⟩⟩
  by_cases e : k = kk
  · subst e
    rw [hk] at h1
    cases h1
    refine .inr ⟨rfl, ?_⟩
    apply Nat.lt_of_not_le
    intro z
    exact n l z h2
  · omega
theorem LkG.all {ws : List Wd} {W : Wd} {i j : Nat} : LkG ws W ws.length 0 i j ↔ Link ws W i j := by
  constructor
  · rintro ⟨l, k, w, h1, h2, c, h3⟩
    refine ⟨w, List.mem_of_getElem? h1, ?_⟩
    rcases h3 with ⟨rfl, e⟩ | ⟨rfl, e⟩
    · exact .inl ⟨h2, e⟩
    · exact .inr ⟨h2, e⟩
  · rintro ⟨w, m, h⟩
    obtain ⟨k, hk⟩ := List.getElem?_of_mem m
    have kl := (List.getElem?_eq_some_iff.mp hk).1
    rcases h with ⟨h, e⟩ | ⟨h, e⟩
    · exact ⟨i, k, w, hk, h, .inl kl, .inl ⟨rfl, e⟩⟩
    · exact ⟨j, k, w, hk, h, .inl kl, .inr ⟨rfl, e⟩⟩
theorem LkG.hit {ws : List Wd} {W : Wd} {low kk : Nat} {w : Wd} (hk : ws[kk]? = some w) (h : Hit W low w) (i j : Nat) : LkG ws W kk (low + 1) i j ↔ addE (LkG ws W kk low) low (low + w.length) i j := by
  constructor
  · rintro ⟨l, k, v, h1, h2, c, h3⟩
    by_cases e : l = low ∧ k = kk
    · obtain ⟨rfl, rfl⟩ := e
      rw [hk] at h1
      cases h1
      rcases h3 with ⟨rfl, rfl⟩ | ⟨rfl, rfl⟩
      · exact .inr (.inl ⟨rfl, rfl⟩)
      · exact .inr (.inr ⟨rfl, rfl⟩)
    · exact .inl ⟨l, k, v, h1, h2, by omega, h3⟩
  · rintro (⟨l, k, v, h1, h2, c, h3⟩ | h3)
    · exact ⟨l, k, v, h1, h2, by omega, h3⟩
    · refine ⟨low, kk, w, hk, h, by omega, ?_⟩
      rcases h3 with ⟨rfl, rfl⟩ | ⟨rfl, rfl⟩
      · exact .inl ⟨rfl, rfl⟩
      · exact .inr ⟨rfl, rfl⟩
theorem LkG.new {ws : List Wd} {W : Wd} {low kk : Nat} {w : Wd} (nd : ws.Nodup) (n : ∀ w ∈ ws, w ≠ []) (hk : ws[kk]? = some w) (h : Hit W low w) : ¬ LkG ws W kk low low (low + w.length) ∧ ¬ LkG ws W kk low (low + w.length) low := by
  have l0 : 0 < w.length := List.length_pos_iff.mpr (n w (List.mem_of_getElem? hk))
  have key : ∀ l k v, ws[k]? = some v → Hit W l v → (k < kk ∨ (k = kk ∧ l < low)) → l = low → v.length = w.length → False := by
    rintro l k v h1 h2 c rfl e
    have e2 : v = w := by
      unfold Hit at h2 h
      rw [← h2, ← h, e]
    subst e2
    have := (List.getElem?_inj (List.getElem?_eq_some_iff.mp h1).1 nd).mp (h1.trans hk.symm)
    omega
  refine ⟨fun ⟨l, k, v, h1, h2, c, h3⟩ => ?_, fun ⟨l, k, v, h1, h2, c, h3⟩ => ?_⟩ <;>
  · have l1 : 0 < v.length := List.length_pos_iff.mpr (n v (List.mem_of_getElem? h1))
    exact key l k v h1 h2 c (by omega) (by omega)
theorem LkG.le {ws : List Wd} {W : Wd} {low kk i j : Nat} (n : ∀ w ∈ ws, w ≠ []) (h : LkG ws W low kk i j) : i ≤ W.length ∧ j ≤ W.length := by
  obtain ⟨l, k, w, h1, h2, c, h3⟩ := h
  have := h2.bound (n w (List.mem_of_getElem? h1))
  omega
/-- rows of links, of pieces that may be alike -/
structure LkJ (rows : Nat → List Nat) (F : Nat → Nat → Prop) (u : Prop) (m : Nat) : Prop where
  mem : ∀ i j, j ∈ rows i ↔ F i j
  nd : u → ∀ i, (rows i).Nodup
  len : ∀ i, (rows i).length ≤ m
theorem push2 (rows : Nat → List Nat) {a b : Nat} (ne : a ≠ b) (i : Nat) : push (push rows a b) b a i = if i = a then rows i ++ [b] else if i = b then rows i ++ [a] else rows i := by
  unfold push
  by_cases c : i = a
  · subst c; rw [if_neg ne, if_pos rfl, if_pos rfl]
  · simp only [if_neg c]
theorem LkJ.add {rows : Nat → List Nat} {F : Nat → Nat → Prop} {u : Prop} {m a b : Nat} (h : LkJ rows F u m) (ne : a ≠ b) (n1 : u → ¬ F a b) (n2 : u → ¬ F b a) : LkJ (push (push rows a b) b a) (addE F a b) u (m + 1) := by
  refine ⟨fun i j => ?_, fun hu => ?_, fun i => ?_⟩
  · rw [push2 rows ne]
    split
    · rename_i c
      subst c
      rw [List.mem_append, h.mem, List.mem_singleton]
      unfold addE
      constructor
      · rintro (z | z)
        · exact .inl z
        · exact .inr (.inl ⟨rfl, z⟩)
      · rintro (z | ⟨_, z⟩ | ⟨_, z⟩)
        · exact .inl z
        · exact .inr z
        · exact (ne z).elim
    · rename_i c
      split
      · rename_i d
        subst d
        rw [List.mem_append, h.mem, List.mem_singleton]
        unfold addE
        constructor
        · rintro (z | z)
          · exact .inl z
          · exact .inr (.inr ⟨z, rfl⟩)
        · rintro (z | ⟨z, _⟩ | ⟨z, _⟩)
          · exact .inl z
          · exact (c z).elim
          · exact .inr z
      · rename_i d
        rw [h.mem]
        unfold addE
        constructor
        · exact .inl
        · rintro (z | ⟨z, _⟩ | ⟨_, z⟩)
          · exact z
          · exact (c z).elim
          · exact (d z).elim
  · exact (LkI.add ⟨h.mem, h.nd hu⟩ ne (n1 hu) (n2 hu)).nd
  · rw [push2 rows ne]
    have := h.len i
    split
    · rw [List.length_append, List.length_singleton]; omega
    · split
      · rw [List.length_append, List.length_singleton]; omega
      · omega
theorem LkJ.iff {rows : Nat → List Nat} {F G : Nat → Nat → Prop} {u : Prop} {m n : Nat} (h : LkJ rows F u m) (e : ∀ i j, G i j ↔ F i j) (le : m ≤ n) : LkJ rows G u n := ⟨fun i j => (h.mem i j).trans (e i j).symm, h.nd, fun i => Nat.le_trans (h.len i) le⟩
theorem LkJ.zero {ws : List Wd} {W : Wd} {u : Prop} : LkJ (fun _ => []) (LkG ws W 0 0) u 0 := ⟨fun i j => ⟨fun z => (nomatch z), fun z => (LkG.zero z).elim⟩, fun _ _ => List.nodup_nil, fun _ => Nat.le_refl _⟩
/-- ints sorted, as numbers, some alike -/
theorem sorted_natsG {r : List Nat} {ns : List Int} (p : ns.Perm (r.map fun (j : Nat) => (j : Int))) (s : ns.Pairwise (· ≤ ·)) : ∃ q : List Nat, ns = q.map (fun (j : Nat) => (j : Int)) ∧ q.Perm r ∧ q.Pairwise (· ≤ ·) := by
  refine ⟨ns.map Int.toNat, ?_, ?_, ?_⟩
  · rw [List.map_map]
    have : ∀ z ∈ ns, ((fun (j : Nat) => (j : Int)) ∘ Int.toNat) z = z := fun z m => by
      obtain ⟨j, _, rfl⟩ := List.mem_map.mp (p.mem_iff.mp m)
      simp
    rw [List.map_congr_left this, List.map_id']
  · have := p.map Int.toNat
    rw [List.map_map] at this
    have e : (Int.toNat ∘ fun (j : Nat) => (j : Int)) = id := by funext x; simp
    rw [e, List.map_id] at this
    exact this
  · rw [List.pairwise_map]
    exact s.imp fun h => by omega
theorem strict_of {q : List Nat} (s : q.Pairwise (· ≤ ·)) (nd : q.Nodup) : q.Pairwise (· < ·) := by
  have := s.and nd
  exact this.imp fun ⟨h1, h2⟩ => by omega
end WW
namespace RD
open PySem L2
theorem tyS {K : PySem.W.Frag} {H : Hp} {z : Str} : tyV K "str" (.str z) H := rfl
def rFind1 : V → List V → Hp → VK → Prop := fun x xs H Q => ∃ a b, x = .str a ∧ xs = [.str b] ∧ Q (.int (Txt.find a b)) H
def rFind2 : V → List V → Hp → VK → Prop := fun x xs H Q => ∃ (a b : Str) (i : Int), x = .str a ∧ xs = [.str b, .int i] ∧ Q (.int (Txt.find3 a b i)) H
theorem m_find1 {X : Cx} : MtR X "str.find" rFind1 := mt_find
theorem m_find2 {X : Cx} : MtR X "str.find" rFind2 := mt_find3
theorem d_find1 {W w : WW.Wd} {H : Hp} {Q : VK} (n : w ≠ []) (h : ∀ v, WW.Nx W w 0 v → Q (.int v) H) : rFind1 (.str (WW.S W)) [.str (WW.S w)] H Q := ⟨_, _, rfl, rfl, h _ (WW.find_nx n)⟩
theorem d_find2 {W w : WW.Wd} {lo : Nat} {i : Int} {H : Hp} {Q : VK} (n : w ≠ []) (e : i = lo) (h : ∀ v, WW.Nx W w lo v → Q (.int v) H) : rFind2 (.str (WW.S W)) [.str (WW.S w), .int i] H Q := ⟨_, _, _, rfl, rfl, h _ (WW.find3_nx n e)⟩
end RD
namespace OQ
open PySem L2
theorem d_seqVar2 {K : PySem.W.Frag} {σ : L2.St} {H0 H : Hp} {R : It → Hp → Prop} {n : Nat} {a : Addr} {xs : List V} (e : σ[n]? = some (some (.ref a))) (h : SeqAt K H0 a xs) (s : Same H0 H)
    (k : ∀ J G, Walk J xs.length G (YAt xs) → (∀ H', Same H0 H' → G H') → R J H) : iOr (iList K (tVar n)) (iTup K (tVar n)) σ H R := by
  rcases h with h | h
  · exact .inl ⟨_, e, a, rfl, ⟨xs, s.seq h⟩, k _ _ walk_list fun H' s => s.seq h⟩
  · exact .inr ⟨_, e, a, rfl, ⟨xs, sqT_same h s⟩, k _ _ walk_tup fun H' s => sqT_same h s⟩
end OQ

/-! ### the faults of tables, as functions -/
namespace RK
open PySem L2
abbrev Fl := Option (Str × Int × Int × Int)
def fnd {α : Type} (n : Nat) (f : Nat → Option α) : Option α := (List.range n).findSome? f
theorem fnd_succ {α : Type} (n : Nat) (f : Nat → Option α) : fnd (n + 1) f = (fnd n f).or (f n) := by
  unfold fnd
  rw [List.range_succ, List.findSome?_append]
  congr 1
  simp [List.findSome?]
  cases f n <;> rfl
theorem fnd_none {α : Type} {n : Nat} {f : Nat → Option α} (h : ∀ i, i < n → f i = none) : fnd n f = none := by
  unfold fnd
  rw [List.findSome?_eq_none_iff]
  exact fun i m => h i (List.mem_range.mp m)
theorem fnd_all {α : Type} {n : Nat} {f : Nat → Option α} (h : fnd n f = none) : ∀ i, i < n → f i = none := fun i hi => by
  unfold fnd at h
  rw [List.findSome?_eq_none_iff] at h
  exact h i (List.mem_range.mpr hi)
theorem fnd_at {α : Type} {n t : Nat} {f : Nat → Option α} {v : α} (h : ∀ i, i < t → f i = none) (ht : t < n) (e : f t = some v) : fnd n f = some v := by
  induction n with
  | zero => omega
  | succ n ih =>
    rw [fnd_succ]
    by_cases c : t = n
    · subst c
      rw [fnd_none h, e]; rfl
    · rw [ih (by omega)]; rfl
theorem fnd_congr {α : Type} {n : Nat} {f g : Nat → Option α} (h : ∀ i, i < n → f i = g i) : fnd n f = fnd n g := by
  induction n with
  | zero => rfl
  | succ n ih => rw [fnd_succ, fnd_succ, ih fun i hi => h i (by omega), h n (by omega)]
def noneF (n : Nat) (J M : Nat → Nat → Nat) (z : Nat) : Fl := fnd n fun a => if J z a = a ∧ J a z = a ∧ M z a = z ∧ M a z = z then none else some ("none", a, -1, -1)
def oneF (n : Nat) (M : Nat → Nat → Nat) (o : Nat) : Fl := fnd n fun a => if M o a = a ∧ M a o = a then none else some ("one", a, -1, -1)
def idleF (n : Nat) (J : Nat → Nat → Nat) : Fl := fnd n fun a => if J a a = a then none else some ("idle", a, -1, -1)
def swapF (n : Nat) (J : Nat → Nat → Nat) : Fl := fnd n fun a => fnd n fun b => if J a b = J b a then none else some ("swap", a, b, -1)
def groupF (w : Str) (n : Nat) (J : Nat → Nat → Nat) : Fl := fnd n fun a => fnd n fun b => fnd n fun c => if J (J a b) c = J a (J b c) then none else some (w, a, b, c)
def overF (n : Nat) (J M : Nat → Nat → Nat) : Fl := fnd n fun a => fnd n fun b => fnd n fun c => if M a (J b c) = J (M a b) (M a c) ∧ M (J b c) a = J (M b a) (M c a) then none else some ("over", a, b, c)
def sameF (z o : Nat) : Fl := if z = o then some ("same", -1, -1, -1) else none
def restF (n : Nat) (J M : Nat → Nat → Nat) (z o : Nat) : Fl :=
  (noneF n J M z).or ((oneF n M o).or ((idleF n J).or ((swapF n J).or ((groupF "join" n J).or ((groupF "product" n M).or ((overF n J M).or (sameF z o)))))))
/-- the fault F as a value -/
def FltAt (H : Hp) (v : V) : Fl → Prop
  | none => v = .non
  | some (w, a, b, c) => ∃ p, v = .ref p ∧ H p = some (.tup [.str w, .int a, .int b, .int c])
theorem FltAt.same {H H' : Hp} {v : V} : ∀ {F : Fl}, FltAt H v F → Same H H' → FltAt H' v F
  | none, h, _ => h
  | some (_, _, _, _), ⟨p, h1, h2⟩, s => ⟨p, h1, s _ _ h2⟩
/-! things, as data -/
def rowsOf : PyData → Option (List PyData)
  | .list ds => some ds
  | .tuple ds => some ds
  | _ => none
def intB : PyData → Bool
  | .int _ => true
  | _ => false
def belowB (n : Nat) : PyData → Bool
  | .int i => decide (0 ≤ i ∧ i < n)
  | _ => false
def sideB (n : Nat) (d : PyData) : Bool := match rowsOf d with
  | some ds => decide (ds.length = n) && ds.all (belowB n)
  | none => false
def squareB (n : Nat) (d : PyData) : Bool := match rowsOf d with
  | some ds => decide (ds.length = n) && ds.all (sideB n)
  | none => false
def natOf : PyData → Nat
  | .int i => i.toNat
  | _ => 0
def cellsOf (d : PyData) : List PyData := (rowsOf d).getD []
def tabf (d : PyData) (i j : Nat) : Nat := natOf ((cellsOf ((cellsOf d)[i]?.getD .none))[j]?.getD .none)
/-- whether sizes and places are as they must be -/
def sizeB (dj dp dz dn : PyData) : Bool := match rowsOf dj with
  | some ds => decide (2 ≤ ds.length ∧ ds.length ≤ 16) && (squareB ds.length dj && (squareB ds.length dp && (belowB ds.length dz && belowB ds.length dn)))
  | none => false
end RK
/-! ### tables of rows that are lists or tuples -/
namespace OQ
open PySem L2 PySem.Spec PyProof.Rows
def Ints (ns : List Nat) : List V := ns.map fun (j : Nat) => V.int j
def RowX (K : PySem.W.Frag) (H : Hp) (r : Addr) (n : Nat) (g : Nat → Nat) : Prop := SeqAt K H r ((List.range n).map fun j => V.int (g j : Nat))
def TabX (K : PySem.W.Frag) (H : Hp) (a : Addr) (n : Nat) (f : Nat → Nat → Nat) : Prop := ∃ rs : List Addr, rs.length = n ∧ SeqAt K H a (rs.map V.ref) ∧ ∀ (i : Nat) (r : Addr), rs[i]? = some r → RowX K H r n (f i)
theorem TabX.same {K : PySem.W.Frag} {H H' : Hp} {a : Addr} {n : Nat} {f : Nat → Nat → Nat} (h : TabX K H a n f) (s : Same H H') : TabX K H' a n f := by
  obtain ⟨rs, l, e, q⟩ := h
  exact ⟨rs, l, e.same s, fun i r z => (q i r z).same s⟩
def rIxA (K : PySem.W.Frag) : R2 := fun x y H Q => ∃ p xs i v, x = .ref p ∧ y = .int i ∧ SeqAt K H p xs ∧ atI xs i = some v ∧ Q v H
theorem ix_seq {X : Cx} : IxR X (rIxA X.K) := by
  intro value slice pins s σ H x y v u Q I rx ry h hs
  obtain ⟨p, xs, i, z, e1, e2, hq | hq, he, q⟩ := h
  · exact ix_list value slice pins s σ H x y v u Q I rx ry ⟨p, xs, i, z, e1, e2, hq, he, q⟩ hs
  · exact ix_tup value slice pins s σ H x y v u Q I rx ry ⟨p, xs, i, z, e1, e2, hq, he, q⟩ hs
theorem ixA {X : Cx} (K : PySem.W.Frag) (h : X.K = K := by rfl) : IxR X (rIxA K) := h ▸ ix_seq
section
variable {K : PySem.W.Frag} {H : Hp} {a : Addr} {n : Nat} {Q : VK}
theorem d_ixA {p : Addr} {xs : List V} {i : Int} {v : V} (hs : SeqAt K H p xs) (e : atI xs i = some v) (h : Q v H) : rIxA K (.ref p) (.int i) H Q := ⟨p, xs, i, v, rfl, rfl, hs, e, h⟩
theorem xT {f : Nat → Nat → Nat} {i : Int} {m : Nat} (h : TabX K H a n f) (e : i = m) (hn : m < n) (k : ∀ r, RowX K H r n (f m) → Q (.ref r) H) : rIxA K (.ref a) (.int i) H Q := by
  obtain ⟨rs, len, ea, rows⟩ := h
  have hm : m < rs.length := by rw [len]; exact hn
  subst e
  exact d_ixA ea (atI_nat (by rw [List.getElem?_map, List.getElem?_eq_getElem hm]; rfl)) (k _ (rows m _ (List.getElem?_eq_getElem hm)))
theorem xR {g : Nat → Nat} {i : Int} {m : Nat} (h : RowX K H a n g) (e : i = m) (hn : m < n) (k : Q (.int (g m : Nat)) H) : rIxA K (.ref a) (.int i) H Q := by
  subst e
  exact d_ixA h (atI_nat (by rw [List.getElem?_map, List.getElem?_range hn]; rfl)) k
theorem TabX.len {f : Nat → Nat → Nat} (h : TabX K H a n f) (k : Q (.int n) H) : RD.rLen K [.ref a] H Q := by
  obtain ⟨rs, len, ea, rows⟩ := h
  refine ea.len ?_
  rw [List.length_map, len]; exact k
theorem RowX.len {g : Nat → Nat} (h : RowX K H a n g) (k : Q (.int n) H) : RD.rLen K [.ref a] H Q := by
  refine SeqAt.len h ?_
  rw [List.length_map, List.length_range]; exact k
end
/-! the data of a thing -/
mutual
theorem Dp.same {K : PySem.W.Frag} {H H' : Hp} (s : Same H H') : ∀ (d : PyData) (v : V), Dp K H v d → Dp K H' v d
  | .none, _, h => by cases h; exact .non
  | .bool b, _, h => by cases h; exact .bl b
  | .int i, _, h => by cases h; exact .int i
  | .str x, _, h => by cases h; exact .str x
  | .list ds, _, h => by
    cases h with
    | lst h1 h2 => exact .lst (s.seq h1) (DpAll.same s ds _ h2)
  | .tuple ds, _, h => by
    cases h with
    | tup h1 h2 => exact .tup (sqT_same h1 s) (DpAll.same s ds _ h2)
  | .dict _, _, h => by cases h
theorem DpAll.same {K : PySem.W.Frag} {H H' : Hp} (s : Same H H') : ∀ (ds : List PyData) (vs : List V), DpAll K H vs ds → DpAll K H' vs ds
  | [], _, h => by cases h; exact .nil
  | d :: ds, _, h => by
    cases h with
    | cons h1 h2 => exact .cons (Dp.same s d _ h1) (DpAll.same s ds _ h2)
end
theorem dpAll_len {K : PySem.W.Frag} {H : Hp} : ∀ {ds : List PyData} {vs : List V}, DpAll K H vs ds → vs.length = ds.length
  | [], _, h => by cases h; rfl
  | _ :: ds, _, h => by
    cases h with
    | cons h1 h2 => rw [List.length_cons, List.length_cons, dpAll_len h2]
theorem dpAll_get {K : PySem.W.Frag} {H : Hp} : ∀ {ds : List PyData} {vs : List V}, DpAll K H vs ds → ∀ {i : Nat} {v : V}, vs[i]? = some v → ∃ d, ds[i]? = some d ∧ Dp K H v d
  | [], _, h, i, v, e => by cases h; simp at e
  | d :: ds, _, h, i, v, e => by
    cases h with
    | cons h1 h2 =>
      cases i with
      | zero => simp at e; subst e; exact ⟨d, rfl, h1⟩
      | succ i => simp at e; obtain ⟨d', q1, q2⟩ := dpAll_get h2 e; exact ⟨d', by simpa using q1, q2⟩
theorem dpAll_of {K : PySem.W.Frag} {H : Hp} : ∀ {vs : List V}, (∀ v ∈ vs, ∃ d, Dp K H v d) → ∃ ds, DpAll K H vs ds
  | [], _ => ⟨[], .nil⟩
  | v :: vs, h => by
    obtain ⟨d, h1⟩ := h v (List.mem_cons_self ..)
    obtain ⟨ds, h2⟩ := dpAll_of (vs := vs) fun x m => h x (List.mem_cons_of_mem _ m)
    exact ⟨d :: ds, .cons h1 h2⟩
theorem dp_row {K : PySem.W.Frag} {H : Hp} {d : PyData} {v : V} {ds : List PyData} (h : Dp K H v d) (e : RK.rowsOf d = some ds) : ∃ a xs, v = .ref a ∧ SeqAt K H a xs ∧ DpAll K H xs ds := by
  cases h with
  | lst h1 h2 => cases e; exact ⟨_, _, rfl, .inl h1, h2⟩
  | tup h1 h2 => cases e; exact ⟨_, _, rfl, .inr h1, h2⟩
  | _ => cases e
theorem SeqAt.ty {K : PySem.W.Frag} {H : Hp} {a : Addr} {xs : List V} (h : SeqAt K H a xs) : ∃ t, TyX K H (.ref a) t ∧ (t = .type "list" ∨ t = .type "tuple") := by
  rcases h with ((h | ⟨o, h⟩) | ⟨o, _, _, h, c, _⟩) | ((h | ⟨o, h⟩) | ⟨o, _, _, h, c, _⟩)
  · exact ⟨_, .base (.lst h), .inl rfl⟩
  · exact ⟨_, .base (.frz h), .inl rfl⟩
  · exact ⟨_, .kList h c, .inl rfl⟩
  · exact ⟨_, .base (.tup h), .inr rfl⟩
  · exact ⟨_, .fTuple h, .inr rfl⟩
  · exact ⟨_, .kTuple h c, .inr rfl⟩
/-- the type of a thing -/
theorem dp_ty {K : PySem.W.Frag} {H : Hp} {d : PyData} {v : V} (h : Dp K H v d) : ∃ t, TyX K H v (.type t) ∧ t ∈ ["NoneType", "bool", "int", "str", "list", "tuple"] ∧ (t = "list" ∨ t = "tuple" ↔ (RK.rowsOf d).isSome = true) ∧ (t = "int" ↔ RK.intB d = true) := by
  cases h with
  | non => exact ⟨_, .base .non, by simp, by simp [RK.rowsOf], by simp [RK.intB]⟩
  | bl b => exact ⟨_, .base (.bl b), by simp, by simp [RK.rowsOf], by simp [RK.intB]⟩
  | int i => exact ⟨_, .base (.int i), by simp, by simp [RK.rowsOf], by simp [RK.intB]⟩
  | str x => exact ⟨_, .base (.str x), by simp, by simp [RK.rowsOf], by simp [RK.intB]⟩
  | lst h1 h2 =>
    rcases h1 with (h | ⟨o, h⟩) | ⟨o, _, _, h, c, _⟩
    · exact ⟨_, .base (.lst h), by simp, by simp [RK.rowsOf], by simp [RK.intB]⟩
    · exact ⟨_, .base (.frz h), by simp, by simp [RK.rowsOf], by simp [RK.intB]⟩
    · exact ⟨_, .kList h c, by simp, by simp [RK.rowsOf], by simp [RK.intB]⟩
  | tup h1 h2 =>
    rcases h1 with (h | ⟨o, h⟩) | ⟨o, _, _, h, c, _⟩
    · exact ⟨_, .base (.tup h), by simp, by simp [RK.rowsOf], by simp [RK.intB]⟩
    · exact ⟨_, .fTuple h, by simp, by simp [RK.rowsOf], by simp [RK.intB]⟩
    · exact ⟨_, .kTuple h c, by simp, by simp [RK.rowsOf], by simp [RK.intB]⟩
theorem dp_isRow {K : PySem.W.Frag} {H : Hp} {d : PyData} {v : V} (h : Dp K H v d) : ∃ t, TyX K H v t ∧ PySem.W.kitAny K t [.type "list", .type "tuple"] = some (RK.rowsOf d).isSome := by
  obtain ⟨t, ty, m, e1, _⟩ := dp_ty h
  refine ⟨_, ty, ?_⟩
  simp only [List.mem_cons, List.not_mem_nil, or_false] at m
  have nl : ∀ {t : String}, ¬ (t = "list" ∨ t = "tuple") → (t = "list" ∨ t = "tuple" ↔ (RK.rowsOf d).isSome = true) → (RK.rowsOf d).isSome = false := fun n e => by
    cases q : (RK.rowsOf d).isSome with
    | false => rfl
    | true => exact (n (e.mpr q)).elim
  have no : ∀ {t : String} {b : Bool}, PySem.W.kitOne K (.type t) (.type "list") = some false → PySem.W.kitOne K (.type t) (.type "tuple") = some b → PySem.W.kitAny K (.type t) [.type "list", .type "tuple"] = some b := fun a c => by
    unfold PySem.W.kitAny
    rw [a]
    unfold PySem.W.kitAny
    simp only [c]
    split <;> simp_all [PySem.W.kitAny]
  rcases m with rfl | rfl | rfl | rfl | rfl | rfl
  · rw [nl (by decide) e1]; exact no (kit_ty (by decide +kernel)) (kit_ty (by decide +kernel))
  · rw [nl (by decide) e1]; exact no (kit_ty (by decide +kernel)) (kit_ty (by decide +kernel))
  · rw [nl (by decide) e1]; exact no (kit_ty (by decide +kernel)) (kit_ty (by decide +kernel))
  · rw [nl (by decide) e1]; exact no (kit_ty (by decide +kernel)) (kit_ty (by decide +kernel))
  · rw [e1.mp (.inl rfl)]
    unfold PySem.W.kitAny
    rw [kit_ty (r := true) (by decide +kernel)]
  · rw [e1.mp (.inr rfl)]; exact no (kit_ty (by decide +kernel)) (kit_ty (by decide +kernel))
theorem dp_isInt {K : PySem.W.Frag} {H : Hp} {d : PyData} {v : V} (h : Dp K H v d) : ∃ (t : Value) (b1 b2 : Bool), TyX K H v t ∧ PySem.W.kitOne K t (.type "int") = some b1 ∧ PySem.W.kitOne K t (.type "bool") = some b2 ∧ RK.intB d = (b1 && !b2) := by
  obtain ⟨t, ty, m, _, e2⟩ := dp_ty h
  simp only [List.mem_cons, List.not_mem_nil, or_false] at m
  have nl : ∀ {t : String}, ¬ t = "int" → (t = "int" ↔ RK.intB d = true) → RK.intB d = false := fun n e => by
    cases q : RK.intB d with
    | false => rfl
    | true => exact (n (e.mpr q)).elim
  rcases m with rfl | rfl | rfl | rfl | rfl | rfl
  · exact ⟨_, false, false, ty, kit_ty (by decide +kernel), kit_ty (by decide +kernel), by rw [nl (by decide) e2]; rfl⟩
  · exact ⟨_, true, true, ty, kit_ty (by decide +kernel), kit_ty (by decide +kernel), by rw [nl (by decide) e2]; rfl⟩
  · exact ⟨_, true, false, ty, kit_ty (by decide +kernel), kit_ty (by decide +kernel), by rw [e2.mp rfl]; rfl⟩
  · exact ⟨_, false, false, ty, kit_ty (by decide +kernel), kit_ty (by decide +kernel), by rw [nl (by decide) e2]; rfl⟩
  · exact ⟨_, false, false, ty, kit_ty (by decide +kernel), kit_ty (by decide +kernel), by rw [nl (by decide) e2]; rfl⟩
  · exact ⟨_, false, false, ty, kit_ty (by decide +kernel), kit_ty (by decide +kernel), by rw [nl (by decide) e2]; rfl⟩
theorem belowB_int {n : Nat} {d : PyData} (h : RK.belowB n d = true) : ∃ i : Int, d = .int i ∧ 0 ≤ i ∧ i < n := by
  unfold RK.belowB at h
  split at h
  · exact ⟨_, rfl, of_decide_eq_true h⟩
  · cases h
theorem sideB_rows {n : Nat} {d : PyData} (h : RK.sideB n d = true) : ∃ ds, RK.rowsOf d = some ds ∧ ds.length = n ∧ ∀ x ∈ ds, RK.belowB n x = true := by
  unfold RK.sideB at h
  split at h
  · rename_i ds e
    rw [Bool.and_eq_true, decide_eq_true_eq, List.all_eq_true] at h
    exact ⟨ds, e, h.1, h.2⟩
  · cases h
theorem squareB_rows {n : Nat} {d : PyData} (h : RK.squareB n d = true) : ∃ ds, RK.rowsOf d = some ds ∧ ds.length = n ∧ ∀ x ∈ ds, RK.sideB n x = true := by
  unfold RK.squareB at h
  split at h
  · rename_i ds e
    rw [Bool.and_eq_true, decide_eq_true_eq, List.all_eq_true] at h
    exact ⟨ds, e, h.1, h.2⟩
  · cases h
/-- a side as a row of numbers -/
theorem dp_side {K : PySem.W.Frag} {H : Hp} {d : PyData} {v : V} {n : Nat} (h : Dp K H v d) (e : RK.sideB n d = true) : ∃ a, v = .ref a ∧ RowX K H a n (fun j => RK.natOf ((RK.cellsOf d)[j]?.getD .none)) ∧ ∀ j, j < n → RK.natOf ((RK.cellsOf d)[j]?.getD .none) < n := by
  obtain ⟨ds, e1, e2, e3⟩ := sideB_rows e
  obtain ⟨a, xs, rfl, sa, da⟩ := dp_row h e1
  have ec : RK.cellsOf d = ds := by unfold RK.cellsOf; rw [e1]; rfl
  have key : ∀ j (hj : j < n), ∃ i : Int, 0 ≤ i ∧ i < n ∧ ds[j]? = some (.int i) ∧ xs[j]? = some (.int i) := fun j hj => by
    have jx : j < xs.length := by rw [dpAll_len da, e2]; exact hj
    obtain ⟨d', q1, q2⟩ := dpAll_get da (List.getElem?_eq_getElem jx)
    obtain ⟨i, rfl, h0, h1⟩ := belowB_int (e3 d' (List.mem_of_getElem? q1))
    refine ⟨i, h0, h1, q1, ?_⟩
    rw [List.getElem?_eq_getElem jx]
    generalize xs[j] = y at q2
    cases q2
    rfl
  refine ⟨a, rfl, ?_, fun j hj => ?_⟩
  · have : xs = (List.range n).map fun j => V.int (RK.natOf ((RK.cellsOf d)[j]?.getD .none) : Nat) := by
      apply List.ext_getElem?
      intro j
      by_cases hj : j < n
      · obtain ⟨i, h0, h1, q1, q2⟩ := key j hj
        rw [q2, List.getElem?_map, List.getElem?_range hj, ec]
        simp only [Option.map_some, q1, Option.getD_some, RK.natOf]
        congr 2
        omega
      · rw [List.getElem?_eq_none (by rw [dpAll_len da, e2]; omega), List.getElem?_eq_none (by simp; omega)]
    unfold RowX
    rw [← this]
    exact sa
  · obtain ⟨i, h0, h1, q1, q2⟩ := key j hj
    rw [ec, q1]
    simp only [Option.getD_some, RK.natOf]
    omega
/-- a square as a table -/
theorem dp_tab {K : PySem.W.Frag} {H : Hp} {d : PyData} {v : V} {n : Nat} (h : Dp K H v d) (e : RK.squareB n d = true) : ∃ a, v = .ref a ∧ TabX K H a n (RK.tabf d) ∧ ∀ i j, i < n → j < n → RK.tabf d i j < n := by
  obtain ⟨ds, e1, e2, e3⟩ := squareB_rows e
  obtain ⟨a, xs, rfl, sa, da⟩ := dp_row h e1
  have ec : RK.cellsOf d = ds := by unfold RK.cellsOf; rw [e1]; rfl
  have key : ∀ i (hi : i < n), ∃ r, xs[i]? = some (.ref r) ∧ RowX K H r n (RK.tabf d i) ∧ ∀ j, j < n → RK.tabf d i j < n := fun i hi => by
    have ix : i < xs.length := by rw [dpAll_len da, e2]; exact hi
    obtain ⟨d', q1, q2⟩ := dpAll_get da (List.getElem?_eq_getElem ix)
    obtain ⟨r, er, R, b⟩ := dp_side q2 (e3 d' (List.mem_of_getElem? q1))
    have tf : RK.tabf d i = fun j => RK.natOf ((RK.cellsOf d')[j]?.getD .none) := by
      funext j
      unfold RK.tabf
      rw [ec, q1]; rfl
    exact ⟨r, by rw [List.getElem?_eq_getElem ix, er], by rw [tf]; exact R, fun j hj => by rw [tf]; exact b j hj⟩
  obtain ⟨rs, ers⟩ : ∃ rs : List Addr, xs = rs.map V.ref := by
    have all : ∀ y ∈ xs, ∃ r, y = V.ref r := fun y m => by
      obtain ⟨i, hi⟩ := List.getElem?_of_mem m
      have : i < n := by have := (List.getElem?_eq_some_iff.mp hi).1; rw [dpAll_len da, e2] at this; exact this
      obtain ⟨r, er, _⟩ := key i this
      rw [er] at hi; cases hi; exact ⟨r, rfl⟩
    clear sa da key
    induction xs with
    | nil => exact ⟨[], rfl⟩
    | cons y ys ih =>
      obtain ⟨r, rfl⟩ := all y (List.mem_cons_self ..)
      obtain ⟨rs, rfl⟩ := ih fun z m => all z (List.mem_cons_of_mem _ m)
      exact ⟨r :: rs, rfl⟩
  subst ers
  have len := dpAll_len da
  rw [List.length_map, e2] at len
  refine ⟨a, rfl, ⟨rs, len, sa, fun i r hr => ?_⟩, fun i j hi hj => ?_⟩
  · have hi : i < n := by have := (List.getElem?_eq_some_iff.mp hr).1; omega
    obtain ⟨r', q, R, _⟩ := key i hi
    rw [List.getElem?_map, hr] at q
    cases q
    exact R
  · obtain ⟨r', q, R, b⟩ := key i hi
    exact b j hj
theorem rows_dp {K : PySem.W.Frag} {H : Hp} {r : Addr} {n : Nat} {g : Nat → Nat} (h : RowX K H r n g) (b : ∀ j, j < n → g j < n) : ∃ d, Dp K H (.ref r) d ∧ RK.sideB n d = true ∧ ∀ j, j < n → RK.natOf ((RK.cellsOf d)[j]?.getD .none) = g j := by
  have all : ∀ m : Nat, DpAll K H ((List.range m).map fun j => V.int (g j : Nat)) ((List.range m).map fun j => PyData.int (g j : Nat)) := fun m => by
    have : ∀ l : List Nat, DpAll K H (l.map fun j => V.int (g j : Nat)) (l.map fun j => PyData.int (g j : Nat)) := fun l => by
      induction l with
      | nil => exact .nil
      | cons x l ih => exact .cons (.int _) ih
    exact this _
  have sb : (decide (((List.range n).map fun j => PyData.int (g j : Nat)).length = n) && ((List.range n).map fun j => PyData.int (g j : Nat)).all (RK.belowB n)) = true := by
    rw [Bool.and_eq_true, decide_eq_true_eq, List.all_eq_true]
    refine ⟨by simp, fun x m => ?_⟩
    obtain ⟨j, mj, rfl⟩ := List.mem_map.mp m
    have := b j (List.mem_range.mp mj)
    exact decide_eq_true (by omega)
  have val : ∀ j, j < n → RK.natOf ((((List.range n).map fun j => PyData.int (g j : Nat))[j]?).getD .none) = g j := fun j hj => by
    rw [List.getElem?_map, List.getElem?_range hj]
    simp [RK.natOf]
  rcases h with h | h
  · exact ⟨_, .lst h (all n), by unfold RK.sideB; exact sb, val⟩
  · exact ⟨_, .tup h (all n), by unfold RK.sideB; exact sb, val⟩
theorem tab_dp {K : PySem.W.Frag} {H : Hp} {a : Addr} {n : Nat} {f : Nat → Nat → Nat} (h : TabX K H a n f) (b : ∀ i j, i < n → j < n → f i j < n) : ∃ d, Dp K H (.ref a) d ∧ RK.squareB n d = true ∧ (∀ i j, i < n → j < n → RK.tabf d i j = f i j) ∧ ∃ ds, RK.rowsOf d = some ds ∧ ds.length = n := by
  obtain ⟨rs, len, sa, rows⟩ := h
  have each : ∀ (i : Nat) (r : Addr), rs[i]? = some r → ∃ d, Dp K H (.ref r) d ∧ RK.sideB n d = true ∧ ∀ j, j < n → RK.natOf ((RK.cellsOf d)[j]?.getD .none) = f i j := fun i r hr => by
    have hi : i < n := by have := (List.getElem?_eq_some_iff.mp hr).1; omega
    exact rows_dp (rows i r hr) fun j hj => b i j hi hj
  obtain ⟨ds, all, dl, prop⟩ : ∃ ds, DpAll K H (rs.map V.ref) ds ∧ ds.length = n ∧ ∀ (i : Nat) (d : PyData), ds[i]? = some d → RK.sideB n d = true ∧ ∀ j, j < n → RK.natOf ((RK.cellsOf d)[j]?.getD .none) = f i j := by
    have gen : ∀ (ts : List Addr) (k : Nat), (∀ (i : Nat) (r : Addr), ts[i]? = some r → ∃ d, Dp K H (.ref r) d ∧ RK.sideB n d = true ∧ ∀ j, j < n → RK.natOf ((RK.cellsOf d)[j]?.getD .none) = f (k + i) j) →
        ∃ ds, DpAll K H (ts.map V.ref) ds ∧ ds.length = ts.length ∧ ∀ (i : Nat) (d : PyData), ds[i]? = some d → RK.sideB n d = true ∧ ∀ j, j < n → RK.natOf ((RK.cellsOf d)[j]?.getD .none) = f (k + i) j := by
      intro ts
      induction ts with
      | nil => intro k _; exact ⟨[], .nil, rfl, fun i d e => by simp at e⟩
      | cons t ts ih =>
        intro k h
        obtain ⟨d, h1, h2⟩ := h 0 t rfl
        obtain ⟨ds, q1, q2, q3⟩ := ih (k + 1) fun i r hr => by
          have := h (i + 1) r (by simpa using hr)
          rwa [show k + (i + 1) = k + 1 + i from by omega] at this
        refine ⟨d :: ds, .cons h1 q1, by rw [List.length_cons, List.length_cons, q2], fun i d' e => ?_⟩
        cases i with
        | zero => simp at e; subst e; exact h2
        | succ i =>
          have := q3 i d' (by simpa using e)
          rwa [show k + 1 + i = k + (i + 1) from by omega] at this
    obtain ⟨ds, q1, q2, q3⟩ := gen rs 0 (by simpa using each)
    exact ⟨ds, q1, by rw [q2, len], by simpa using q3⟩
  have sb : (decide (ds.length = n) && ds.all (RK.sideB n)) = true := by
    rw [Bool.and_eq_true, decide_eq_true_eq, List.all_eq_true]
    refine ⟨dl, fun x m => ?_⟩
    obtain ⟨i, hi⟩ := List.getElem?_of_mem m
    exact (prop i x hi).1
  have val : ∀ i j, i < n → j < n → RK.natOf ((RK.cellsOf ((ds[i]?).getD .none))[j]?.getD .none) = f i j := fun i j hi hj => by
    have il : i < ds.length := by omega
    rw [List.getElem?_eq_getElem il, Option.getD_some]
    exact (prop i _ (List.getElem?_eq_getElem il)).2 j hj
  rcases sa with sa | sa
  · exact ⟨_, .lst sa all, by unfold RK.squareB; exact sb, val, ds, rfl, dl⟩
  · exact ⟨_, .tup sa all, by unfold RK.squareB; exact sb, val, ds, rfl, dl⟩
/-- the data of a thing, a dict among them -/
def Dq (K : PySem.W.Frag) (H : Hp) (v : V) (d : PyData) : Prop := Dp K H v d ∨ (d = .dict [] ∧ ∃ a kvs, v = .ref a ∧ H a = some (.dK kvs))
theorem Dq.same {K : PySem.W.Frag} {H H' : Hp} {v : V} {d : PyData} (h : Dq K H v d) (s : Same H H') : Dq K H' v d := by
  rcases h with h | ⟨e, a, kvs, h1, h2⟩
  · exact .inl (Dp.same s d v h)
  · exact .inr ⟨e, a, kvs, h1, s _ _ h2⟩
theorem Dq.dp {K : PySem.W.Frag} {H : Hp} {v : V} {d : PyData} {ds : List PyData} (h : Dq K H v d) (e : RK.rowsOf d = some ds) : Dp K H v d := by
  rcases h with h | ⟨rfl, _⟩
  · exact h
  · cases e
theorem dq_isRow {K : PySem.W.Frag} {H : Hp} {d : PyData} {v : V} (h : Dq K H v d) : ∃ t, TyX K H v t ∧ PySem.W.kitAny K t [.type "list", .type "tuple"] = some (RK.rowsOf d).isSome := by
  rcases h with h | ⟨rfl, a, kvs, rfl, h2⟩
  · exact dp_isRow h
  · refine ⟨.type "dict", .base (.dK h2), ?_⟩
    unfold PySem.W.kitAny
    rw [kit_ty (r := false) (by decide +kernel)]
    unfold PySem.W.kitAny
    rw [kit_ty (r := false) (by decide +kernel)]
    rfl
theorem dq_tab {K : PySem.W.Frag} {H : Hp} {d : PyData} {v : V} {n : Nat} (h : Dq K H v d) (e : RK.squareB n d = true) : ∃ a, v = .ref a ∧ TabX K H a n (RK.tabf d) ∧ ∀ i j, i < n → j < n → RK.tabf d i j < n := by
  obtain ⟨ds, e1, _⟩ := squareB_rows e
  exact dp_tab (h.dp e1) e
theorem d_seqFld {K : PySem.W.Frag} {σ : L2.St} {H : Hp} {R : It → Hp → Prop} {n : Nat} {x C dx pt : Addr} {fs : List (Str × V)} {f : Str} {xs : List V} (ev : σ[n]? = some (some (.ref x))) (ex : H x = some (.ins C dx fs)) (cl : Cls K C) (na : NoAttr K C f) (lk : fs.lookup f = some (.ref pt)) (h : SeqAt K H pt xs)
    (k : ∀ J G, Walk J xs.length G (YAt xs) → (∀ H', Same H H' → G H') → R J H) : iOr (iList K (tFld K (tVar n) f)) (iTup K (tFld K (tVar n) f)) σ H R := by
  rcases h with h | h
  · exact .inl (RD.d_iList (RD.d_fld (RD.d_var ev ⟨x, C, dx, fs, _, rfl, ex, cl, na, lk, pt, rfl, ⟨xs, h⟩, k _ _ walk_list fun H' s => s.seq h⟩)))
  · exact .inr (RD.d_fld (RD.d_var ev ⟨x, C, dx, fs, _, rfl, ex, cl, na, lk, pt, rfl, ⟨xs, h⟩, k _ _ walk_tup fun H' s => sqT_same h s⟩))
end OQ
namespace RD
open PySem L2
/-- a list of two taken apart by two names -/
theorem d_twoL {K : PySem.W.Frag} {n i j : Nat} {a : Addr} {x y : V} {σ : L2.St} {H : Hp} {R : L2.St → Hp → Prop} (en : n = 2) (e : SqL K H a [x, y]) (k : R ((σ.set i (some x)).set j (some y)) H) :
    gLst K n (gCons (gName i) (gCons (gName j) gNil)) (.ref a) σ H R := ⟨a, [x, y], rfl, e, en.symm, x, [y], rfl, y, [], rfl, rfl, k⟩
end RD
namespace OQ
open PySem L2 PySem.Spec PyProof.Rows
def rListK (K : PySem.W.Frag) : List V → Hp → VK → Prop := fun xs H Q => ∃ p ys, xs = [.ref p] ∧ SeqAt K H p ys ∧ ∀ l, H l = none → Q (.ref l) (upd H l (.lst ys))
theorem listK {X : Cx} (K : PySem.W.Frag) (h : X.K = K := by rfl) : CallR X (.type "list") (rListK K) := h ▸ call_list_of
theorem dpAll_ofP {K : PySem.W.Frag} {H : Hp} {P : Nat → PyData → Prop} : ∀ {vs : List V} {k : Nat}, (∀ i v, vs[i]? = some v → ∃ d, Dp K H v d ∧ P (k + i) d) → ∃ ds, DpAll K H vs ds ∧ ∀ i d, ds[i]? = some d → P (k + i) d
  | [], _, _ => ⟨[], .nil, fun i d e => by simp at e⟩
  | v :: vs, k, h => by
    obtain ⟨d, h1, h2⟩ := h 0 v rfl
    obtain ⟨ds, q1, q2⟩ := dpAll_ofP (vs := vs) (k := k + 1) fun i x e => by
      have := h (i + 1) x (by simpa using e)
      rwa [show k + (i + 1) = k + 1 + i from by omega] at this
    refine ⟨d :: ds, .cons h1 q1, fun i d' e => ?_⟩
    cases i with
    | zero => simp at e; subst e; exact h2
    | succ i =>
      have := q2 i d' (by simpa using e)
      rwa [show k + 1 + i = k + (i + 1) from by omega] at this
end OQ

/-! ### the data of a thing, dicts among them at any depth -/
namespace OQ
open PySem L2 PySem.Spec PyProof.Rows
mutual
inductive Dqd (K : PySem.W.Frag) (H : Hp) : V → PyData → Prop
  | non : Dqd K H .non .none
  | bl (b : Bool) : Dqd K H (.bl b) (.bool b)
  | int (i : Int) : Dqd K H (.int i) (.int i)
  | str (x : Str) : Dqd K H (.str x) (.str x)
  | lst {a : Addr} {xs : List V} {ds : List PyData} : SqL K H a xs → DqdAll K H xs ds → Dqd K H (.ref a) (.list ds)
  | tup {a : Addr} {xs : List V} {ds : List PyData} : SqT K H a xs → DqdAll K H xs ds → Dqd K H (.ref a) (.tuple ds)
  | dK {a : Addr} {kvs : List (Key × V)} : H a = some (.dK kvs) → Dqd K H (.ref a) (.dict [])
inductive DqdAll (K : PySem.W.Frag) (H : Hp) : List V → List PyData → Prop
  | nil : DqdAll K H [] []
  | cons {v : V} {vs : List V} {d : PyData} {ds : List PyData} : Dqd K H v d → DqdAll K H vs ds → DqdAll K H (v :: vs) (d :: ds)
end
mutual
theorem dqd_of {K : PySem.W.Frag} {H : Hp} : ∀ {v : V} {d : PyData}, Dp K H v d → Dqd K H v d
  | _, _, .non => .non
  | _, _, .bl b => .bl b
  | _, _, .int i => .int i
  | _, _, .str x => .str x
  | _, _, .lst s a => .lst s (dqdAll_of a)
  | _, _, .tup s a => .tup s (dqdAll_of a)
theorem dqdAll_of {K : PySem.W.Frag} {H : Hp} : ∀ {vs : List V} {ds : List PyData}, DpAll K H vs ds → DqdAll K H vs ds
  | _, _, .nil => .nil
  | _, _, .cons h t => .cons (dqd_of h) (dqdAll_of t)
end
mutual
theorem Dqd.same {K : PySem.W.Frag} {H H' : Hp} (s : Same H H') : ∀ {v : V} {d : PyData}, Dqd K H v d → Dqd K H' v d
  | _, _, .non => .non
  | _, _, .bl b => .bl b
  | _, _, .int i => .int i
  | _, _, .str x => .str x
  | _, _, .lst q a => .lst (Same.seq s q) (DqdAll.same s a)
  | _, _, .tup q a => .tup (sqT_same q s) (DqdAll.same s a)
  | _, _, .dK e => .dK (s _ _ e)
theorem DqdAll.same {K : PySem.W.Frag} {H H' : Hp} (s : Same H H') : ∀ {vs : List V} {ds : List PyData}, DqdAll K H vs ds → DqdAll K H' vs ds
  | _, _, .nil => .nil
  | _, _, .cons h t => .cons (Dqd.same s h) (DqdAll.same s t)
end
theorem dqd_row {K : PySem.W.Frag} {H : Hp} {v : V} {d : PyData} {ds : List PyData} (h : Dqd K H v d) (e : RK.rowsOf d = some ds) : ∃ a xs, v = .ref a ∧ SeqAt K H a xs ∧ DqdAll K H xs ds := by
  cases h with
  | lst q a => cases e; exact ⟨_, _, rfl, .inl q, a⟩
  | tup q a => cases e; exact ⟨_, _, rfl, .inr q, a⟩
  | non => cases e
  | bl b => cases e
  | int i => cases e
  | str x => cases e
  | dK q => cases e
theorem dqdAll_len {K : PySem.W.Frag} {H : Hp} : ∀ {vs : List V} {ds : List PyData}, DqdAll K H vs ds → vs.length = ds.length
  | _, _, .nil => rfl
  | _, _, .cons _ t => by rw [List.length_cons, List.length_cons, dqdAll_len t]
/-- rows of numbers below n are data without dicts -/
theorem dqd_below {K : PySem.W.Frag} {H : Hp} {n : Nat} {v : V} {d : PyData} (h : Dqd K H v d) (b : RK.belowB n d = true) : Dp K H v d := by
  cases h with
  | int i => exact .int i
  | non => cases b
  | bl c => cases b
  | str x => cases b
  | lst q a => cases b
  | tup q a => cases b
  | dK q => cases b
theorem dqdAll_dp {K : PySem.W.Frag} {H : Hp} {P : PyData → Bool} (step : ∀ {v d}, Dqd K H v d → P d = true → Dp K H v d) : ∀ {vs : List V} {ds : List PyData}, DqdAll K H vs ds → ds.all P = true → DpAll K H vs ds
  | _, _, .nil, _ => .nil
  | _, _, .cons h t, e => by
    rw [List.all_cons, Bool.and_eq_true] at e
    exact .cons (step h e.1) (dqdAll_dp step t e.2)
theorem dqd_rows {K : PySem.W.Frag} {H : Hp} {P : PyData → Bool} (step : ∀ {v d}, Dqd K H v d → P d = true → Dp K H v d) {v : V} {d : PyData} {ds : List PyData} (h : Dqd K H v d) (e : RK.rowsOf d = some ds) (a : ds.all P = true) : Dp K H v d := by
  cases h with
  | lst q t => cases e; exact .lst q (dqdAll_dp step t a)
  | tup q t => cases e; exact .tup q (dqdAll_dp step t a)
  | non => cases e
  | bl b => cases e
  | int i => cases e
  | str x => cases e
  | dK q => cases e
theorem dqd_side {K : PySem.W.Frag} {H : Hp} {n : Nat} {v : V} {d : PyData} (h : Dqd K H v d) (b : RK.sideB n d = true) : Dp K H v d := by
  unfold RK.sideB at b
  cases e : RK.rowsOf d with
  | none => rw [e] at b; cases b
  | some ds =>
    rw [e] at b
    dsimp only at b
    rw [Bool.and_eq_true] at b
    exact dqd_rows (fun h b => dqd_below h b) h e b.2
theorem dqd_square {K : PySem.W.Frag} {H : Hp} {n : Nat} {v : V} {d : PyData} (h : Dqd K H v d) (b : RK.squareB n d = true) : Dp K H v d := by
  unfold RK.squareB at b
  cases e : RK.rowsOf d with
  | none => rw [e] at b; cases b
  | some ds =>
    rw [e] at b
    dsimp only at b
    rw [Bool.and_eq_true] at b
    exact dqd_rows (fun h b => dqd_side h b) h e b.2
theorem dqdAll_get {K : PySem.W.Frag} {H : Hp} : ∀ {vs : List V} {ds : List PyData}, DqdAll K H vs ds → ∀ {i : Nat} {v : V}, vs[i]? = some v → ∃ d, ds[i]? = some d ∧ Dqd K H v d
  | _, _, .nil, i, v, e => by simp at e
  | _, _, .cons (d := d) h1 h2, i, v, e => by
    cases i with
    | zero => simp at e; subst e; exact ⟨d, rfl, h1⟩
    | succ i => simp at e; obtain ⟨d', q1, q2⟩ := dqdAll_get h2 e; exact ⟨d', by simpa using q1, q2⟩
theorem kitA_seq {K : PySem.W.Frag} {t : String} (h1 : PySem.W.kitOne K (.type t) (.type "list") = some false) (h2 : PySem.W.kitOne K (.type t) (.type "tuple") = some false) : PySem.W.kitAny K (.type t) [.type "list", .type "tuple"] = some false := by
  unfold PySem.W.kitAny
  rw [h1]
  unfold PySem.W.kitAny
  rw [h2]
  rfl
theorem kitAl {K : PySem.W.Frag} : PySem.W.kitAny K (.type "list") [.type "list", .type "tuple"] = some true := by
  unfold PySem.W.kitAny
  rw [kit_ty (r := true) (by decide +kernel)]
theorem kitAt {K : PySem.W.Frag} : PySem.W.kitAny K (.type "tuple") [.type "list", .type "tuple"] = some true := by
  unfold PySem.W.kitAny
  rw [kit_ty (r := false) (by decide +kernel)]
  unfold PySem.W.kitAny
  rw [kit_ty (r := true) (by decide +kernel)]
theorem dqd_isInt {K : PySem.W.Frag} {H : Hp} {d : PyData} {v : V} (h : Dqd K H v d) : ∃ (t : Value) (b1 b2 : Bool), TyX K H v t ∧ PySem.W.kitOne K t (.type "int") = some b1 ∧ PySem.W.kitOne K t (.type "bool") = some b2 ∧ RK.intB d = (b1 && !b2) := by
  have seq : ∀ {a : Addr} {xs : List V} {d : PyData}, SeqAt K H a xs → RK.intB d = false → ∃ (t : Value) (b1 b2 : Bool), TyX K H (.ref a) t ∧ PySem.W.kitOne K t (.type "int") = some b1 ∧ PySem.W.kitOne K t (.type "bool") = some b2 ∧ RK.intB d = (b1 && !b2) := fun q e => by
    obtain ⟨t, ty, z⟩ := SeqAt.ty q
    rcases z with rfl | rfl
    · exact ⟨_, false, false, ty, kit_ty (by decide +kernel), kit_ty (by decide +kernel), e⟩
    · exact ⟨_, false, false, ty, kit_ty (by decide +kernel), kit_ty (by decide +kernel), e⟩
  cases h with
  | non => exact dp_isInt (d := .none) .non
  | bl b => exact dp_isInt (d := .bool b) (.bl b)
  | int i => exact dp_isInt (d := .int i) (.int i)
  | str x => exact dp_isInt (d := .str x) (.str x)
  | lst q a => exact seq (.inl q) rfl
  | tup q a => exact seq (.inr q) rfl
  | dK q => exact ⟨_, false, false, .base (.dK q), kit_ty (by decide +kernel), kit_ty (by decide +kernel), rfl⟩
theorem dqd_isRow {K : PySem.W.Frag} {H : Hp} {d : PyData} {v : V} (h : Dqd K H v d) : ∃ t, TyX K H v t ∧ PySem.W.kitAny K t [.type "list", .type "tuple"] = some (RK.rowsOf d).isSome := by
  cases h with
  | non => exact dp_isRow (d := .none) .non
  | bl b => exact dp_isRow (d := .bool b) (.bl b)
  | int i => exact dp_isRow (d := .int i) (.int i)
  | str x => exact dp_isRow (d := .str x) (.str x)
  | lst q a =>
    obtain ⟨t, ty, z⟩ := SeqAt.ty (.inl q)
    refine ⟨t, ty, ?_⟩
    rcases z with rfl | rfl
    · exact kitAl
    · exact kitAt
  | tup q a =>
    obtain ⟨t, ty, z⟩ := SeqAt.ty (.inr q)
    refine ⟨t, ty, ?_⟩
    rcases z with rfl | rfl
    · exact kitAl
    · exact kitAt
  | dK q => exact dq_isRow (d := .dict []) (.inr ⟨rfl, _, _, rfl, q⟩)
theorem dqd_tab {K : PySem.W.Frag} {H : Hp} {d : PyData} {v : V} {n : Nat} (h : Dqd K H v d) (e : RK.squareB n d = true) : ∃ a, v = .ref a ∧ TabX K H a n (RK.tabf d) ∧ ∀ i j, i < n → j < n → RK.tabf d i j < n :=
  dp_tab (dqd_square h e) e
end OQ

/-! ### rows of numbers, compared -/
namespace OQ
open PySem L2 PySem.Spec PyProof.Rows
def Tn (p : List Nat) : List PyData := p.map fun (j : Nat) => .int (j : Int)
theorem Tn_all {K : PySem.W.Frag} {H : Hp} : ∀ p : List Nat, DpAll K H (WW.Ns p) (Tn p)
  | [] => .nil
  | j :: p => .cons (.int _) (Tn_all p)
theorem Tn_lay : ∀ p : List Nat, PyData.canLayAll0 (Tn p) = true ∧ PyData.depthAll (Tn p) = 0
  | [] => ⟨by rw [Tn, List.map_nil, PyData.canLayAll0], by rw [Tn, List.map_nil, PyData.depthAll]⟩
  | j :: p => by
    obtain ⟨h1, h2⟩ := Tn_lay p
    have e : Tn (j :: p) = .int (j : Int) :: Tn p := rfl
    rw [e, PyData.canLayAll0, PyData.canLay0, PyData.depthAll, PyData.depth, h1, h2]
    exact ⟨rfl, rfl⟩
theorem Tn_shaped (p : List Nat) : SeqAt.shaped (.tuple (Tn p)) = true := by
  obtain ⟨h1, h2⟩ := Tn_lay p
  unfold SeqAt.shaped; rw [PyData.canLay0, PyData.depth, h1, h2]; rfl
theorem Tn_eqv : ∀ p : List Nat, PyData.eqvAll (Tn p) (Tn p) = true
  | [] => by rw [Tn, List.map_nil, PyData.eqvAll]
  | j :: p => by
    have e : Tn (j :: p) = .int (j : Int) :: Tn p := rfl
    rw [e, PyData.eqvAll, PyData.eqv, Tn_eqv p]
    simp
/-- nothing, or the same way -/
def SameW (H : Hp) (v u : V) : Prop := (v = .non ∧ u = .non) ∨ ∃ t s p, v = .ref t ∧ u = .ref s ∧ H t = some (.tup (WW.Ns p)) ∧ H s = some (.tup (WW.Ns p))
theorem SameW.eq {K : PySem.W.Frag} {H : Hp} {Q : VK} {v u : V} (h : SameW H v u) (k : Q (.bl true) H) : rEqD K v u H Q := by
  rcases h with ⟨rfl, rfl⟩ | ⟨t, s, p, rfl, rfl, et, es⟩
  · exact ⟨_, _, .non, .non, rfl, rfl, by rw [PyData.eqv]; exact k⟩
  · exact ⟨_, _, .tup (SqT.of et) (Tn_all p), .tup (SqT.of es) (Tn_all p), Tn_shaped p, Tn_shaped p, by rw [PyData.eqv, Tn_eqv]; exact k⟩
theorem SameW.ne {K : PySem.W.Frag} {H : Hp} {Q : VK} {v u : V} (h : SameW H v u) (k : Q (.bl false) H) : rNeD K v u H Q := by
  rcases h with ⟨rfl, rfl⟩ | ⟨t, s, p, rfl, rfl, et, es⟩
  · exact ⟨_, _, .non, .non, rfl, rfl, by rw [PyData.eqv]; exact k⟩
  · exact ⟨_, _, .tup (SqT.of et) (Tn_all p), .tup (SqT.of es) (Tn_all p), Tn_shaped p, Tn_shaped p, by rw [PyData.eqv, Tn_eqv]; exact k⟩
end OQ

/-! ### reckonings that have none of the faults -/
namespace RK
open PySem L2
structure Gd (n : Nat) (J M : Nat → Nat → Nat) (z o : Nat) : Prop where
  zn : z < n
  on : o < n
  jn : ∀ a b, a < n → b < n → J a b < n
  mn : ∀ a b, a < n → b < n → M a b < n
  nj : ∀ a, a < n → J z a = a ∧ J a z = a ∧ M z a = z ∧ M a z = z
  om : ∀ a, a < n → M o a = a ∧ M a o = a
  id : ∀ a, a < n → J a a = a
  sw : ∀ a b, a < n → b < n → J a b = J b a
  ja : ∀ a b c, a < n → b < n → c < n → J (J a b) c = J a (J b c)
  ma : ∀ a b c, a < n → b < n → c < n → M (M a b) c = M a (M b c)
  ds : ∀ a b c, a < n → b < n → c < n → M a (J b c) = J (M a b) (M a c) ∧ M (J b c) a = J (M b a) (M c a)
  ne : z ≠ o
theorem Gd.rest {n : Nat} {J M : Nat → Nat → Nat} {z o : Nat} (h : Gd n J M z o) : restF n J M z o = none := by
  unfold restF
  have e1 : noneF n J M z = none := fnd_none fun a ha => if_pos (h.nj a ha)
  have e2 : oneF n M o = none := fnd_none fun a ha => if_pos (h.om a ha)
  have e3 : idleF n J = none := fnd_none fun a ha => if_pos (h.id a ha)
  have e4 : swapF n J = none := fnd_none fun a ha => fnd_none fun b hb => if_pos (h.sw a b ha hb)
  have e5 : groupF "join" n J = none := fnd_none fun a ha => fnd_none fun b hb => fnd_none fun c hc => if_pos (h.ja a b c ha hb hc)
  have e6 : groupF "product" n M = none := fnd_none fun a ha => fnd_none fun b hb => fnd_none fun c hc => if_pos (h.ma a b c ha hb hc)
  have e7 : overF n J M = none := fnd_none fun a ha => fnd_none fun b hb => fnd_none fun c hc => if_pos (h.ds a b c ha hb hc)
  have e8 : sameF z o = none := if_neg h.ne
  rw [e1, e2, e3, e4, e5, e6, e7, e8]; rfl
theorem of_ite {P : Prop} {inst : Decidable P} {x : Str × Int × Int × Int} (h : (if P then none else some x) = none) : P := by
  split at h
  · assumption
  · cases h
theorem Gd.of_rest {n : Nat} {J M : Nat → Nat → Nat} {z o : Nat} (zn : z < n) (on : o < n) (jn : ∀ a b, a < n → b < n → J a b < n) (mn : ∀ a b, a < n → b < n → M a b < n) (h : restF n J M z o = none) : Gd n J M z o := by
  unfold restF at h
  simp only [Option.or_eq_none_iff] at h
  obtain ⟨h1, h2, h3, h4, h5, h6, h7, h8⟩ := h
  refine ⟨zn, on, jn, mn, fun a ha => of_ite (fnd_all h1 a ha), fun a ha => of_ite (fnd_all h2 a ha), fun a ha => of_ite (fnd_all h3 a ha), fun a b ha hb => of_ite (fnd_all (fnd_all h4 a ha) b hb), fun a b c ha hb hc => of_ite (fnd_all (fnd_all (fnd_all h5 a ha) b hb) c hc), fun a b c ha hb hc => of_ite (fnd_all (fnd_all (fnd_all h6 a ha) b hb) c hc), fun a b c ha hb hc => of_ite (fnd_all (fnd_all (fnd_all h7 a ha) b hb) c hc), fun e => ?_⟩
  unfold sameF at h8
  rw [if_pos e] at h8
  cases h8
/-! chains -/
def cutP (n a b : Nat) : Nat := a + b - (n - 1)
def topP (n a b : Nat) : Nat := if a = n - 1 ∨ b = n - 1 then min a b else 0
def fourP (a b : Nat) : Nat := ([[0, 0, 0, 0], [0, 0, 1, 1], [0, 0, 2, 2], [0, 1, 2, 3]].getD a []).getD b 0
theorem gd_min {n : Nat} (h : 2 ≤ n) : Gd n max min 0 (n - 1) :=
  ⟨by omega, by omega, fun a b ha hb => by omega, fun a b ha hb => by omega, fun a ha => by omega, fun a ha => by omega, fun a ha => by omega, fun a b ha hb => by omega, fun a b c ha hb hc => by omega, fun a b c ha hb hc => by omega, fun a b c ha hb hc => by omega, by omega⟩
theorem gd_cut {n : Nat} (h : 2 ≤ n) : Gd n max (cutP n) 0 (n - 1) := by
  unfold cutP
  exact ⟨by omega, by omega, fun a b ha hb => by omega, fun a b ha hb => by omega, fun a ha => by omega, fun a ha => by omega, fun a ha => by omega, fun a b ha hb => by omega, fun a b c ha hb hc => by omega, fun a b c ha hb hc => by omega, fun a b c ha hb hc => by omega, by omega⟩
theorem top_l {n b : Nat} (hb : b < n) : topP n (n - 1) b = b := by unfold topP; rw [if_pos (.inl rfl)]; omega
theorem top_r {n a : Nat} (ha : a < n) : topP n a (n - 1) = a := by unfold topP; rw [if_pos (.inr rfl)]; omega
theorem top_0 {n a b : Nat} (ha : a ≠ n - 1) (hb : b ≠ n - 1) : topP n a b = 0 := by unfold topP; rw [if_neg (fun z => z.elim ha hb)]
theorem top_lt {n a b : Nat} (ha : a < n) : topP n a b < n := by unfold topP; split <;> omega
theorem top_max {n a b c : Nat} (ha : a < n) (hb : b < n) (hc : c < n) : topP n a (max b c) = max (topP n a b) (topP n a c) := by
  by_cases h1 : a = n - 1
  · subst h1; rw [top_l hb, top_l hc, top_l (by omega)]
  · by_cases h2 : b = n - 1
    · subst h2
      rw [show max (n - 1) c = n - 1 by omega, top_r ha]
      by_cases h3 : c = n - 1
      · subst h3; rw [top_r ha]; omega
      · rw [top_0 h1 h3]; omega
    · rw [top_0 h1 h2]
      by_cases h3 : c = n - 1
      · subst h3; rw [show max b (n - 1) = n - 1 by omega, top_r ha]; omega
      · rw [top_0 h1 h3, top_0 h1 (by omega)]; rfl
theorem top_comm {n a b : Nat} : topP n a b = topP n b a := by
  unfold topP
  by_cases h : a = n - 1 ∨ b = n - 1
  · rw [if_pos h, if_pos h.symm, Nat.min_comm]
  · rw [if_neg h, if_neg fun z => h z.symm]
theorem gd_top {n : Nat} (h : 2 ≤ n) : Gd n max (topP n) 0 (n - 1) := by
  have t0 : (0 : Nat) ≠ n - 1 := by omega
  have z0 : ∀ a, topP n 0 a = 0 := fun a => by unfold topP; split <;> omega
  have zr : ∀ a, topP n a 0 = 0 := fun a => by rw [top_comm]; exact z0 a
  refine ⟨by omega, by omega, fun a b ha hb => by omega, fun a b ha hb => top_lt ha, fun a ha => ⟨by omega, by omega, z0 a, zr a⟩, fun a ha => ⟨top_l ha, top_r ha⟩, fun a ha => by omega, fun a b ha hb => by omega, fun a b c ha hb hc => by omega, fun a b c ha hb hc => ?_, fun a b c ha hb hc => ⟨top_max ha hb hc, ?_⟩, by omega⟩
  · by_cases h1 : a = n - 1
    · subst h1; rw [top_l hb, top_l (top_lt hb)]
    · by_cases h2 : b = n - 1
      · subst h2; rw [top_r ha, top_l hc]
      · by_cases h3 : c = n - 1
        · subst h3; rw [top_r hb, top_r (top_lt ha)]
        · rw [top_0 h1 h2, top_0 h2 h3, z0, zr]
  · rw [top_comm, top_max ha hb hc, top_comm (a := a) (b := b), top_comm (a := a) (b := c)]
theorem gd_four : Gd 4 max fourP 0 3 :=
  .of_rest (by omega) (by omega) (fun a b ha hb => by omega) (fun a b ha hb => (by decide : ∀ a, a < 4 → ∀ b, b < 4 → fourP a b < 4) a ha b hb) (by decide +kernel)
/-! turned, named anew, beside -/
theorem Gd.turned {n : Nat} {J M : Nat → Nat → Nat} {z o : Nat} (h : Gd n J M z o) : Gd n J (fun a b => M b a) z o :=
  ⟨h.zn, h.on, h.jn, fun a b ha hb => h.mn b a hb ha, fun a ha => ⟨(h.nj a ha).1, (h.nj a ha).2.1, (h.nj a ha).2.2.2, (h.nj a ha).2.2.1⟩, fun a ha => ⟨(h.om a ha).2, (h.om a ha).1⟩, h.id, h.sw, h.ja,
    fun a b c ha hb hc => (h.ma c b a hc hb ha).symm, fun a b c ha hb hc => ⟨(h.ds a b c ha hb hc).2, (h.ds a b c ha hb hc).1⟩, h.ne⟩
/-- σ and τ are each other's way back -/
structure Bij (n : Nat) (σ τ : Nat → Nat) : Prop where
  sn : ∀ a, a < n → σ a < n
  tn : ∀ a, a < n → τ a < n
  ts : ∀ a, a < n → τ (σ a) = a
  st : ∀ a, a < n → σ (τ a) = a
def ren (σ τ : Nat → Nat) (J : Nat → Nat → Nat) (a b : Nat) : Nat := σ (J (τ a) (τ b))
theorem Gd.renamed {n : Nat} {J M : Nat → Nat → Nat} {z o : Nat} {σ τ : Nat → Nat} (h : Gd n J M z o) (b : Bij n σ τ) : Gd n (ren σ τ J) (ren σ τ M) (σ z) (σ o) := by
  have J' := fun a b' ha hb => b.ts (J a b') (h.jn a b' ha hb)
  have M' := fun a b' ha hb => b.ts (M a b') (h.mn a b' ha hb)
  unfold ren
  refine ⟨b.sn z h.zn, b.sn o h.on, fun x y hx hy => b.sn _ (h.jn _ _ (b.tn x hx) (b.tn y hy)), fun x y hx hy => b.sn _ (h.mn _ _ (b.tn x hx) (b.tn y hy)), fun x hx => ?_, fun x hx => ?_, fun x hx => ?_, fun x y hx hy => ?_, fun x y w hx hy hw => ?_, fun x y w hx hy hw => ?_, fun x y w hx hy hw => ?_, fun e => ?_⟩
  · obtain ⟨h1, h2, h3, h4⟩ := h.nj _ (b.tn x hx)
    rw [b.ts z h.zn, h1, h2, h3, h4]
    exact ⟨b.st x hx, b.st x hx, rfl, rfl⟩
  · obtain ⟨h1, h2⟩ := h.om _ (b.tn x hx)
    rw [b.ts o h.on, h1, h2]
    exact ⟨b.st x hx, b.st x hx⟩
  · rw [h.id _ (b.tn x hx), b.st x hx]
  · rw [h.sw _ _ (b.tn x hx) (b.tn y hy)]
  · rw [J' _ _ (b.tn x hx) (b.tn y hy), J' _ _ (b.tn y hy) (b.tn w hw), h.ja _ _ _ (b.tn x hx) (b.tn y hy) (b.tn w hw)]
  · rw [M' _ _ (b.tn x hx) (b.tn y hy), M' _ _ (b.tn y hy) (b.tn w hw), h.ma _ _ _ (b.tn x hx) (b.tn y hy) (b.tn w hw)]
  · obtain ⟨h1, h2⟩ := h.ds _ _ _ (b.tn x hx) (b.tn y hy) (b.tn w hw)
    rw [J' _ _ (b.tn y hy) (b.tn w hw), M' _ _ (b.tn x hx) (b.tn y hy), M' _ _ (b.tn x hx) (b.tn w hw), M' _ _ (b.tn y hy) (b.tn x hx), M' _ _ (b.tn w hw) (b.tn x hx), h1, h2]
    exact ⟨rfl, rfl⟩
  · have := congrArg τ e
    rw [b.ts z h.zn, b.ts o h.on] at this
    exact h.ne this
def bes (m : Nat) (f g : Nat → Nat → Nat) (a b : Nat) : Nat := f (a / m) (b / m) * m + g (a % m) (b % m)
theorem bes_lt {n m x y : Nat} (hx : x < n) (hy : y < m) : x * m + y < n * m := by
  have : (x + 1) * m ≤ n * m := Nat.mul_le_mul_right m hx
  rw [Nat.add_mul, Nat.one_mul] at this
  omega
theorem bes_div {m x y : Nat} (hy : y < m) : (x * m + y) / m = x := by
  rw [Nat.add_comm, Nat.add_mul_div_right _ _ (by omega), Nat.div_eq_of_lt hy, Nat.zero_add]
theorem bes_mod {m x y : Nat} (hy : y < m) : (x * m + y) % m = y := by
  rw [Nat.add_comm, Nat.add_mul_mod_self_right, Nat.mod_eq_of_lt hy]
theorem Gd.beside {n m : Nat} {J M J' M' : Nat → Nat → Nat} {z o z' o' : Nat} (h : Gd n J M z o) (g : Gd m J' M' z' o') : Gd (n * m) (bes m J J') (bes m M M') (z * m + z') (o * m + o') := by
  have m0 : 0 < m := Nat.lt_of_le_of_lt (Nat.zero_le _) g.zn
  have q : ∀ {a : Nat}, a < n * m → a / m < n := fun ha => Nat.div_lt_of_lt_mul (by rw [Nat.mul_comm]; exact ha)
  have r : ∀ {a : Nat}, a % m < m := Nat.mod_lt _ m0
  have back : ∀ {a : Nat}, a / m * m + a % m = a := fun {a} => Nat.div_add_mod' a m
  unfold bes
  refine ⟨bes_lt h.zn g.zn, bes_lt h.on g.on, fun a b ha hb => bes_lt (h.jn _ _ (q ha) (q hb)) (g.jn _ _ r r), fun a b ha hb => bes_lt (h.mn _ _ (q ha) (q hb)) (g.mn _ _ r r), fun a ha => ?_, fun a ha => ?_, fun a ha => ?_, fun a b ha hb => ?_, fun a b c ha hb hc => ?_, fun a b c ha hb hc => ?_, fun a b c ha hb hc => ?_, fun e => ?_⟩
  · obtain ⟨h1, h2, h3, h4⟩ := h.nj _ (q ha)
    obtain ⟨g1, g2, g3, g4⟩ := g.nj (a % m) r
    rw [bes_div g.zn, bes_mod g.zn, h1, h2, h3, h4, g1, g2, g3, g4]
    exact ⟨back, back, rfl, rfl⟩
  · obtain ⟨h1, h2⟩ := h.om _ (q ha)
    obtain ⟨g1, g2⟩ := g.om (a % m) r
    rw [bes_div g.on, bes_mod g.on, h1, h2, g1, g2]
    exact ⟨back, back⟩
  · rw [h.id _ (q ha), g.id (a % m) r]; exact back
  · rw [h.sw _ _ (q ha) (q hb), g.sw (a % m) (b % m) r r]
  · rw [bes_div (g.jn _ _ r r), bes_mod (g.jn _ _ r r), bes_div (g.jn _ _ r r), bes_mod (g.jn _ _ r r), h.ja _ _ _ (q ha) (q hb) (q hc), g.ja (a % m) (b % m) (c % m) r r r]
  · rw [bes_div (g.mn _ _ r r), bes_mod (g.mn _ _ r r), bes_div (g.mn _ _ r r), bes_mod (g.mn _ _ r r), h.ma _ _ _ (q ha) (q hb) (q hc), g.ma (a % m) (b % m) (c % m) r r r]
  · obtain ⟨h1, h2⟩ := h.ds _ _ _ (q ha) (q hb) (q hc)
    obtain ⟨g1, g2⟩ := g.ds (a % m) (b % m) (c % m) r r r
    rw [bes_div (g.jn _ _ r r), bes_mod (g.jn _ _ r r), bes_div (g.mn _ _ r r), bes_mod (g.mn _ _ r r), bes_div (g.mn _ _ r r), bes_mod (g.mn _ _ r r), bes_div (g.mn _ _ r r), bes_mod (g.mn _ _ r r), bes_div (g.mn _ _ r r), bes_mod (g.mn _ _ r r), h1, h2, g1, g2]
    exact ⟨rfl, rfl⟩
  · have := congrArg (· / m) e
    simp only [bes_div g.zn, bes_div g.on] at this
    exact h.ne this
/-! lots -/
def Lb (n : Nat) (P : Nat → Nat → Nat) (a b z : Nat) : Prop := ∃ x y, x < n ∧ y < n ∧ a.testBit x = true ∧ b.testBit y = true ∧ P x y = z
def lotP (n : Nat) (P : Nat → Nat → Nat) (a b : Nat) : Nat := ((List.range n).flatMap fun x => (List.range n).map fun y => (x, y)).foldl (fun f p => if a.testBit p.1 && b.testBit p.2 then f ||| 2 ^ P p.1 p.2 else f) 0
theorem fold_bit {l : List (Nat × Nat)} {a b z : Nat} {P : Nat → Nat → Nat} : ∀ {f : Nat}, (l.foldl (fun f p => if a.testBit p.1 && b.testBit p.2 then f ||| 2 ^ P p.1 p.2 else f) f).testBit z = true ↔ f.testBit z = true ∨ ∃ p ∈ l, a.testBit p.1 = true ∧ b.testBit p.2 = true ∧ P p.1 p.2 = z := by
  induction l with
  | nil => intro f; simp
  | cons p l ih =>
    intro f
    rw [List.foldl_cons, ih]
    by_cases c : (a.testBit p.1 && b.testBit p.2) = true
    · rw [if_pos c, Nat.testBit_or, Nat.testBit_two_pow, Bool.or_eq_true, decide_eq_true_eq]
      rw [Bool.and_eq_true] at c
      constructor
      · rintro ((h | h) | ⟨q, m, h⟩)
        · exact .inl h
        · exact .inr ⟨p, List.mem_cons_self .., c.1, c.2, h⟩
        · exact .inr ⟨q, List.mem_cons_of_mem _ m, h⟩
      · rintro (h | ⟨q, m, h⟩)
        · exact .inl (.inl h)
        · rcases List.mem_cons.mp m with rfl | m
          · exact .inl (.inr h.2.2)
          · exact .inr ⟨q, m, h⟩
    · rw [if_neg c]
      rw [Bool.and_eq_true] at c
      constructor
      · rintro (h | ⟨q, m, h⟩)
        · exact .inl h
        · exact .inr ⟨q, List.mem_cons_of_mem _ m, h⟩
      · rintro (h | ⟨q, m, h⟩)
        · exact .inl h
        · rcases List.mem_cons.mp m with rfl | m
          · exact absurd ⟨h.1, h.2.1⟩ c
          · exact .inr ⟨q, m, h⟩
theorem lot_bit {n : Nat} {P : Nat → Nat → Nat} {a b z : Nat} : (lotP n P a b).testBit z = true ↔ Lb n P a b z := by
  unfold lotP Lb
  rw [fold_bit]
  constructor
  · rintro (h | ⟨p, m, h⟩)
    · simp at h
    · obtain ⟨x, mx, m⟩ := List.mem_flatMap.mp m
      obtain ⟨y, my, rfl⟩ := List.mem_map.mp m
      exact ⟨x, y, List.mem_range.mp mx, List.mem_range.mp my, h⟩
  · rintro ⟨x, y, hx, hy, h⟩
    exact .inr ⟨(x, y), List.mem_flatMap.mpr ⟨x, List.mem_range.mpr hx, List.mem_map.mpr ⟨y, List.mem_range.mpr hy, rfl⟩⟩, h⟩
theorem bits_eq {a b : Nat} (h : ∀ z, a.testBit z = true ↔ b.testBit z = true) : a = b := Nat.eq_of_testBit_eq fun z => by
  have := h z
  cases ha : a.testBit z <;> cases hb : b.testBit z <;> rw [ha, hb] at this <;> simp at this ⊢
theorem bit_lt {a n x : Nat} (h : a < 2 ^ n) (e : a.testBit x = true) : x < n := Nat.lt_of_not_le fun c => by
  rw [Nat.testBit_lt_two_pow (Nat.lt_of_lt_of_le h (Nat.pow_le_pow_right (by omega) c))] at e
  cases e
theorem lt_bits {a n : Nat} (h : ∀ x, a.testBit x = true → x < n) : a < 2 ^ n := Nat.lt_pow_two_of_testBit a fun i hi => by
  cases e : a.testBit i with
  | false => rfl
  | true => have := h i e; omega
/-- products of things: one is neutral, brackets don't count -/
structure Mo (n : Nat) (P : Nat → Nat → Nat) (o : Nat) : Prop where
  on : o < n
  pn : ∀ a b, a < n → b < n → P a b < n
  om : ∀ a, a < n → P o a = a ∧ P a o = a
  as : ∀ a b c, a < n → b < n → c < n → P (P a b) c = P a (P b c)
theorem lot_lt {n : Nat} {P : Nat → Nat → Nat} {a b : Nat} (pn : ∀ a b, a < n → b < n → P a b < n) : lotP n P a b < 2 ^ n := lt_bits fun z h => by
  obtain ⟨x, y, hx, hy, _, _, rfl⟩ := lot_bit.mp h
  exact pn x y hx hy
theorem Mo.lots {n : Nat} {P : Nat → Nat → Nat} {o : Nat} (h : Mo n P o) : Gd (2 ^ n) (fun a b => a ||| b) (lotP n P) 0 (2 ^ o) := by
  have z0 : ∀ x, (0 : Nat).testBit x = true → False := fun x e => by simp at e
  have p0 : ∀ x, (2 ^ o).testBit x = true ↔ o = x := fun x => by rw [Nat.testBit_two_pow, decide_eq_true_eq]
  have o0 : ∀ {a b x : Nat}, (a ||| b).testBit x = true ↔ a.testBit x = true ∨ b.testBit x = true := fun {a b x} => by rw [Nat.testBit_or, Bool.or_eq_true]
  refine ⟨Nat.two_pow_pos _, Nat.pow_lt_pow_right (by omega) h.on, fun a b ha hb => Nat.or_lt_two_pow ha hb, fun a b _ _ => lot_lt h.pn, fun a ha => ⟨Nat.zero_or a, Nat.or_zero a, bits_eq fun z => ?_, bits_eq fun z => ?_⟩, fun a ha => ⟨bits_eq fun z => ?_, bits_eq fun z => ?_⟩, fun a _ => Nat.or_self a, fun a b _ _ => Nat.or_comm a b, fun a b c _ _ _ => Nat.or_assoc a b c, fun a b c ha hb hc => bits_eq fun z => ?_, fun a b c ha hb hc => ⟨bits_eq fun z => ?_, bits_eq fun z => ?_⟩, fun e => ?_⟩
  · exact ⟨fun e => by obtain ⟨x, y, _, _, e, _⟩ := lot_bit.mp e; exact (z0 _ e).elim, fun e => (z0 _ e).elim⟩
  · exact ⟨fun e => by obtain ⟨x, y, _, _, _, e, _⟩ := lot_bit.mp e; exact (z0 _ e).elim, fun e => (z0 _ e).elim⟩
  · rw [lot_bit]
    exact ⟨fun ⟨x, y, hx, hy, e1, e2, e3⟩ => by rw [← (p0 x).mp e1, (h.om y hy).1] at e3; rw [← e3]; exact e2, fun e => ⟨o, z, h.on, bit_lt ha e, (p0 o).mpr rfl, e, (h.om z (bit_lt ha e)).1⟩⟩
  · rw [lot_bit]
    exact ⟨fun ⟨x, y, hx, hy, e1, e2, e3⟩ => by rw [← (p0 y).mp e2, (h.om x hx).2] at e3; rw [← e3]; exact e1, fun e => ⟨z, o, bit_lt ha e, h.on, e, (p0 o).mpr rfl, (h.om z (bit_lt ha e)).2⟩⟩
  · rw [lot_bit, lot_bit]
    constructor
    · rintro ⟨xy, w, h1, h2, e1, e2, e3⟩
      obtain ⟨x, y, hx, hy, f1, f2, f3⟩ := lot_bit.mp e1
      exact ⟨x, P y w, hx, h.pn y w hy h2, f1, lot_bit.mpr ⟨y, w, hy, h2, f2, e2, rfl⟩, by rw [← h.as x y w hx hy h2, f3]; exact e3⟩
    · rintro ⟨x, yw, h1, h2, e1, e2, e3⟩
      obtain ⟨y, w, hy, hw, f1, f2, f3⟩ := lot_bit.mp e2
      exact ⟨P x y, w, h.pn x y h1 hy, hw, lot_bit.mpr ⟨x, y, h1, hy, e1, f1, rfl⟩, f2, by rw [h.as x y w h1 hy hw, f3]; exact e3⟩
  · rw [lot_bit, o0, lot_bit, lot_bit]
    constructor
    · rintro ⟨x, y, hx, hy, e1, e2, e3⟩
      exact (o0.mp e2).elim (fun e => .inl ⟨x, y, hx, hy, e1, e, e3⟩) fun e => .inr ⟨x, y, hx, hy, e1, e, e3⟩
    · rintro (⟨x, y, hx, hy, e1, e2, e3⟩ | ⟨x, y, hx, hy, e1, e2, e3⟩)
      · exact ⟨x, y, hx, hy, e1, o0.mpr (.inl e2), e3⟩
      · exact ⟨x, y, hx, hy, e1, o0.mpr (.inr e2), e3⟩
  · rw [lot_bit, o0, lot_bit, lot_bit]
    constructor
    · rintro ⟨x, y, hx, hy, e1, e2, e3⟩
      exact (o0.mp e1).elim (fun e => .inl ⟨x, y, hx, hy, e, e2, e3⟩) fun e => .inr ⟨x, y, hx, hy, e, e2, e3⟩
    · rintro (⟨x, y, hx, hy, e1, e2, e3⟩ | ⟨x, y, hx, hy, e1, e2, e3⟩)
      · exact ⟨x, y, hx, hy, o0.mpr (.inl e1), e2, e3⟩
      · exact ⟨x, y, hx, hy, o0.mpr (.inr e1), e2, e3⟩
  · have := Nat.two_pow_pos o
    omega
end RK

/-! ### a method of a list, inside a comprehension -/
namespace OQ
open PySem L2 PySem.Spec PyProof.Rows
theorem mt_indexK {X : Cx} (K : PySem.W.Frag) (h : X.K = K := by rfl) : MtR X "list.index" (rIndex K) := h ▸ mt_index
theorem bmK {X : Cx} (K : PySem.W.Frag) {e : Expr} {T : String} {r : V → List V → Hp → VK → Prop} {to : TE} {t : TA} (hp : PE X e (tBM X.K T r to t)) (h : X.K = K := by rfl) : PE X e (tBM K T r to t) := h ▸ hp
end OQ

/-! ### a call whose receiver is of one of two classes -/
namespace OQ
open PySem L2 PySem.Spec PyProof.Rows
def tOrE (t u : TE) : TE := fun σ H Q => t σ H Q ∨ u σ H Q
theorem pe_orE {X : Cx} {e : Expr} {t u : TE} (h : PE X e t) (k : PE X e u) : PE X e (tOrE t u) := ⟨fun pins s σ H Q I z => z.elim (fun z => h.run pins s σ H Q I z) fun z => k.run pins s σ H Q I z⟩
end OQ

/-! ### texts joined -/
namespace WW
open PySem L2
theorem joinL_nil : ∀ ls : List (List Nat), TL.joinL [] ls = ls.flatten
  | [] => rfl
  | [p] => by simp [TL.joinL]
  | p :: q :: r => by
    rw [TL.joinL, joinL_nil (q :: r)]
    simp
theorem S_join (ls : List Wd) : Txt.join (S []) (ls.map S) = S ls.flatten := by
  have h := TL.tl_join (S []) (ls.map S)
  have e : TL.tl (S []) = [] := rfl
  rw [e, joinL_nil, List.map_map] at h
  have e2 : ls.map (TL.tl ∘ S) = ls := by
    have : ∀ l ∈ ls, (TL.tl ∘ S) l = l := fun l _ => rfl
    rw [List.map_congr_left this, List.map_id']
  rw [e2] at h
  rw [StrLaws.glued_eq_join (S []) (ls.map S) |> fun z => (show Txt.join (S []) (ls.map S) = Str.join (S []) (ls.map S) from z), S_of (Str.join _ _)]
  exact congrArg S h
/-- words of one letter -/
def Ones (ls : List Wd) : Prop := ∀ l ∈ ls, ∃ c, l = [c] ∧ Lt c
theorem Ones.flat : ∀ {ls : List Wd}, Ones ls → ls.flatten.length = ls.length ∧ Lw ls.flatten
  | [], _ => ⟨rfl, Lw.nil⟩
  | l :: ls, h => by
    obtain ⟨c, rfl, hc⟩ := h l (List.mem_cons_self ..)
    obtain ⟨h1, h2⟩ := Ones.flat (ls := ls) fun x m => h x (List.mem_cons_of_mem _ m)
    rw [List.flatten_cons]
    exact ⟨by rw [List.length_append, h1]; simp; omega, (Lw.one hc).app h2⟩
theorem Ones.snoc {ls : List Wd} {c : Nat} (h : Ones ls) (k : Lt c) : Ones (ls ++ [[c]]) := fun l m => (List.mem_append.mp m).elim (h l) fun z => ⟨c, List.mem_singleton.mp z, k⟩
theorem Ones.sum : ∀ {ls : List Wd}, Ones ls → ((ls.map S).map (·.length)).sum = ls.length
  | [], _ => rfl
  | l :: ls, h => by
    obtain ⟨c, rfl, hc⟩ := h l (List.mem_cons_self ..)
    have ih := Ones.sum (ls := ls) fun x m => h x (List.mem_cons_of_mem _ m)
    rw [List.map_cons, List.map_cons, List.sum_cons, ih, S_len]; simp; omega
end WW
namespace RD
open PySem L2
theorem d_m1 {r : V → List V → Hp → VK → Prop} {to te : TE} {σ : L2.St} {H : Hp} {Q : VK} (h : to σ H fun x H1 => (∃ a, x = .str a) ∧ te σ H1 fun y H2 => r x [y] H2 Q) : tM1 r to te σ H Q := h
end RD

/-! ### ways, compared as tuples -/
namespace WW
open PySem L2
def Ii (p : List Nat) : List Int := p.map fun (j : Nat) => (j : Int)
def lx (p q : List Nat) : Bool := HT.lexLt (Ii p) (Ii q)
theorem lx_cons (x y : Nat) (p q : List Nat) : lx (x :: p) (y :: q) = if x = y then lx p q else decide (x < y) := by
  unfold lx Ii
  rw [List.map_cons, List.map_cons, HT.lexLt_cons]
  by_cases c : x = y
  · subst c; rw [if_pos rfl, if_pos rfl]
  · rw [if_neg (by omega), if_neg c, decide_eq_decide]; omega
theorem lx_irr : ∀ p : List Nat, lx p p = false
  | [] => rfl
  | x :: p => by rw [lx_cons, if_pos rfl]; exact lx_irr p
theorem lx_tri : ∀ {p q : List Nat}, p.length = q.length → lx p q = false → lx q p = false → p = q
  | [], [], _, _, _ => rfl
  | [], _ :: _, h, _, _ => by simp at h
  | _ :: _, [], h, _, _ => by simp at h
  | x :: p, y :: q, h, a, b => by
    rw [lx_cons] at a b
    by_cases c : x = y
    · subst c
      rw [if_pos rfl] at a b
      rw [lx_tri (by simpa using h) a b]
    · rw [if_neg c] at a
      rw [if_neg (fun z => c z.symm)] at b
      simp at a b
      omega
theorem lx_asym : ∀ {p q : List Nat}, lx p q = true → lx q p = false
  | [], [], _ => rfl
  | [], _ :: _, _ => rfl
  | _ :: _, [], h => by cases h
  | x :: p, y :: q, h => by
    rw [lx_cons] at h ⊢
    by_cases c : x = y
    · subst c
      rw [if_pos rfl] at h ⊢
      exact lx_asym h
    · rw [if_neg c] at h
      rw [if_neg (fun z => c z.symm)]
      simp at h ⊢
      omega
/-- not less goes on -/
theorem lx_le : ∀ {p q r : List Nat}, p.length = q.length → q.length = r.length → lx q p = false → lx r q = false → lx r p = false
  | [], [], [], _, _, _, _ => rfl
  | [], _ :: _, _, h, _, _, _ => by simp at h
  | _ :: _, [], _, h, _, _, _ => by simp at h
  | _, [], _ :: _, _, h, _, _ => by simp at h
  | _, _ :: _, [], _, h, _, _ => by simp at h
  | x :: p, y :: q, z :: r, h, k, a, b => by
    rw [lx_cons] at a b ⊢
    by_cases c : y = x
    · subst c
      rw [if_pos rfl] at a
      by_cases d : z = y
      · subst d
        rw [if_pos rfl] at b ⊢
        exact lx_le (by simpa using h) (by simpa using k) a b
      · rw [if_neg d] at b ⊢
        exact b
    · rw [if_neg c] at a
      by_cases d : z = y
      · subst d
        rw [if_neg c]; exact a
      · rw [if_neg d] at b
        simp at a b
        rw [if_neg (by omega)]
        simp; omega
/-- the last numbers put on -/
theorem lx_app : ∀ {p q : List Nat} (s t : List Nat), p.length = q.length → lx (p ++ s) (q ++ t) = if p = q then lx s t else lx p q
  | [], [], s, t, _ => by rw [if_pos rfl]; rfl
  | [], _ :: _, _, _, h => by simp at h
  | _ :: _, [], _, _, h => by simp at h
  | x :: p, y :: q, s, t, h => by
    rw [List.cons_append, List.cons_append, lx_cons, lx_cons, lx_app s t (by simpa using h)]
    by_cases c : x = y
    · subst c
      rw [if_pos rfl, if_pos rfl]
      by_cases d : p = q
      · subst d; rw [if_pos rfl, if_pos rfl]
      · rw [if_neg d, if_neg (fun z => d (List.cons.inj z).2)]
    · rw [if_neg c, if_neg c, if_neg (fun z => c (List.cons.inj z).1)]
/-- p goes from g to v by r steps -/
def IsP (E : Nat → Nat → Prop) (g : Nat) : Nat → List Nat → Nat → Prop
  | 0, p, v => p = [g] ∧ v = g
  | r + 1, p, v => ∃ q u, IsP E g r q u ∧ E u v ∧ p = q ++ [v]
theorem IsP.len {E : Nat → Nat → Prop} {g : Nat} : ∀ {r : Nat} {p : List Nat} {v : Nat}, IsP E g r p v → p.length = r + 1
  | 0, _, _, ⟨rfl, _⟩ => rfl
  | r + 1, _, _, ⟨q, u, h, _, rfl⟩ => by rw [List.length_append, h.len]; rfl
theorem IsP.wk {E : Nat → Nat → Prop} {g : Nat} : ∀ {r : Nat} {p : List Nat} {v : Nat}, IsP E g r p v → Wk E g r v
  | 0, _, _, ⟨_, rfl⟩ => rfl
  | r + 1, _, _, ⟨q, u, h, e, _⟩ => ⟨u, h.wk, e⟩
theorem Wk.isP {E : Nat → Nat → Prop} {g : Nat} : ∀ {r v : Nat}, Wk E g r v → ∃ p, IsP E g r p v
  | 0, _, rfl => ⟨[g], rfl, rfl⟩
  | r + 1, v, ⟨u, h, e⟩ => let ⟨q, k⟩ := h.isP; ⟨q ++ [v], q, u, k, e, rfl⟩
theorem IsP.last {E : Nat → Nat → Prop} {g r : Nat} {p : List Nat} {v : Nat} (h : IsP E g r p v) : p[r]? = some v := by
  cases r with
  | zero => obtain ⟨rfl, rfl⟩ := h; rfl
  | succ r =>
    obtain ⟨q, u, k, e, rfl⟩ := h
    rw [List.getElem?_append_right (by rw [k.len]; omega), k.len, Nat.sub_self]; rfl
/-- what stands at place i of a way -/
theorem IsP.part {E : Nat → Nat → Prop} {g : Nat} : ∀ {r : Nat} {p : List Nat} {v : Nat}, IsP E g r p v → ∀ i, i ≤ r → ∃ u, p[i]? = some u ∧ IsP E g i (p.take (i + 1)) u ∧ Wk E u (r - i) v
  | 0, _, _, ⟨rfl, rfl⟩, 0, _ => ⟨g, rfl, ⟨rfl, rfl⟩, rfl⟩
  | r + 1, _, v, ⟨q, u, h, e, rfl⟩, i, hi => by
    have ql := h.len
    by_cases c : i = r + 1
    · subst c
      refine ⟨v, by rw [List.getElem?_append_right (by omega), ql, Nat.sub_self]; rfl, ?_, by rw [Nat.sub_self]; rfl⟩
      rw [List.take_of_length_le (by rw [List.length_append, ql]; exact Nat.le_refl _)]
      exact ⟨q, u, h, e, rfl⟩
    · obtain ⟨x, e1, e2, e3⟩ := h.part i (by omega)
      refine ⟨x, by rw [List.getElem?_append_left (by omega)]; exact e1, ?_, ?_⟩
      · rw [List.take_append_of_le_length (by omega)]; exact e2
      · rw [show r + 1 - i = (r - i) + 1 from by omega]
        exact ⟨u, e3, e⟩
theorem Wk.symm {E : Nat → Nat → Prop} (sy : ∀ u v, E u v → E v u) {u v r : Nat} (h : Wk E u r v) : Wk E v r u := by
  induction r generalizing v with
  | zero => cases (show v = u from h); rfl
  | succ r ih =>
    obtain ⟨x, k, e⟩ := h
    have := (show Wk E v 1 x from ⟨v, rfl, sy _ _ e⟩).trans (ih k)
    rwa [Nat.add_comm] at this
/-- the least way to v by r steps -/
def Lst (E : Nat → Nat → Prop) (g r : Nat) (p : List Nat) (v : Nat) : Prop := IsP E g r p v ∧ ∀ q, IsP E g r q v → lx q p = false
theorem Lst.uniq {E : Nat → Nat → Prop} {g r v : Nat} {p q : List Nat} (a : Lst E g r p v) (b : Lst E g r q v) : p = q :=
  lx_tri (a.1.len.trans b.1.len.symm) (b.2 _ a.1) (a.2 _ b.1)
/-- the least of the ways over the nearer ones -/
theorem Lst.step {E : Nat → Nat → Prop} {g r v : Nat} {L : Nat → List Nat} (hv : Ds E g (r + 1) v) (hL : ∀ u, Ds E g r u → Lst E g r (L u) u) {m : List Nat} (hm : ∃ u, Ds E g r u ∧ E u v ∧ m = L u ++ [v])
    (least : ∀ u, Ds E g r u → E u v → lx (L u ++ [v]) m = false) : Lst E g (r + 1) m v := by
  obtain ⟨u, du, e, rfl⟩ := hm
  refine ⟨⟨L u, u, (hL u du).1, e, rfl⟩, ?_⟩
  rintro _ ⟨q, x, hq, ex, rfl⟩
  have dx : Ds E g r x := ⟨hq.wk, fun s hs k => hv.2 (s + 1) (by omega) ⟨x, k, ex⟩⟩
  have l1 := (hL u du).1.len
  have l2 := (hL x dx).1.len
  have l3 := hq.len
  have h1 : lx (q ++ [v]) (L x ++ [v]) = false := by
    rw [lx_app _ _ (l3.trans l2.symm)]
    split
    · exact lx_irr _
    · exact (hL x dx).2 q hq
  exact lx_le (by simp [l1, l2]) (by simp [l2, l3]) (least x dx ex) h1
/-- a way from 0 that goes nearer to n, the least so far -/
structure Gr (E : Nat → Nat → Prop) (n k0 i : Nat) (p : List Nat) (v : Nat) : Prop where
  isp : IsP E 0 i p v
  d : Ds E n (k0 - i) v
  le : i ≤ k0
  least : ∀ q, IsP E 0 k0 q n → lx (q.take (i + 1)) p = false
theorem Gr.zero {E : Nat → Nat → Prop} {n k0 : Nat} (h : Ds E n k0 0) : Gr E n k0 0 [0] 0 :=
  ⟨⟨rfl, rfl⟩, h, Nat.zero_le _, fun q hq => by
    obtain ⟨u, e1, e2, _⟩ := hq.part 0 (Nat.zero_le _)
    rw [e2.1]; exact lx_irr _⟩
theorem Gr.end_ {E : Nat → Nat → Prop} {n k0 i : Nat} {p : List Nat} (h : Gr E n k0 i p n) : i = k0 := by
  have z : Ds E n 0 n := ⟨rfl, fun _ k => absurd k (Nat.not_lt_zero _)⟩
  have := h.d.uniq z
  have := h.le
  omega
theorem Gr.lst {E : Nat → Nat → Prop} {n k0 i : Nat} {p : List Nat} (h : Gr E n k0 i p n) : Lst E 0 k0 p n := by
  have e := h.end_
  subst e
  exact ⟨h.isp, fun q hq => by have := h.least q hq; rwa [List.take_of_length_le (by rw [hq.len]; exact Nat.le_refl _)] at this⟩
theorem Gr.lt {E : Nat → Nat → Prop} {n k0 i v : Nat} {p : List Nat} (h : Gr E n k0 i p v) (c : v ≠ n) : i < k0 := by
  have := h.le
  rcases Nat.lt_or_ge i k0 with z | z
  · exact z
  · have d := h.d
    rw [show k0 - i = 0 from by omega] at d
    exact (c d.1).elim
theorem Gr.some {E : Nat → Nat → Prop} (sy : ∀ u v, E u v → E v u) {n k0 i v : Nat} {p : List Nat} (h : Gr E n k0 i p v) (c : v ≠ n) : ∃ x d, E v x ∧ Ds E n d x ∧ d < k0 - i := by
  have := h.lt c
  have d := h.d
  rw [show k0 - i = (k0 - i - 1) + 1 from by omega] at d
  obtain ⟨x, dx, e⟩ := d.back
  exact ⟨x, _, sy _ _ e, dx, by omega⟩
theorem Gr.step {E : Nat → Nat → Prop} (sy : ∀ u v, E u v → E v u) {n k0 i v x d : Nat} {p : List Nat} (h : Gr E n k0 i p v) (c : v ≠ n) (e : E v x) (dx : Ds E n d x) (dl : d < k0 - i) (least : ∀ y d', E v y → Ds E n d' y → d' < k0 - i → x ≤ y) :
    Gr E n k0 (i + 1) (p ++ [x]) x := by
  have il := h.lt c
  have dd : d = k0 - (i + 1) := by
    rcases Nat.lt_or_ge d (k0 - (i + 1)) with z | z
    · exact ((h.d.2 (d + 1) (by omega)) ⟨x, dx.1, sy _ _ e⟩).elim
    · omega
  subst dd
  refine ⟨⟨p, v, h.isp, e, rfl⟩, dx, il, fun q hq => ?_⟩
  obtain ⟨u, u1, u2, _⟩ := hq.part i (by omega)
  obtain ⟨y, y1, y2, y3⟩ := hq.part (i + 1) il
  obtain ⟨q', u', hq', ey, eq⟩ := y2
  have ql := hq.len
  have e1 : q' = q.take (i + 1) := by
    have := congrArg (List.take (i + 1)) eq
    rw [List.take_take, show min (i + 1) (i + 1 + 1) = i + 1 from by omega, List.take_append_of_le_length (by rw [hq'.len]; exact Nat.le_refl _)] at this
    rw [List.take_of_length_le (l := q') (by rw [hq'.len]; exact Nat.le_refl _)] at this
    exact this.symm
  rw [eq, lx_app _ _ (by rw [hq'.len, h.isp.len])]
  by_cases c2 : q' = p
  · rw [if_pos c2]
    subst c2
    have uv : u' = v := by
      have a := hq'.last
      have b := h.isp.last
      rw [a] at b
      exact Option.some.inj b
    subst uv
    obtain ⟨d', dy⟩ := Rc.ds ⟨_, y3.symm sy⟩
    have : d' ≤ k0 - (i + 1) := by
      rcases Nat.lt_or_ge (k0 - (i + 1)) d' with z | z
      · exact (dy.2 _ z (y3.symm sy)).elim
      · exact z
    have := least y d' ey dy (by omega)
    rw [lx_cons]
    split
    · rfl
    · simp; omega
  · rw [if_neg c2, e1]
    exact h.least q hq
theorem Ds.symm {E : Nat → Nat → Prop} (sy : ∀ u v, E u v → E v u) {u v r : Nat} (h : Ds E u r v) : Ds E v r u := ⟨h.1.symm sy, fun s hs k => h.2 s hs (k.symm sy)⟩
open Classical in
theorem Ds.bound {E : Nat → Nat → Prop} {g k v N : Nat} (h : Ds E g k v) (lt : ∀ s u, Ds E g s u → u < N) : k + 1 ≤ N := by
  let f : Nat → Nat := fun s => if h : ∃ u, Ds E g s u then choose h else 0
  have hf : ∀ s, s ≤ k → Ds E g s (f s) := fun s hs => by
    have e := h.down s hs
    show Ds E g s (if h : ∃ u, Ds E g s u then choose h else 0)
    rw [dif_pos e]
    exact choose_spec e
  have := nodup_len N ((List.range (k + 1)).map f) (by
    unfold List.Nodup
    rw [List.pairwise_map]
    refine List.Pairwise.imp_of_mem ?_ List.nodup_range
    intro a b ma mb ne z
    rw [List.mem_range] at ma mb
    have da := hf a (by omega)
    have db := hf b (by omega)
    rw [z] at da
    exact ne (da.uniq db)) (fun x m => by
      obtain ⟨s, ms, rfl⟩ := List.mem_map.mp m
      rw [List.mem_range] at ms
      exact lt _ _ (hf s (by omega)))
  rwa [List.length_map, List.length_range] at this
end WW

/-! ### dicts from numbers to objects -/
namespace WW
open PySem L2
/-- keys ks in order, with these objects -/
structure Dn (kvs : List (Key × V)) (ks : List Nat) (val : Nat → Option Addr) : Prop where
  keys : kvs.map (·.1) = ks.map fun (k : Nat) => (Sum.inl (k : Int) : Key)
  nd : ks.Nodup
  vl : ∀ v : Nat, valV kvs (Sum.inl (v : Int)) = (val v).map V.ref
  mem : ∀ v, v ∈ ks ↔ (val v).isSome = true
theorem Dn.nil : Dn [] [] (fun _ => none) := ⟨rfl, List.nodup_nil, fun _ => rfl, fun _ => ⟨fun z => absurd z List.not_mem_nil, fun z => by cases z⟩⟩
theorem Dn.len {kvs : List (Key × V)} {ks : List Nat} {val : Nat → Option Addr} (h : Dn kvs ks val) : kvs.length = ks.length := by
  have := congrArg List.length h.keys
  rwa [List.length_map, List.length_map] at this
theorem Dn.key {kvs : List (Key × V)} {ks : List Nat} {val : Nat → Option Addr} (h : Dn kvs ks val) {i : Nat} {k : Key} {v : V} (e : kvs[i]? = some (k, v)) : ∃ n, ks[i]? = some n ∧ k = Sum.inl (n : Int) := by
  have := congrArg (fun l => l[i]?) h.keys
  simp only [List.getElem?_map, e, Option.map_some] at this
  cases z : ks[i]? with
  | none => rw [z] at this; cases this
  | some n => rw [z] at this; exact ⟨n, rfl, Option.some.inj this⟩
theorem Dn.listed {kvs : List (Key × V)} {ks : List Nat} {val : Nat → Option Addr} (h : Dn kvs ks val) : (kvs.map fun kv => kV kv.1) = Ns ks := by
  have : (kvs.map fun kv => kV kv.1) = (kvs.map (·.1)).map kV := by rw [List.map_map]; rfl
  rw [this, h.keys, List.map_map]
  rfl
theorem Dn.put {kvs : List (Key × V)} {ks : List Nat} {val : Nat → Option Addr} (h : Dn kvs ks val) (v : Nat) (t : Addr) :
    ∃ ks', Dn (putK kvs (Sum.inl (v : Int)) (.ref t)) ks' (fun w => if w = v then some t else val w) ∧ (∀ w, w ∈ ks' ↔ w = v ∨ w ∈ ks) ∧ (val v = none → ks' = ks ++ [v]) ∧ (val v ≠ none → ks' = ks) := by
  have vals : ∀ w : Nat, valV (putK kvs (Sum.inl (v : Int)) (.ref t)) (Sum.inl (w : Int)) = (if w = v then some t else val w).map V.ref := fun w => by
    rw [valV_put]
    by_cases c : w = v
    · subst c; rw [if_pos rfl, if_pos rfl]; rfl
    · rw [if_neg (fun z => c (by have := Sum.inl.inj z; omega)), if_neg c, h.vl]
  cases e : val v with
  | none =>
    have en : valV kvs (Sum.inl (v : Int)) = none := by rw [h.vl, e]; rfl
    have nm : v ∉ ks := fun m => by have := (h.mem v).mp m; rw [e] at this; cases this
    refine ⟨ks ++ [v], ⟨?_, nodup_snoc h.nd nm, vals, fun w => ?_⟩, fun w => by rw [List.mem_append, List.mem_singleton]; exact Or.comm, fun _ => rfl, fun z => absurd rfl z⟩
    · rw [putK_new _ en, List.map_append, h.keys, List.map_append]; rfl
    · rw [List.mem_append, List.mem_singleton, h.mem]
      by_cases c : w = v
      · subst c; simp
      · rw [if_neg c]; simp [c]
  | some a =>
    have es : (kvs.any fun kv => decide (kv.1 = (Sum.inl (v : Int) : Key))) = true := by rw [valV_any, h.vl, e]; rfl
    have m : v ∈ ks := (h.mem v).mpr (by rw [e]; rfl)
    refine ⟨ks, ⟨?_, h.nd, vals, fun w => ?_⟩, fun w => ⟨.inr, fun z => z.elim (fun z => z.symm ▸ m) id⟩, (fun z => nomatch z), fun _ => rfl⟩
    · unfold putK
      rw [if_pos es, List.map_map, ← h.keys]
      refine List.map_congr_left fun kv _ => ?_
      show (if kv.1 = Sum.inl (v : Int) then (kv.1, V.ref t) else kv).1 = kv.1
      split <;> rfl
    · by_cases c : w = v
      · subst c; rw [if_pos rfl]; exact ⟨fun _ => rfl, fun _ => m⟩
      · rw [if_neg c]; exact h.mem w
end WW

/-! ### rounds of the law's own ways -/
namespace WW
open PySem L2
/-- after r rounds: the spots at most r steps away, with the least of their shortest ways -/
structure Ro (E : Nat → Nat → Prop) (H : Hp) (d : Addr) (r : Nat) (val : Nat → Option Addr) (L : Nat → List Nat) (ks : List Nat) : Prop where
  dk : ∃ kvs, H d = some (.dK kvs) ∧ Dn kvs ks val
  tp : ∀ v t, val v = some t → H t = some (.tup (Ns (L v)))
  dom : ∀ v, (val v).isSome = true ↔ ∃ s, s ≤ r ∧ Ds E 0 s v
  lst : ∀ v s, s ≤ r → Ds E 0 s v → Lst E 0 s (L v) v
/-- what the round has found so far; Sn: the links that were looked at -/
structure La (H : Hp) (d : Addr) (val : Nat → Option Addr) (L : Nat → List Nat) (Sn : Nat → Nat → Prop) (vl2 : Nat → Option Addr) (M : Nat → List Nat) (ks : List Nat) : Prop where
  dk : ∃ kvs, H d = some (.dK kvs) ∧ Dn kvs ks vl2
  tp : ∀ v t, vl2 v = some t → H t = some (.tup (Ns (M v)))
  own : ∀ v, (vl2 v).isSome = true → val v = none ∧ (∃ u, Sn u v ∧ M v = L u ++ [v]) ∧ ∀ u, Sn u v → lx (L u ++ [v]) (M v) = false
  all : ∀ u v, Sn u v → val v = none → (vl2 v).isSome = true
def Tu (H H' : Hp) : Prop := ∀ t p, H t = some (.tup p) → H' t = some (.tup p)
theorem Ro.move {E : Nat → Nat → Prop} {H H' : Hp} {d : Addr} {r : Nat} {val : Nat → Option Addr} {L : Nat → List Nat} {ks : List Nat} (h : Ro E H d r val L ks) (e : H' d = H d) (t : Tu H H') : Ro E H' d r val L ks :=
  ⟨by rw [e]; exact h.dk, fun v q z => t _ _ (h.tp v q z), h.dom, h.lst⟩
theorem La.move {H H' : Hp} {d : Addr} {val : Nat → Option Addr} {L : Nat → List Nat} {Sn : Nat → Nat → Prop} {vl2 : Nat → Option Addr} {M : Nat → List Nat} {ks : List Nat} (h : La H d val L Sn vl2 M ks) (e : H' d = H d) (t : Tu H H') : La H' d val L Sn vl2 M ks :=
  ⟨by rw [e]; exact h.dk, fun v q z => t _ _ (h.tp v q z), h.own, h.all⟩
theorem La.iff {H : Hp} {d : Addr} {val : Nat → Option Addr} {L : Nat → List Nat} {Sn Sm : Nat → Nat → Prop} {vl2 : Nat → Option Addr} {M : Nat → List Nat} {ks : List Nat} (h : La H d val L Sn vl2 M ks) (e : ∀ u v, Sm u v ↔ Sn u v) : La H d val L Sm vl2 M ks := by
  have : Sm = Sn := funext fun u => funext fun v => propext (e u v)
  rw [this]; exact h
theorem La.nil {H : Hp} {d : Addr} {val : Nat → Option Addr} {L : Nat → List Nat} (e : H d = some (.dK [])) : La H d val L (fun _ _ => False) (fun _ => none) (fun _ => []) [] :=
  ⟨⟨_, e, Dn.nil⟩, fun _ _ z => (by cases z), fun _ z => (by cases z), fun _ _ z => (z : False).elim⟩
/-- a spot that was led to before -/
theorem La.old {H : Hp} {d : Addr} {val : Nat → Option Addr} {L : Nat → List Nat} {Sn : Nat → Nat → Prop} {vl2 : Nat → Option Addr} {M : Nat → List Nat} {ks : List Nat} (h : La H d val L Sn vl2 M ks) {u0 v0 : Nat} (o : val v0 ≠ none) :
    La H d val L (fun u v => Sn u v ∨ (u = u0 ∧ v = v0)) vl2 M ks := by
  refine ⟨h.dk, h.tp, fun v z => ?_, fun u v z n => ?_⟩
  · obtain ⟨n, ⟨u, su, e⟩, l⟩ := h.own v z
    refine ⟨n, ⟨u, .inl su, e⟩, fun u' z' => ?_⟩
    rcases z' with z' | ⟨_, rfl⟩
    · exact l u' z'
    · exact absurd n o
  · rcases z with z | ⟨_, rfl⟩
    · exact h.all u v z n
    · exact absurd n o
/-- no less a way -/
theorem La.keep {H : Hp} {d : Addr} {val : Nat → Option Addr} {L : Nat → List Nat} {Sn : Nat → Nat → Prop} {vl2 : Nat → Option Addr} {M : Nat → List Nat} {ks : List Nat} (h : La H d val L Sn vl2 M ks) {u0 v0 : Nat} (o : (vl2 v0).isSome = true)
    (c : lx (L u0 ++ [v0]) (M v0) = false) : La H d val L (fun u v => Sn u v ∨ (u = u0 ∧ v = v0)) vl2 M ks := by
  refine ⟨h.dk, h.tp, fun v z => ?_, fun u v z n => ?_⟩
  · obtain ⟨n, ⟨u, su, e⟩, l⟩ := h.own v z
    refine ⟨n, ⟨u, .inl su, e⟩, fun u' z' => ?_⟩
    rcases z' with z' | ⟨rfl, rfl⟩
    · exact l u' z'
    · exact c
  · rcases z with z | ⟨_, rfl⟩
    · exact h.all u v z n
    · exact o
/-- a new spot, or a less way -/
theorem La.put {H H' : Hp} {d t : Addr} {val : Nat → Option Addr} {L : Nat → List Nat} {Sn : Nat → Nat → Prop} {vl2 : Nat → Option Addr} {M : Nat → List Nat} {ks : List Nat} {kvs : List (Key × V)} (h : La H d val L Sn vl2 M ks) {u0 v0 r : Nat} (n0 : val v0 = none)
    (len : ∀ u v, Sn u v → (L u).length = r) (l0 : (L u0).length = r) (c : vl2 v0 = none ∨ lx (L u0 ++ [v0]) (M v0) = true) (dn : Dn kvs ks vl2) (ht : Tu H H') (et : H' t = some (.tup (Ns (L u0 ++ [v0])))) (ed : H' d = some (.dK (putK kvs (Sum.inl (v0 : Int)) (.ref t)))) :
    ∃ vl3 M3 ks3, La H' d val L (fun u v => Sn u v ∨ (u = u0 ∧ v = v0)) vl3 M3 ks3 ∧ (∀ w, w ∈ ks3 → w = v0 ∨ w ∈ ks) := by
  obtain ⟨ks', dn', mem, _⟩ := dn.put v0 t
  refine ⟨_, fun w => if w = v0 then L u0 ++ [v0] else M w, ks', ⟨⟨_, ed, dn'⟩, fun v q z => ?_, fun v z => ?_, fun u v z n => ?_⟩, fun w m => (mem w).mp m⟩
  · by_cases e : v = v0
    · subst e
      simp only [if_pos rfl] at z ⊢
      cases z; exact et
    · simp only [if_neg e] at z ⊢
      exact ht _ _ (h.tp v q z)
  · by_cases e : v = v0
    · subst e
      simp only [if_pos rfl] at z ⊢
      refine ⟨n0, ⟨u0, .inr ⟨rfl, by trivial⟩, rfl⟩, fun u' z' => ?_⟩
      rcases z' with z' | ⟨rfl, _⟩
      · rcases c with c | c
        · have := h.all u' v z' n0
          rw [c] at this; cases this
        · have o : (vl2 v).isSome = true := h.all u' v z' n0
          obtain ⟨_, ⟨u1, s1, e1⟩, l⟩ := h.own v o
          exact lx_le (by rw [e1]; simp [l0, len u1 v s1]) (by rw [e1]; simp [len u' v z', len u1 v s1]) (lx_asym c) (l u' z')
      · exact lx_irr _
    · simp only [if_neg e] at z ⊢
      obtain ⟨n, ⟨u, su, e1⟩, l⟩ := h.own v z
      refine ⟨n, ⟨u, .inl su, e1⟩, fun u' z' => ?_⟩
      rcases z' with z' | ⟨_, e'⟩
      · exact l u' z'
      · exact absurd e' e
  · by_cases e : v = v0
    · subst e; simp only [if_pos rfl]; rfl
    · simp only [if_neg e]
      rcases z with z | ⟨_, e'⟩
      · exact h.all u v z n
      · exact absurd e' e
/-- what the round has found are the spots one step further -/
theorem La.end_ {E : Nat → Nat → Prop} {H : Hp} {d d2 : Addr} {r : Nat} {val : Nat → Option Addr} {L : Nat → List Nat} {ks : List Nat} (hr : Ro E H d r val L ks) {Sn : Nat → Nat → Prop} {vl2 : Nat → Option Addr} {M : Nat → List Nat} {ks2 : List Nat}
    (h : La H d2 val L Sn vl2 M ks2) (sn : ∀ u v, Sn u v ↔ Ds E 0 r u ∧ E u v) :
    (∀ v, v ∈ ks2 ↔ Ds E 0 (r + 1) v) ∧ (∀ v, v ∈ ks2 → Lst E 0 (r + 1) (M v) v) := by
  obtain ⟨kvs, _, dn⟩ := h.dk
  have far : ∀ v, val v = none → ∀ s, s ≤ r → ¬ Ds E 0 s v := fun v n s hs k => by
    have := (hr.dom v).mpr ⟨s, hs, k⟩
    rw [n] at this; cases this
  have iff : ∀ v, v ∈ ks2 ↔ Ds E 0 (r + 1) v := fun v => by
    rw [dn.mem]
    constructor
    · intro z
      obtain ⟨n, ⟨u, su, _⟩, _⟩ := h.own v z
      obtain ⟨du, e⟩ := (sn u v).mp su
      rcases du.step e with k | ⟨s, hs, k⟩
      · exact k
      · exact absurd k (far v n s hs)
    · intro k
      obtain ⟨u, du, e⟩ := k.back
      refine h.all u v ((sn u v).mpr ⟨du, e⟩) ?_
      cases z : val v with
      | none => rfl
      | some t =>
        obtain ⟨s, hs, k'⟩ := (hr.dom v).mp (by rw [z]; rfl)
        have := k.uniq k'
        omega
  refine ⟨iff, fun v m => ?_⟩
  obtain ⟨n, ⟨u, su, e⟩, l⟩ := h.own v ((dn.mem v).mp m)
  obtain ⟨du, eu⟩ := (sn u v).mp su
  exact Lst.step ((iff v).mp m) (fun u du => hr.lst u r (Nat.le_refl _) du) ⟨u, du, eu, e⟩ (fun u' d' e' => l u' ((sn u' v).mpr ⟨d', e'⟩))
/-- the next round -/
theorem Ro.next {E : Nat → Nat → Prop} {H H' : Hp} {d d2 : Addr} {r : Nat} {val : Nat → Option Addr} {L : Nat → List Nat} {ks ks3 : List Nat} (hr : Ro E H d r val L ks) {Sn : Nat → Nat → Prop} {vl2 : Nat → Option Addr} {M : Nat → List Nat} {ks2 : List Nat}
    (h : La H d2 val L Sn vl2 M ks2) (sn : ∀ u v, Sn u v ↔ Ds E 0 r u ∧ E u v) (ht : Tu H H') {kvs : List (Key × V)} (ed : H' d = some (.dK kvs)) (dn : Dn kvs ks3 (fun v => if v ∈ ks2 then vl2 v else val v)) :
    Ro E H' d (r + 1) (fun v => if v ∈ ks2 then vl2 v else val v) (fun v => if v ∈ ks2 then M v else L v) ks3 := by
  obtain ⟨iff, ls⟩ := La.end_ hr h sn
  obtain ⟨kvs2, _, dn2⟩ := h.dk
  refine ⟨⟨_, ed, dn⟩, fun v t z => ?_, fun v => ?_, fun v s hs k => ?_⟩
  · by_cases m : v ∈ ks2
    · simp only [if_pos m] at z ⊢; exact ht _ _ (h.tp v t z)
    · simp only [if_neg m] at z ⊢; exact ht _ _ (hr.tp v t z)
  · by_cases m : v ∈ ks2
    · simp only [if_pos m]
      exact ⟨fun _ => ⟨r + 1, Nat.le_refl _, (iff v).mp m⟩, fun _ => (dn2.mem v).mp m⟩
    · simp only [if_neg m]
      rw [hr.dom]
      constructor
      · rintro ⟨s, hs, k⟩; exact ⟨s, by omega, k⟩
      · rintro ⟨s, hs, k⟩
        refine ⟨s, ?_, k⟩
        by_cases c : s = r + 1
        · subst c; exact absurd ((iff v).mpr k) m
        · omega
  · by_cases m : v ∈ ks2
    · simp only [if_pos m]
      rw [k.uniq ((iff v).mp m)]; exact ls v m
    · simp only [if_neg m]
      refine hr.lst v s ?_ k
      by_cases c : s = r + 1
      · subst c; exact absurd ((iff v).mpr k) m
      · omega
end WW

/-! ### try with clauses `except C as n`, as many as there are -/
namespace OQ
open PySem L2 PySem.Spec PyProof.Rows
/-- a clause: its class, the slot of its name, what its suite does -/
structure Cl where
  cl : Value
  sl : Nat
  su : Addr → Value → Option Addr → TS
/-- the ends of a suite whose name, in slot i, goes behind it -/
def Drop (i : Nat) (D : Ends) : Ends :=
  { nx := fun τ G => D.nx (τ.set i none) G, rt := D.rt, bk := fun τ G => D.bk (τ.set i none) G, ct := fun τ G => D.ct (τ.set i none) G }
/-- what clauses wish of an error: the first one of its class serves -/
def wCls (K : PySem.W.Frag) (W : WX) (D : Ends) : List Cl → WX
  | [] => W
  | k :: r => fun C d τ G => (PySem.W.exmOne K C k.cl = some true ∧ ∀ e, G e = none → k.su e C d (Drop k.sl D) (τ.set k.sl (some (.ref e))) G) ∨ (PySem.W.exmOne K C k.cl = some false ∧ wCls K W D r C d τ G)
/-- clauses as they stand in the text -/
inductive Cls (X : Cx) : List ExceptHandler → List Cl → Prop
  | nil : Cls X [] []
  | cons {x n : Str} {p q : Pos} {b : Stmt} {bs : List Stmt} {r : List ExceptHandler} {ks : List Cl} (k : Cl) (slot : X.N[k.sl]? = some n) (own : X.env.kindOf n = some .local) (named : Names X x k.cl)
      (suite : ∀ (e : Addr) (o : Obj) (C : Value) (d : Option Addr) (pn : List (Addr × Obj)), Zc C d o → (∃ vs, o.data = .fields vs) → PSs (X.suite e ((e, o) :: pn)) (b :: bs) (k.su e C d)) (rest : Cls X r ks) :
      Cls X (.ExceptHandler (some (.Name x p)) (some n) (b :: bs) q :: r) (k :: ks)
/-- an error that came down in this frame -/
structure Got (X : Cx) (pins : List (Addr × Obj)) (e : Addr) (C : Value) (d : Option Addr) (τ : L2.St) (G : Hp) (B : Heap) (t : Shared) : Prop where
  ok : X.Ok
  fly : HandSPX.FlyingZ B (X.env :: X.outer) e (Zc C d) t.heap
  inv : ∀ g, B.StaysIn g → t.heap.UpToSlots g → Inv X pins τ G { t with heap := g }
  new : G e = none
  off : ∀ W, Takes X W → W C d τ G → ∀ g, t.heap.UpToSlots g → HandSPX.HeldZ B (X.env :: X.outer) e (Zc C d) X.env.locals g → X.xe (.ref e) { t with heap := g }
section
variable {X : Cx} {pins : List (Addr × Obj)} {e : Addr} {C : Value} {d : Option Addr} {τ : L2.St} {G : Hp} {B : Heap} {t : Shared} {D : Ends}
theorem Got.at (hf : X.env.frame = some X.env.locals) (g : Got X pins e C d τ G B t) : ∃ o, t.heap.get? e = some o ∧ Zc C d o ∧ (∃ vs, o.data = .fields vs) ∧ Inv (X.suite e ((e, o) :: (X.pn ++ pins))) [] τ G t := by
  obtain ⟨o, vs, there, zz, flds⟩ := g.fly.there
  have away : ∀ l : List Env, (∀ v ∈ l, v ∈ X.env :: X.outer) → e ∉ l.filterMap (·.frame) := fun l hl m => by
    obtain ⟨v, hv, fv⟩ := List.mem_filterMap.mp m
    have : e ∈ frs (X.env :: X.outer) := List.mem_filterMap.mpr ⟨v, hl v hv, fv⟩
    obtain ⟨_, o', at', no⟩ := (g.fly.2.2.1).mem this
    exact no vs (by rw [there] at at'; cases at'; exact flds)
  refine ⟨o, there, zz, ⟨vs, flds⟩, (g.inv _ g.fly.1 (Heap.UpToSlots.refl _)).suite there flds g.new (fun z => ?_) (fun m => ?_)⟩
  · exact away [X.env] (fun v hv => by rw [List.mem_singleton.mp hv]; exact List.mem_cons_self) (List.mem_filterMap.mpr ⟨X.env, List.mem_singleton.mpr rfl, by rw [hf, z]⟩)
  · exact away X.outer (fun v hv => List.mem_cons_of_mem _ hv) m
/-- no clause is left: it goes on -/
theorem Got.on (hf : X.env.frame = some X.env.locals) (g : Got X pins e C d τ G B t) {W : WX} (tk : Takes X W) (w : W C d τ G) {Q : Flow → Shared → Prop} :
    wpAny (model X.prog X.w) X.A (handleBy (.ref e) X.env []) Q X.xe t := by
  refine wpAny_handleBy_nil ?_
  have leave : wpAny (model X.prog X.w) X.A (setFlight (.ref e) X.env.frame) (fun _ t2 => wpAny (model X.prog X.w) X.A (throw (.ref e) : Sem Flow) Q X.xe t2) X.xe t := by
    rw [hf]
    exact HandSPX.setFlight_upZ g.fly fun g2 held up2 => wpAny_throw (g.off W tk w g2 up2 held)
  obtain ⟨_, _, _, o, vs, tr, _, _, there, _, flds, fst, _⟩ := id g.fly
  unfold PySem.passOn
  refine wpAny_bind (wpAny_field there flds fst ?_)
  rw [if_neg (show ¬ ((Value.ref tr == Value.none) = true) by simp)]
  first
    | exact wpAny_bind (wpAny_pure (wpAny_bind leave))
    | exact wpAny_bind leave
theorem Got.handled (hf : X.env.frame = some X.env.locals) (hN : X.N.Nodup) (g : Got X pins e C d τ G B t) {W : WX} (tk : Takes X W) {hs : List ExceptHandler} {ks : List Cl} (c : Cls X hs ks) :
    wCls X.K W D ks C d τ G → wpAny (model X.prog X.w) X.A (handleBy (.ref e) X.env hs) (SP X pins D) X.xe t := by
  induction c with
  | nil => exact fun w => g.on hf tk w
  | @cons x n p q b bs r ks k slot own named suite rest ih =>
    intro w
    obtain ⟨o, there, zz, flds, S⟩ := g.at hf
    refine wpAny_handleBy_cons (codeAny_handlers_test ?_) (fun z => Value.noConfusion z)
    have cls : PySem.W.Looks (model X.prog X.w) t.heap (typeOf (.ref e)) C := fun _ _ _ s' keeps z => wpAny_typeOf_ref (keeps _ _ there) (by rw [zz.1]; exact z)
    have name : ∀ {Q E : Value → Shared → Prop}, Q k.cl t → wpAny (model X.prog X.w) (X.A.mark (some (.ref e))) (eval (.Name x p) X.env) Q E t := by
      intro Q E z
      rcases named with ⟨gl, nd, here | ⟨no, built, nn⟩⟩
      · exact ld_glob (X := X.suite e ((e, o) :: (X.pn ++ pins))) S gl here z nd
      · exact ld_blt (X := X.suite e ((e, o) :: (X.pn ++ pins))) S gl no built z nn nd
    rcases w with ⟨yes, go⟩ | ⟨no, go⟩
    · refine name ((PySem.W.exm_one (M := model X.prog X.w) S.kIn cls yes).here ?_)
      refine codeAny_handlers_suite_as (HandSPX.lands_againZ g.fly fun h2 fly2 up2 => ?_)
      have g2 : Got X pins e C d τ G B { t with heap := h2 } := ⟨g.ok, fly2, fun h3 st up3 => g.inv h3 st (up2.trans up3), g.new, fun W tk w h3 up3 held => g.off W tk w h3 (up2.trans up3) held⟩
      obtain ⟨o2, _, zz2, flds2, S2⟩ := g2.at hf
      refine store_ok (X := X.suite e ((e, o2) :: (X.pn ++ pins))) (v := V.ref e) S2 hN slot (.inl own) rfl (fun t3 S3 => ?_) (.inr own)
      refine wpAny_mono ((suite e o2 C d (X.pn ++ pins) zz2 flds2).run [] t3 _ G _ S3 (go e g.new)) (fun f t4 done => ?_) (fun _ _ z => z.elim)
      rcases f with _ | _ | _ | u
      · obtain ⟨τ4, G4, S4, z⟩ := done
        exact gone_ok (S4.unsuite g.ok) hN slot own fun t5 S5 => ⟨_, G4, S5, z⟩
      · obtain ⟨τ4, G4, S4, z⟩ := done
        exact gone_ok (S4.unsuite g.ok) hN slot own fun t5 S5 => ⟨_, G4, S5, z⟩
      · obtain ⟨τ4, G4, S4, z⟩ := done
        exact gone_ok (S4.unsuite g.ok) hN slot own fun t5 S5 => ⟨_, G4, S5, z⟩
      · obtain ⟨v, τ4, G4, S4, rv, z⟩ := done
        exact gone_ok (S4.unsuite g.ok) hN slot own fun t5 S5 => ⟨v, _, G4, S5, rv, z⟩
    · refine name ((PySem.W.exm_one (M := model X.prog X.w) S.kIn cls no).here ?_)
      exact ih go
end
section
variable {X : Cx} {body : List Stmt} {h₀ : ExceptHandler} {hs : List ExceptHandler} {ks : List Cl} {pos : Pos} {tb : WX → TS} {W : WX}
theorem ps_try_cls (st : X.stack = X.env :: X.outer) (hf : X.env.frame = some X.env.locals) (hN : X.N.Nodup) (tk : Takes X W)
    (hb : ∀ (W : WX) (pn : List (Addr × Obj)) (xe : Value → Shared → Prop), Takes (X.tr pn xe) W → PassesOwn (model X.prog X.w) X.A X.env xe → PSs (X.tr pn xe) body (tb W))
    (c : Cls X (h₀ :: hs) ks) : PS X (.Try body (h₀ :: hs) [] [] pos) (fun D σ H => tb (wCls X.K W D ks) D σ H) := by
  refine ⟨fun pins s σ H D I asked => ?_⟩
  let down : Value → Shared → Prop := fun e t => wpAny (model X.prog X.w) X.A (noteFrame e X.env) (fun _ t2 => wpAny (model X.prog X.w) X.A (setFlight e none) (fun _ t3 => wpAny (model X.prog X.w) X.A (handleBy e X.env (h₀ :: hs)) (SP X pins D) X.xe t3) X.xe t2) X.xe t
  have took : Takes (X.tr (X.pn ++ pins) down) (wCls X.K W D ks) := by
    rintro _ t ⟨e, B, t0, pins', τ, G, C, d, rfl, J', apart, up, sky, new, os, bare, w⟩
    have J : Inv X pins τ G t0 := J'.ofTry I.ok
    have sky2 : Sky B (X.env :: X.outer) e (Zc C d) X.env.locals t.heap := st ▸ sky
    refine Sky.land Zc.steady (by rw [I.ok.frames, st]) hf sky2 fun h2 fly up2 => ?_
    refine Got.handled (B := B) (t := { t with heap := h2 }) hf hN ⟨I.ok, fly, fun g kept up3 => J.landed apart kept ((up.trans up2).trans up3) os bare, new, fun V tv v g up3 held => tv _ _ ?_⟩ tk c w
    exact ⟨e, B, t0, pins, τ, G, C, d, rfl, J, apart, (up.trans up2).trans up3, .inr (.inr (st.symm ▸ held)), new, os, bare, v⟩
  refine wpAny_Try_except (wpAny_mono ((hb _ _ down took PassesOwn.looking).run [] s σ H D (I.toTry down) asked) (fun f t done => ?_) (fun _ _ z => z))
  rcases f with _ | _ | _ | u
  · obtain ⟨τ, G, J, z⟩ := done
    exact wpAny_execs_nil ⟨τ, G, J.ofTry I.ok, z⟩
  · obtain ⟨τ, G, J, z⟩ := done
    exact ⟨τ, G, J.ofTry I.ok, z⟩
  · obtain ⟨τ, G, J, z⟩ := done
    exact ⟨τ, G, J.ofTry I.ok, z⟩
  · obtain ⟨v, τ, G, J, rv, z⟩ := done
    exact ⟨v, τ, G, J.ofTry I.ok, rv, z⟩
end
end OQ

/-! ### try with clauses `except C as n` and `except C`, as many as there are -/
namespace OM
open PySem L2 PySem.Spec PyProof.Rows
/-- a clause: its class, the slot of its name, what its suite does -/
structure Cl where
  cl : Value
  sl : Option Nat
  su : Addr → Value → Option Addr → TS
/-- the ends of a suite whose name, in slot i, goes behind it -/
def Drop (i : Nat) (D : Ends) : Ends :=
  { nx := fun τ G => D.nx (τ.set i none) G, rt := D.rt, bk := fun τ G => D.bk (τ.set i none) G, ct := fun τ G => D.ct (τ.set i none) G }
/-- .. of a suite that has a name, or none -/
def DropO : Option Nat → Ends → Ends
  | some i, D => Drop i D
  | none, D => D
def setO (e : Addr) : Option Nat → L2.St → L2.St
  | some i, τ => τ.set i (some (.ref e))
  | none, τ => τ
/-- what clauses wish of an error: the first one of its class serves -/
def wCls (K : PySem.W.Frag) (W : WX) (D : Ends) : List Cl → WX
  | [] => W
  | k :: r => fun C d τ G => (PySem.W.exmOne K C k.cl = some true ∧ ∀ e, G e = none → k.su e C d (DropO k.sl D) (setO e k.sl τ) G) ∨ (PySem.W.exmOne K C k.cl = some false ∧ wCls K W D r C d τ G)
/-- clauses as they stand in the text -/
inductive Cls (X : Cx) : List ExceptHandler → List Cl → Prop
  | nil : Cls X [] []
  | cons {x n : Str} {p q : Pos} {b : Stmt} {bs : List Stmt} {r : List ExceptHandler} {ks : List Cl} (k : Cl) (i : Nat) (isl : k.sl = some i) (slot : X.N[i]? = some n) (own : X.env.kindOf n = some .local) (named : Names X x k.cl)
      (suite : ∀ (e : Addr) (o : Obj) (C : Value) (d : Option Addr) (pn : List (Addr × Obj)), Zc C d o → (∃ vs, o.data = .fields vs) → PSs (X.suite e ((e, o) :: pn)) (b :: bs) (k.su e C d)) (rest : Cls X r ks) :
      Cls X (.ExceptHandler (some (.Name x p)) (some n) (b :: bs) q :: r) (k :: ks)
  | bare {x : Str} {p q : Pos} {b : Stmt} {bs : List Stmt} {r : List ExceptHandler} {ks : List Cl} (k : Cl) (isl : k.sl = none) (named : Names X x k.cl)
      (suite : ∀ (e : Addr) (o : Obj) (C : Value) (d : Option Addr) (pn : List (Addr × Obj)), Zc C d o → (∃ vs, o.data = .fields vs) → PSs (X.suite e ((e, o) :: pn)) (b :: bs) (k.su e C d)) (rest : Cls X r ks) :
      Cls X (.ExceptHandler (some (.Name x p)) none (b :: bs) q :: r) (k :: ks)
/-- an error that came down in this frame -/
structure Got (X : Cx) (pins : List (Addr × Obj)) (e : Addr) (C : Value) (d : Option Addr) (τ : L2.St) (G : Hp) (B : Heap) (t : Shared) : Prop where
  ok : X.Ok
  fly : HandSPX.FlyingZ B (X.env :: X.outer) e (Zc C d) t.heap
  inv : ∀ g, B.StaysIn g → t.heap.UpToSlots g → Inv X pins τ G { t with heap := g }
  new : G e = none
  off : ∀ W, Takes X W → W C d τ G → ∀ g, t.heap.UpToSlots g → HandSPX.HeldZ B (X.env :: X.outer) e (Zc C d) X.env.locals g → X.xe (.ref e) { t with heap := g }
section
variable {X : Cx} {pins : List (Addr × Obj)} {e : Addr} {C : Value} {d : Option Addr} {τ : L2.St} {G : Hp} {B : Heap} {t : Shared} {D : Ends}
theorem Got.at (hf : X.env.frame = some X.env.locals) (g : Got X pins e C d τ G B t) : ∃ o, t.heap.get? e = some o ∧ Zc C d o ∧ (∃ vs, o.data = .fields vs) ∧ Inv (X.suite e ((e, o) :: (X.pn ++ pins))) [] τ G t := by
  obtain ⟨o, vs, there, zz, flds⟩ := g.fly.there
  have away : ∀ l : List Env, (∀ v ∈ l, v ∈ X.env :: X.outer) → e ∉ l.filterMap (·.frame) := fun l hl m => by
    obtain ⟨v, hv, fv⟩ := List.mem_filterMap.mp m
    have : e ∈ frs (X.env :: X.outer) := List.mem_filterMap.mpr ⟨v, hl v hv, fv⟩
    obtain ⟨_, o', at', no⟩ := (g.fly.2.2.1).mem this
    exact no vs (by rw [there] at at'; cases at'; exact flds)
  refine ⟨o, there, zz, ⟨vs, flds⟩, (g.inv _ g.fly.1 (Heap.UpToSlots.refl _)).suite there flds g.new (fun z => ?_) (fun m => ?_)⟩
  · exact away [X.env] (fun v hv => by rw [List.mem_singleton.mp hv]; exact List.mem_cons_self) (List.mem_filterMap.mpr ⟨X.env, List.mem_singleton.mpr rfl, by rw [hf, z]⟩)
  · exact away X.outer (fun v hv => List.mem_cons_of_mem _ hv) m
/-- no clause is left: it goes on -/
theorem Got.on (hf : X.env.frame = some X.env.locals) (g : Got X pins e C d τ G B t) {W : WX} (tk : Takes X W) (w : W C d τ G) {Q : Flow → Shared → Prop} :
    wpAny (model X.prog X.w) X.A (handleBy (.ref e) X.env []) Q X.xe t := by
  refine wpAny_handleBy_nil ?_
  have leave : wpAny (model X.prog X.w) X.A (setFlight (.ref e) X.env.frame) (fun _ t2 => wpAny (model X.prog X.w) X.A (throw (.ref e) : Sem Flow) Q X.xe t2) X.xe t := by
    rw [hf]
    exact HandSPX.setFlight_upZ g.fly fun g2 held up2 => wpAny_throw (g.off W tk w g2 up2 held)
  obtain ⟨_, _, _, o, vs, tr, _, _, there, _, flds, fst, _⟩ := id g.fly
  unfold PySem.passOn
  refine wpAny_bind (wpAny_field there flds fst ?_)
  rw [if_neg (show ¬ ((Value.ref tr == Value.none) = true) by simp)]
  first
    | exact wpAny_bind (wpAny_pure (wpAny_bind leave))
    | exact wpAny_bind leave
theorem Got.handled (hf : X.env.frame = some X.env.locals) (hN : X.N.Nodup) (g : Got X pins e C d τ G B t) {W : WX} (tk : Takes X W) {hs : List ExceptHandler} {ks : List Cl} (c : Cls X hs ks) :
    wCls X.K W D ks C d τ G → wpAny (model X.prog X.w) X.A (handleBy (.ref e) X.env hs) (SP X pins D) X.xe t := by
  induction c with
  | nil => exact fun w => g.on hf tk w
  | @cons x n p q b bs r ks k i isl slot own named suite rest ih =>
    intro w
    unfold wCls at w
    rw [isl] at w
    obtain ⟨o, there, zz, flds, S⟩ := g.at hf
    refine wpAny_handleBy_cons (codeAny_handlers_test ?_) (fun z => Value.noConfusion z)
    have cls : PySem.W.Looks (model X.prog X.w) t.heap (typeOf (.ref e)) C := fun _ _ _ s' keeps z => wpAny_typeOf_ref (keeps _ _ there) (by rw [zz.1]; exact z)
    have name : ∀ {Q E : Value → Shared → Prop}, Q k.cl t → wpAny (model X.prog X.w) (X.A.mark (some (.ref e))) (eval (.Name x p) X.env) Q E t := by
      intro Q E z
      rcases named with ⟨gl, nd, here | ⟨no, built, nn⟩⟩
      · exact ld_glob (X := X.suite e ((e, o) :: (X.pn ++ pins))) S gl here z nd
      · exact ld_blt (X := X.suite e ((e, o) :: (X.pn ++ pins))) S gl no built z nn nd
    rcases w with ⟨yes, go⟩ | ⟨no, go⟩
    · refine name ((PySem.W.exm_one (M := model X.prog X.w) S.kIn cls yes).here ?_)
      refine codeAny_handlers_suite_as (HandSPX.lands_againZ g.fly fun h2 fly2 up2 => ?_)
      have g2 : Got X pins e C d τ G B { t with heap := h2 } := ⟨g.ok, fly2, fun h3 st up3 => g.inv h3 st (up2.trans up3), g.new, fun W tk w h3 up3 held => g.off W tk w h3 (up2.trans up3) held⟩
      obtain ⟨o2, _, zz2, flds2, S2⟩ := g2.at hf
      refine store_ok (X := X.suite e ((e, o2) :: (X.pn ++ pins))) (v := V.ref e) S2 hN slot (.inl own) rfl (fun t3 S3 => ?_) (.inr own)
      refine wpAny_mono ((suite e o2 C d (X.pn ++ pins) zz2 flds2).run [] t3 _ G _ S3 (go e g.new)) (fun f t4 done => ?_) (fun _ _ z => z.elim)
      rcases f with _ | _ | _ | u
      · obtain ⟨τ4, G4, S4, z⟩ := done
        exact gone_ok (S4.unsuite g.ok) hN slot own fun t5 S5 => ⟨_, G4, S5, z⟩
      · obtain ⟨τ4, G4, S4, z⟩ := done
        exact gone_ok (S4.unsuite g.ok) hN slot own fun t5 S5 => ⟨_, G4, S5, z⟩
      · obtain ⟨τ4, G4, S4, z⟩ := done
        exact gone_ok (S4.unsuite g.ok) hN slot own fun t5 S5 => ⟨_, G4, S5, z⟩
      · obtain ⟨v, τ4, G4, S4, rv, z⟩ := done
        exact gone_ok (S4.unsuite g.ok) hN slot own fun t5 S5 => ⟨v, _, G4, S5, rv, z⟩
    · refine name ((PySem.W.exm_one (M := model X.prog X.w) S.kIn cls no).here ?_)
      exact ih go
  | @bare x p q b bs r ks k isl named suite rest ih =>
    intro w
    unfold wCls at w
    rw [isl] at w
    obtain ⟨o, there, zz, flds, S⟩ := g.at hf
    refine wpAny_handleBy_cons (codeAny_handlers_test ?_) (fun z => Value.noConfusion z)
    have cls : PySem.W.Looks (model X.prog X.w) t.heap (typeOf (.ref e)) C := fun _ _ _ s' keeps z => wpAny_typeOf_ref (keeps _ _ there) (by rw [zz.1]; exact z)
    have name : ∀ {Q E : Value → Shared → Prop}, Q k.cl t → wpAny (model X.prog X.w) (X.A.mark (some (.ref e))) (eval (.Name x p) X.env) Q E t := by
      intro Q E z
      rcases named with ⟨gl, nd, here | ⟨no, built, nn⟩⟩
      · exact ld_glob (X := X.suite e ((e, o) :: (X.pn ++ pins))) S gl here z nd
      · exact ld_blt (X := X.suite e ((e, o) :: (X.pn ++ pins))) S gl no built z nn nd
    rcases w with ⟨yes, go⟩ | ⟨no, go⟩
    · refine name ((PySem.W.exm_one (M := model X.prog X.w) S.kIn cls yes).here ?_)
      refine codeAny_handlers_suite (HandSPX.lands_againZ g.fly fun h2 fly2 up2 => ?_)
      have g2 : Got X pins e C d τ G B { t with heap := h2 } := ⟨g.ok, fly2, fun h3 st up3 => g.inv h3 st (up2.trans up3), g.new, fun W tk w h3 up3 held => g.off W tk w h3 (up2.trans up3) held⟩
      obtain ⟨o2, _, zz2, flds2, S2⟩ := g2.at hf
      refine wpAny_mono ((suite e o2 C d (X.pn ++ pins) zz2 flds2).run [] _ _ G _ S2 (go e g.new)) (fun f t4 done => ?_) (fun _ _ z => z.elim)
      rcases f with _ | _ | _ | u
      · obtain ⟨τ4, G4, S4, z⟩ := done
        exact ⟨_, G4, S4.unsuite g.ok, z⟩
      · obtain ⟨τ4, G4, S4, z⟩ := done
        exact ⟨_, G4, S4.unsuite g.ok, z⟩
      · obtain ⟨τ4, G4, S4, z⟩ := done
        exact ⟨_, G4, S4.unsuite g.ok, z⟩
      · obtain ⟨v, τ4, G4, S4, rv, z⟩ := done
        exact ⟨v, _, G4, S4.unsuite g.ok, rv, z⟩
    · refine name ((PySem.W.exm_one (M := model X.prog X.w) S.kIn cls no).here ?_)
      exact ih go
end
section
variable {X : Cx} {body : List Stmt} {h₀ : ExceptHandler} {hs : List ExceptHandler} {ks : List Cl} {pos : Pos} {tb : WX → TS} {W : WX}
theorem ps_try_cls (st : X.stack = X.env :: X.outer) (hf : X.env.frame = some X.env.locals) (hN : X.N.Nodup) (tk : Takes X W)
    (hb : ∀ (W : WX) (pn : List (Addr × Obj)) (xe : Value → Shared → Prop), Takes (X.tr pn xe) W → PassesOwn (model X.prog X.w) X.A X.env xe → PSs (X.tr pn xe) body (tb W))
    (c : Cls X (h₀ :: hs) ks) : PS X (.Try body (h₀ :: hs) [] [] pos) (fun D σ H => tb (wCls X.K W D ks) D σ H) := by
  refine ⟨fun pins s σ H D I asked => ?_⟩
  let down : Value → Shared → Prop := fun e t => wpAny (model X.prog X.w) X.A (noteFrame e X.env) (fun _ t2 => wpAny (model X.prog X.w) X.A (setFlight e none) (fun _ t3 => wpAny (model X.prog X.w) X.A (handleBy e X.env (h₀ :: hs)) (SP X pins D) X.xe t3) X.xe t2) X.xe t
  have took : Takes (X.tr (X.pn ++ pins) down) (wCls X.K W D ks) := by
    rintro _ t ⟨e, B, t0, pins', τ, G, C, d, rfl, J', apart, up, sky, new, os, bare, w⟩
    have J : Inv X pins τ G t0 := J'.ofTry I.ok
    have sky2 : Sky B (X.env :: X.outer) e (Zc C d) X.env.locals t.heap := st ▸ sky
    refine Sky.land Zc.steady (by rw [I.ok.frames, st]) hf sky2 fun h2 fly up2 => ?_
    refine Got.handled (B := B) (t := { t with heap := h2 }) hf hN ⟨I.ok, fly, fun g kept up3 => J.landed apart kept ((up.trans up2).trans up3) os bare, new, fun V tv v g up3 held => tv _ _ ?_⟩ tk c w
    exact ⟨e, B, t0, pins, τ, G, C, d, rfl, J, apart, (up.trans up2).trans up3, .inr (.inr (st.symm ▸ held)), new, os, bare, v⟩
  refine wpAny_Try_except (wpAny_mono ((hb _ _ down took PassesOwn.looking).run [] s σ H D (I.toTry down) asked) (fun f t done => ?_) (fun _ _ z => z))
  rcases f with _ | _ | _ | u
  · obtain ⟨τ, G, J, z⟩ := done
    exact wpAny_execs_nil ⟨τ, G, J.ofTry I.ok, z⟩
  · obtain ⟨τ, G, J, z⟩ := done
    exact ⟨τ, G, J.ofTry I.ok, z⟩
  · obtain ⟨τ, G, J, z⟩ := done
    exact ⟨τ, G, J.ofTry I.ok, z⟩
  · obtain ⟨v, τ, G, J, rv, z⟩ := done
    exact ⟨v, τ, G, J.ofTry I.ok, rv, z⟩
end
end OM

/-! ### comprehensions with two generators over ranges -/
namespace OM
open PySem L2
theorem c2_range {lo : Int} {n : Nat} {g : TG} {tt : TT} {vs : List Nat} {σ : L2.St} {H0 : Hp} {Qd : Hp → Prop} {B : (Hp → Prop) → L2.St → Hp → Prop} (Pv : Nat → Hp → Prop) (h0 : Pv 0 H0)
    (hs : ∀ i H, i < n → Pv i H → g (.int (lo + i)) (wipe σ vs) H fun σ2 H2 => wipe σ2 vs = wipe σ vs ∧ tt σ2 H2 fun b H3 => if b = true then B (Pv (i + 1)) σ2 H3 else Pv (i + 1) H3) (hd : ∀ H, Pv n H → Qd H) :
    ∃ W : Nat → Nat → Hp → Prop, (∃ m, W 0 m H0) ∧ ∀ i m H, W i m H →
      ((Itr lo n).stop i H ∧ Qd H) ∨ ((Itr lo n).go i H ∧ ∃ Nx : Hp → Prop, (∀ H', Nx H' → ∃ m', m' < m ∧ W (i + 1) m' H') ∧ ∀ x H', (Itr lo n).yld i H x H' → g x (wipe σ vs) H' fun σ2 H2 => wipe σ2 vs = wipe σ vs ∧ tt σ2 H2 fun b H3 =>
        if b = true then B Nx σ2 H3 else Nx H3) := by
  refine ⟨fun i m H => i ≤ n ∧ m + i = n ∧ Pv i H, ⟨n, Nat.zero_le _, rfl, h0⟩, ?_⟩
  rintro i m H ⟨hi, rfl, p⟩
  rcases Nat.eq_or_lt_of_le hi with e | hlt
  · exact .inl ⟨by show _ ≤ i; omega, hd H (e ▸ p)⟩
  · refine .inr ⟨hlt, Pv (i + 1), fun H' p' => ⟨m - 1, by omega, hlt, by omega, p'⟩, ?_⟩
    rintro x H' ⟨rfl, rfl⟩
    exact hs i _ hlt p
end OM

/-! ### raising without an argument, a caught error's field, == of lists of tuples -/
namespace OQ
open PySem L2 PySem.Spec PyProof.Rows
section
variable {X : Cx} {CX : CXT} {x : Str} {C fI : Addr} {k : Nat} {fd : FuncData} {ps : List Str} {sp : Sp} {ds : List Value} {dvs : List V} {p pos : Pos}
/-- C(), C an own error whose __init__ sets a field -/
theorem pmk_mk0 (T : OexC X.K C) (iC : PySem.W.findIn X.K (.ref C) "__init__" = some (some (.ref fI))) (tI : PySem.W.typeIn X.K (.ref fI) = some (.type "function"))
    (F1 : FnOk X.prog X.w X.K X.mg X.base CX k fI fd ps sp) (hr : Room (k + 1) X.A) (hb : Binds X.K fd ps ds) (hd : Vals dvs ds) (hx : Passes CX X (fun _ _ _ => False)) (hg : Gl X x) (hm : X.mg x = some (.ref C))
    (hdb : (x == ("__debug__" : Str)) = false := by decide) : PMk X (.Call (.Name x p) [] [] pos) (tMkO C sp dvs tNil) := by
  intro pins s σ H Q I asked
  refine wpAny_Call_Name_kw (ld_glob I hg hm ?_ hdb)
  refine PySem.W.callWith_K0 I.kIn T.kC ?_
  obtain ⟨free, J⟩ := newErr (X := X) [] C I
  have wish := asked.2 _ free
  have all : Vals (V.ref (s.heap.objs.size + 1) :: ([] ++ dvs)) (Value.ref (s.heap.objs.size + 1) :: ([] ++ ds)) := .cons rfl hd
  have many : (Value.ref (s.heap.objs.size + 1) :: [] ++ ds).length = ps.length := (all.length.symm).trans (F1.len _ _ _ _ wish)
  have body := F1.run _ X.stack _ _ ⟨[Value.ref (s.heap.objs.size + 1)], []⟩ _ _ _ (fun _ _ _ => False) (hr.make C [] []) (J.env0.make C [] []) (hb _ [_] J.kIn many) all wish
  obtain ⟨_, _, _, _, bm, _, _, _, _, _, _, _, _, _, _, look, good⟩ := T.cls
  refine wpAny_call (PySem.HandSPX.call_own F.excBase_ValueError (fun _ => PySem.HandSPX.refsVE_contains _ bm good) (I.kIn _ _ look) (PySem.W.looks_findIn I.kIn iC) (fun v => PySem.W.bind_fn I.kIn v tI) (by decide) (codeAny_mono body ?_))
  rintro (er | fl) s2 post
  · exact hx pins σ _ _ er s2 J post
  · match fl, post with
    | .ret u, ⟨v, H2, os2, bare2, un2, hok2, rv, ev, d, fs, ea, ed, hd1, q2⟩ =>
      subst ev
      exact ⟨rv, mk_end (raises_own T.exC T.tyC) I (Nat.le_succ _) (fun _ _ z => Heap.get?_push_of_some _ (Heap.get?_push_of_some _ z)) un2 hok2 os2 bare2 ea ed hd1 q2⟩
end
end OQ

/-! ### list(zip(*rows)) -/
namespace ZN
open PySem PySem.Spec PyProof.Rows
/-- an iterator that has gone i turns over the list or tuple at a -/
def Src (h : Heap) (it a : Addr) (xs : Array Value) (i : Nat) : Prop := (h.IsListIter it a i ∧ h.IsList a xs) ∨ (h.IsTupleIter it a i ∧ h.IsTuple a xs)
theorem src_draws {prog : Program} {w : World} {A : Around} (hh : A.handled = none) {it a : Addr} (ne : a ≠ it) {xs : Array Value} : Draws prog w A it [it, a] xs.size (fun i v => xs[i]? = some v) (fun i h => Src h it a xs i) where
  live := fun i h s => s.elim (fun s => (Draws.list (prog := prog) (w := w) hh it a ne xs).live i h s) (fun s => (Draws.tuple (prog := prog) (w := w) hh it a ne xs).live i h s)
  frame := fun i h h' s k => s.elim (fun s => .inl ((Draws.list (prog := prog) (w := w) hh it a ne xs).frame i h h' s k)) (fun s => .inr ((Draws.tuple (prog := prog) (w := w) hh it a ne xs).frame i h h' s k))
  item := fun i s Q E hi st hQ => st.elim (fun st => (Draws.list hh it a ne xs).item i s Q E hi st fun x h' tk p q r => hQ x h' tk p (.inl q) r) (fun st => (Draws.tuple hh it a ne xs).item i s Q E hi st fun x h' tk p q r => hQ x h' tk p (.inr q) r)
  done := fun s Q E st hE => st.elim (fun st => (Draws.list hh it a ne xs).done s Q E st hE) (fun st => (Draws.tuple hh it a ne xs).done s Q E st hE)
theorem Src.over {h h' : Heap} {it a x : Addr} {xs : Array Value} {i : Nat} (s : Src h it a xs i) (e : Heap.SameBut x h h') (n1 : it ≠ x) (n2 : a ≠ x) : Src h' it a xs i := by
  rcases s with ⟨s1, s2⟩ | ⟨s1, s2⟩
  · exact .inl ⟨s1.at fun o q => e.extBut _ _ n1 q, s2.at fun o q => e.extBut _ _ n2 q⟩
  · exact .inr ⟨s1.at fun o q => e.extBut _ _ n1 q, s2.at fun o q => e.extBut _ _ n2 q⟩
theorem Src.at {h h' : Heap} {it a : Addr} {xs : Array Value} {i : Nat} (s : Src h it a xs i) (e : ∀ b, (b = it ∨ b = a) → ∀ o, h.get? b = some o → h'.get? b = some o) : Src h' it a xs i := by
  rcases s with ⟨s1, s2⟩ | ⟨s1, s2⟩
  · exact .inl ⟨s1.at fun o q => e _ (.inl rfl) _ q, s2.at fun o q => e _ (.inr rfl) _ q⟩
  · exact .inr ⟨s1.at fun o q => e _ (.inl rfl) _ q, s2.at fun o q => e _ (.inr rfl) _ q⟩
/-- the list or tuple at a holds xs -/
def Whole (h : Heap) (a : Addr) (xs : Array Value) : Prop := h.IsList a xs ∨ h.IsTuple a xs
theorem Whole.push {h : Heap} {a : Addr} {xs : Array Value} {o : Obj} (w : Whole h a xs) : Whole (h.push o) a xs := w.elim (fun w => .inl (w.at fun o q => Heap.get?_push_of_some _ q)) (fun w => .inr (w.at fun o q => Heap.get?_push_of_some _ q))
/-- the iterators over these, as they begin: at b, b + 1, .. -/
def Beg (h : Heap) (b : Nat) : List (Addr × Array Value) → Prop
  | [] => True
  | s :: ss => Src h b s.1 s.2 0 ∧ Beg h (b + 1) ss
section
variable {prog : Program} {w : World} {A : Around} {E : Value → Shared → Prop}
theorem one_iter {a : Addr} {xs : Array Value} {s : Shared} {Q : Value → Shared → Prop} (wh : Whole s.heap a xs)
    (h : ∀ h', Src h' s.heap.objs.size a xs 0 → h'.objs.size = s.heap.objs.size + 1 → (∀ c o, s.heap.get? c = some o → h'.get? c = some o) → Q (.ref s.heap.objs.size) { s with heap := h' }) : wpAny (model prog w) A (pyIter (.ref a)) Q E s := by
  rcases wh with wh | wh
  · refine wpAny_pyIter_list wh (h _ (.inl ⟨⟨_, Heap.get?_push_size _ rfl, rfl, rfl⟩, wh.at fun o q => Heap.get?_push_of_some _ q⟩) (Heap.size_push ..) fun c o q => Heap.get?_push_of_some _ q)
  · refine wpAny_pyIter_tuple wh (h _ (.inr ⟨⟨_, Heap.get?_push_size _ rfl, rfl, rfl⟩, wh.at fun o q => Heap.get?_push_of_some _ q⟩) (Heap.size_push ..) fun c o q => Heap.get?_push_of_some _ q)
end
end ZN
namespace ZN
open PySem PySem.Spec PyProof.Rows
def refs (b m : Nat) : List Value := (List.range m).map fun j => Value.ref (b + j)
theorem refs_succ {b m : Nat} : refs b (m + 1) = refs b m ++ [.ref (b + m)] := by unfold refs; rw [List.range_succ, List.map_append]; rfl
theorem Whole.at {h h' : Heap} {a : Addr} {xs : Array Value} (w : Whole h a xs) (k : ∀ c o, h.get? c = some o → h'.get? c = some o) : Whole h' a xs := w.elim (fun w => .inl (w.at fun o q => k _ _ q)) (fun w => .inr (w.at fun o q => k _ _ q))
theorem Whole.lt {h : Heap} {a : Addr} {xs : Array Value} (w : Whole h a xs) : a < h.objs.size := by
  rcases w with ⟨o, e, _⟩ | ⟨o, e, _⟩
  · exact Heap.lt_size e
  · exact Heap.lt_size e
section
variable {prog : Program} {w : World} {A : Around} {E : Value → Shared → Prop}
theorem all_iter {ss : List (Addr × Array Value)} {s : Shared} {Q : List Value → Shared → Prop} (wh : ∀ p ∈ ss, Whole s.heap p.1 p.2)
    (h : ∀ h', (∀ (j : Nat) p, ss[j]? = some p → Src h' (s.heap.objs.size + j) p.1 p.2 0) → h'.objs.size = s.heap.objs.size + ss.length → (∀ c o, s.heap.get? c = some o → h'.get? c = some o) → Q (refs s.heap.objs.size ss.length) { s with heap := h' }) :
    wpAny (model prog w) A (Builtin.SmallTypes.iterAll (ss.map fun p => Value.ref p.1)) Q E s := by
  unfold Builtin.SmallTypes.iterAll
  refine wpAny_bind (wpAny_forIn_list _ (fun rest its s' => ∃ (dn rs : List (Addr × Array Value)) (h' : Heap), ss = dn ++ rs ∧ rest = rs.map (fun p => Value.ref p.1) ∧ its.toList = refs s.heap.objs.size dn.length ∧ s' = { s with heap := h' } ∧ h'.objs.size = s.heap.objs.size + dn.length ∧
    (∀ c o, s.heap.get? c = some o → h'.get? c = some o) ∧ ∀ (j : Nat) p, dn[j]? = some p → Src h' (s.heap.objs.size + j) p.1 p.2 0) _ ?_ ?_ _ _ ⟨[], ss, s.heap, rfl, rfl, rfl, rfl, rfl, (fun _ _ e => e), (fun j p e => by simp at e)⟩)
  · rintro x rest its s' ⟨dn, rs, h', es, er, ei, rfl, sz, kp, al⟩
    cases rs with
    | nil => cases er
    | cons p rs =>
      cases er
      have pm : p ∈ ss := by rw [es]; exact List.mem_append_right _ (List.mem_cons_self ..)
      have lt := (wh p pm).lt
      refine wpAny_bind (wpAny_holding ?_)
      refine one_iter (s := { s with heap := h' }) ((wh p pm).at kp) fun h2 s2 z2 k2 => wpAny_pure ?_
      replace z2 : h2.objs.size = h'.objs.size + 1 := z2
      replace k2 : ∀ c o, h'.get? c = some o → h2.get? c = some o := k2
      replace s2 : Src h2 h'.objs.size p.1 p.2 0 := s2
      refine ⟨dn ++ [p], rs, h2, by rw [List.append_assoc]; exact es, rfl, ?_, rfl, by rw [List.length_append, z2, sz]; rfl, fun c o e => k2 _ _ (kp _ _ e), fun j q e => ?_⟩
      · rw [Array.toList_push, ei, List.length_append]
        show _ = refs _ (dn.length + 1)
        rw [refs_succ, ← sz]
      · by_cases lj : j < dn.length
        · rw [List.getElem?_append_left lj] at e
          exact (al j q e).at fun b _ o e => k2 _ _ e
        · have : j = dn.length := by
            have := (List.getElem?_eq_some_iff.mp e).1
            rw [List.length_append] at this
            simp at this
            omega
          subst this
          rw [List.getElem?_append_right (by omega), Nat.sub_self] at e
          cases e
          rw [sz] at s2
          exact s2
  · rintro its s' ⟨dn, rs, h', es, er, ei, rfl, sz, kp, al⟩
    cases rs with
    | cons p rs => cases er
    | nil =>
      rw [List.append_nil] at es
      subst es
      refine wpAny_pure ?_
      rw [ei]
      exact h h' al sz kp
/-- a zip as it begins -/
def ZNew (h : Heap) (b m : Nat) : Prop := h.get? (b + m) = some { cls := .type "tuple", data := .seq (refs b m).toArray } ∧ h.get? (b + m + 1) = some { cls := .type "tuple", data := .seq (List.replicate m Value.none).toArray } ∧ IsZip h (b + m + 2) (b + m) (b + m + 1) .none
theorem new_class {M : Model} {A : Around} {vs : List Value} {Q : Value × List Value → Shared → Prop} {s : Shared} (h : Q (.type "zip", vs) s) : wpAny M A (Builtin.SmallTypes.newClass "zip" ⟨Value.type "zip" :: vs, []⟩) Q E s := by
  unfold Builtin.SmallTypes.newClass
  dsimp only
  show wpAny M A ((pure true : Sem Bool) >>= _) Q E s
  refine wpAny_bind (wpAny_pure ?_)
  simp only [Bool.not_true, Bool.false_eq_true, if_false]
  rw [sub_zip]
  refine wpAny_bind (wpAny_pure ?_)
  simp only [Bool.not_true, Bool.false_eq_true, if_false]
  exact wpAny_pure h
theorem refs_len {b m : Nat} : (refs b m).length = m := by unfold refs; rw [List.length_map, List.length_range]
theorem zip_new {ss : List (Addr × Array Value)} {s : Shared} {Q : Fin → Shared → Prop} (few : ss.length ≤ 1000) (wh : ∀ p ∈ ss, Whole s.heap p.1 p.2)
    (h : ∀ h', (∀ (j : Nat) p, ss[j]? = some p → Src h' (s.heap.objs.size + j) p.1 p.2 0) → h'.objs.size = s.heap.objs.size + ss.length + 3 → (∀ c o, s.heap.get? c = some o → h'.get? c = some o) → ZNew h' s.heap.objs.size ss.length → Q (.done (.ret (.ref (s.heap.objs.size + ss.length + 2)))) { s with heap := h' }) :
    wpAny (model prog w) A (Builtin.«zip.__new__» ⟨.type "zip" :: ss.map fun p => Value.ref p.1, []⟩) Q E s := by
  have z1000 : 1000 ≤ sizeLine := by decide
  unfold Builtin.«zip.__new__»
  refine wpAny_bind (new_class ?_)
  show wpAny _ _ (Builtin.SmallTypes.iterAll _ >>= _) _ _ _
  refine wpAny_bind (all_iter wh fun h1 al1 sz1 kp1 => ?_)
  show wpAny _ _ (newTuple _ >>= _) _ _ _
  refine wpAny_bind (wpAny_newTuple ?_ (by rw [List.size_toArray, refs_len]; omega))
  refine wpAny_bind (wpAny_newTuple ?_ (by rw [List.size_toArray, List.length_map, refs_len]; omega))
  refine wpAny_bind ?_
  unfold Builtin.SmallTypes.newRecord
  refine wpAny_newObj_type ?_ (by show 5 ≤ sizeLine + 2; decide)
  refine wpAny_pure ?_
  have e1 : List.map (fun _ => Value.none) (refs s.heap.objs.size ss.length) = List.replicate ss.length Value.none := by
    rw [List.map_const', refs_len]
  have z1 : (h1.push { cls := .type "tuple", data := .seq (refs s.heap.objs.size ss.length).toArray }).objs.size = s.heap.objs.size + ss.length + 1 := by rw [Heap.size_push, sz1]
  have z2 : ((h1.push { cls := .type "tuple", data := .seq (refs s.heap.objs.size ss.length).toArray }).push { cls := .type "tuple", data := .seq (List.replicate ss.length Value.none).toArray }).objs.size = s.heap.objs.size + ss.length + 2 := by rw [Heap.size_push, z1]
  show Q (.done (.ret (.ref ((h1.push { cls := .type "tuple", data := .seq (refs s.heap.objs.size ss.length).toArray }).push { cls := .type "tuple", data := .seq (List.map (fun _ => Value.none) (refs s.heap.objs.size ss.length)).toArray }).objs.size))) { s with heap := ((h1.push { cls := .type "tuple", data := .seq (refs s.heap.objs.size ss.length).toArray }).push { cls := .type "tuple", data := .seq (List.map (fun _ => Value.none) (refs s.heap.objs.size ss.length)).toArray }).push { cls := .type "zip", data := .fields #[.none, .bool false, .bool false, .ref h1.objs.size, .ref (h1.push { cls := .type "tuple", data := .seq (refs s.heap.objs.size ss.length).toArray }).objs.size] } }
  rw [e1, z2, z1, sz1]
  have up : ∀ c o, h1.get? c = some o → (((h1.push { cls := .type "tuple", data := .seq (refs s.heap.objs.size ss.length).toArray }).push { cls := .type "tuple", data := .seq (List.replicate ss.length Value.none).toArray }).push { cls := .type "zip", data := .fields #[.none, .bool false, .bool false, .ref (s.heap.objs.size + ss.length), .ref (s.heap.objs.size + ss.length + 1)] }).get? c = some o := fun c o e => Heap.get?_push_of_some _ (Heap.get?_push_of_some _ (Heap.get?_push_of_some _ e))
  refine h _ (fun j p e => (al1 j p e).at fun b _ o q => up b o q) (by rw [Heap.size_push, z2]) (fun c o e => up c o (kp1 c o e)) ⟨?_, ?_, ?_⟩
  · rw [← sz1]; exact Heap.get?_push_of_some _ (Heap.get?_push_of_some _ (Heap.get?_push_size _ rfl))
  · rw [← z1]; exact Heap.get?_push_of_some _ (Heap.get?_push_size _ rfl)
  · show Heap.get? _ (s.heap.objs.size + ss.length + 2) = _
    rw [← z2]; exact Heap.get?_push_size _ rfl
end
end ZN
namespace ZN
open PySem PySem.Spec PyProof.Rows
theorem tc (vs : List Value) : checkTypeCall "zip" ⟨vs, []⟩ = pure () := by kernel_rfl
theorem nc0 : checkBuiltinCall "zip.__new__" ⟨.type "zip" :: [], []⟩ = pure () := by kernel_rfl
theorem ai0 (z : Value) : argsOk "object.__init__" ⟨z :: [], []⟩ := by unfold argsOk; kernel_rfl
theorem nc1 (a1 : Value) : checkBuiltinCall "zip.__new__" ⟨.type "zip" :: [a1], []⟩ = pure () := by kernel_rfl
theorem ai1 (z : Value) (a1 : Value) : argsOk "object.__init__" ⟨z :: [a1], []⟩ := by unfold argsOk; kernel_rfl
theorem nc2 (a1 a2 : Value) : checkBuiltinCall "zip.__new__" ⟨.type "zip" :: [a1, a2], []⟩ = pure () := by kernel_rfl
theorem ai2 (z : Value) (a1 a2 : Value) : argsOk "object.__init__" ⟨z :: [a1, a2], []⟩ := by unfold argsOk; kernel_rfl
theorem nc3 (a1 a2 a3 : Value) : checkBuiltinCall "zip.__new__" ⟨.type "zip" :: [a1, a2, a3], []⟩ = pure () := by kernel_rfl
theorem ai3 (z : Value) (a1 a2 a3 : Value) : argsOk "object.__init__" ⟨z :: [a1, a2, a3], []⟩ := by unfold argsOk; kernel_rfl
theorem nc4 (a1 a2 a3 a4 : Value) : checkBuiltinCall "zip.__new__" ⟨.type "zip" :: [a1, a2, a3, a4], []⟩ = pure () := by kernel_rfl
theorem ai4 (z : Value) (a1 a2 a3 a4 : Value) : argsOk "object.__init__" ⟨z :: [a1, a2, a3, a4], []⟩ := by unfold argsOk; kernel_rfl
theorem nc5 (a1 a2 a3 a4 a5 : Value) : checkBuiltinCall "zip.__new__" ⟨.type "zip" :: [a1, a2, a3, a4, a5], []⟩ = pure () := by kernel_rfl
theorem ai5 (z : Value) (a1 a2 a3 a4 a5 : Value) : argsOk "object.__init__" ⟨z :: [a1, a2, a3, a4, a5], []⟩ := by unfold argsOk; kernel_rfl
theorem nc6 (a1 a2 a3 a4 a5 a6 : Value) : checkBuiltinCall "zip.__new__" ⟨.type "zip" :: [a1, a2, a3, a4, a5, a6], []⟩ = pure () := by kernel_rfl
theorem ai6 (z : Value) (a1 a2 a3 a4 a5 a6 : Value) : argsOk "object.__init__" ⟨z :: [a1, a2, a3, a4, a5, a6], []⟩ := by unfold argsOk; kernel_rfl
theorem nc7 (a1 a2 a3 a4 a5 a6 a7 : Value) : checkBuiltinCall "zip.__new__" ⟨.type "zip" :: [a1, a2, a3, a4, a5, a6, a7], []⟩ = pure () := by kernel_rfl
theorem ai7 (z : Value) (a1 a2 a3 a4 a5 a6 a7 : Value) : argsOk "object.__init__" ⟨z :: [a1, a2, a3, a4, a5, a6, a7], []⟩ := by unfold argsOk; kernel_rfl
theorem nc8 (a1 a2 a3 a4 a5 a6 a7 a8 : Value) : checkBuiltinCall "zip.__new__" ⟨.type "zip" :: [a1, a2, a3, a4, a5, a6, a7, a8], []⟩ = pure () := by kernel_rfl
theorem ai8 (z : Value) (a1 a2 a3 a4 a5 a6 a7 a8 : Value) : argsOk "object.__init__" ⟨z :: [a1, a2, a3, a4, a5, a6, a7, a8], []⟩ := by unfold argsOk; kernel_rfl
theorem nc9 (a1 a2 a3 a4 a5 a6 a7 a8 a9 : Value) : checkBuiltinCall "zip.__new__" ⟨.type "zip" :: [a1, a2, a3, a4, a5, a6, a7, a8, a9], []⟩ = pure () := by kernel_rfl
theorem ai9 (z : Value) (a1 a2 a3 a4 a5 a6 a7 a8 a9 : Value) : argsOk "object.__init__" ⟨z :: [a1, a2, a3, a4, a5, a6, a7, a8, a9], []⟩ := by unfold argsOk; kernel_rfl
theorem nc10 (a1 a2 a3 a4 a5 a6 a7 a8 a9 a10 : Value) : checkBuiltinCall "zip.__new__" ⟨.type "zip" :: [a1, a2, a3, a4, a5, a6, a7, a8, a9, a10], []⟩ = pure () := by kernel_rfl
theorem ai10 (z : Value) (a1 a2 a3 a4 a5 a6 a7 a8 a9 a10 : Value) : argsOk "object.__init__" ⟨z :: [a1, a2, a3, a4, a5, a6, a7, a8, a9, a10], []⟩ := by unfold argsOk; kernel_rfl
theorem nc11 (a1 a2 a3 a4 a5 a6 a7 a8 a9 a10 a11 : Value) : checkBuiltinCall "zip.__new__" ⟨.type "zip" :: [a1, a2, a3, a4, a5, a6, a7, a8, a9, a10, a11], []⟩ = pure () := by kernel_rfl
theorem ai11 (z : Value) (a1 a2 a3 a4 a5 a6 a7 a8 a9 a10 a11 : Value) : argsOk "object.__init__" ⟨z :: [a1, a2, a3, a4, a5, a6, a7, a8, a9, a10, a11], []⟩ := by unfold argsOk; kernel_rfl
theorem nc12 (a1 a2 a3 a4 a5 a6 a7 a8 a9 a10 a11 a12 : Value) : checkBuiltinCall "zip.__new__" ⟨.type "zip" :: [a1, a2, a3, a4, a5, a6, a7, a8, a9, a10, a11, a12], []⟩ = pure () := by kernel_rfl
theorem ai12 (z : Value) (a1 a2 a3 a4 a5 a6 a7 a8 a9 a10 a11 a12 : Value) : argsOk "object.__init__" ⟨z :: [a1, a2, a3, a4, a5, a6, a7, a8, a9, a10, a11, a12], []⟩ := by unfold argsOk; kernel_rfl
theorem nc13 (a1 a2 a3 a4 a5 a6 a7 a8 a9 a10 a11 a12 a13 : Value) : checkBuiltinCall "zip.__new__" ⟨.type "zip" :: [a1, a2, a3, a4, a5, a6, a7, a8, a9, a10, a11, a12, a13], []⟩ = pure () := by kernel_rfl
theorem ai13 (z : Value) (a1 a2 a3 a4 a5 a6 a7 a8 a9 a10 a11 a12 a13 : Value) : argsOk "object.__init__" ⟨z :: [a1, a2, a3, a4, a5, a6, a7, a8, a9, a10, a11, a12, a13], []⟩ := by unfold argsOk; kernel_rfl
theorem nc14 (a1 a2 a3 a4 a5 a6 a7 a8 a9 a10 a11 a12 a13 a14 : Value) : checkBuiltinCall "zip.__new__" ⟨.type "zip" :: [a1, a2, a3, a4, a5, a6, a7, a8, a9, a10, a11, a12, a13, a14], []⟩ = pure () := by kernel_rfl
theorem ai14 (z : Value) (a1 a2 a3 a4 a5 a6 a7 a8 a9 a10 a11 a12 a13 a14 : Value) : argsOk "object.__init__" ⟨z :: [a1, a2, a3, a4, a5, a6, a7, a8, a9, a10, a11, a12, a13, a14], []⟩ := by unfold argsOk; kernel_rfl
theorem nc15 (a1 a2 a3 a4 a5 a6 a7 a8 a9 a10 a11 a12 a13 a14 a15 : Value) : checkBuiltinCall "zip.__new__" ⟨.type "zip" :: [a1, a2, a3, a4, a5, a6, a7, a8, a9, a10, a11, a12, a13, a14, a15], []⟩ = pure () := by kernel_rfl
theorem ai15 (z : Value) (a1 a2 a3 a4 a5 a6 a7 a8 a9 a10 a11 a12 a13 a14 a15 : Value) : argsOk "object.__init__" ⟨z :: [a1, a2, a3, a4, a5, a6, a7, a8, a9, a10, a11, a12, a13, a14, a15], []⟩ := by unfold argsOk; kernel_rfl
theorem nc16 (a1 a2 a3 a4 a5 a6 a7 a8 a9 a10 a11 a12 a13 a14 a15 a16 : Value) : checkBuiltinCall "zip.__new__" ⟨.type "zip" :: [a1, a2, a3, a4, a5, a6, a7, a8, a9, a10, a11, a12, a13, a14, a15, a16], []⟩ = pure () := by kernel_rfl
theorem ai16 (z : Value) (a1 a2 a3 a4 a5 a6 a7 a8 a9 a10 a11 a12 a13 a14 a15 a16 : Value) : argsOk "object.__init__" ⟨z :: [a1, a2, a3, a4, a5, a6, a7, a8, a9, a10, a11, a12, a13, a14, a15, a16], []⟩ := by unfold argsOk; kernel_rfl
theorem nc : ∀ vs : List Value, vs.length ≤ 16 → checkBuiltinCall "zip.__new__" ⟨.type "zip" :: vs, []⟩ = pure ()
  | [], _ => nc0 
  | [a1], _ => nc1 _
  | [a1, a2], _ => nc2 _ _
  | [a1, a2, a3], _ => nc3 _ _ _
  | [a1, a2, a3, a4], _ => nc4 _ _ _ _
  | [a1, a2, a3, a4, a5], _ => nc5 _ _ _ _ _
  | [a1, a2, a3, a4, a5, a6], _ => nc6 _ _ _ _ _ _
  | [a1, a2, a3, a4, a5, a6, a7], _ => nc7 _ _ _ _ _ _ _
  | [a1, a2, a3, a4, a5, a6, a7, a8], _ => nc8 _ _ _ _ _ _ _ _
  | [a1, a2, a3, a4, a5, a6, a7, a8, a9], _ => nc9 _ _ _ _ _ _ _ _ _
  | [a1, a2, a3, a4, a5, a6, a7, a8, a9, a10], _ => nc10 _ _ _ _ _ _ _ _ _ _
  | [a1, a2, a3, a4, a5, a6, a7, a8, a9, a10, a11], _ => nc11 _ _ _ _ _ _ _ _ _ _ _
  | [a1, a2, a3, a4, a5, a6, a7, a8, a9, a10, a11, a12], _ => nc12 _ _ _ _ _ _ _ _ _ _ _ _
  | [a1, a2, a3, a4, a5, a6, a7, a8, a9, a10, a11, a12, a13], _ => nc13 _ _ _ _ _ _ _ _ _ _ _ _ _
  | [a1, a2, a3, a4, a5, a6, a7, a8, a9, a10, a11, a12, a13, a14], _ => nc14 _ _ _ _ _ _ _ _ _ _ _ _ _ _
  | [a1, a2, a3, a4, a5, a6, a7, a8, a9, a10, a11, a12, a13, a14, a15], _ => nc15 _ _ _ _ _ _ _ _ _ _ _ _ _ _ _
  | [a1, a2, a3, a4, a5, a6, a7, a8, a9, a10, a11, a12, a13, a14, a15, a16], _ => nc16 _ _ _ _ _ _ _ _ _ _ _ _ _ _ _ _
  | _ :: _ :: _ :: _ :: _ :: _ :: _ :: _ :: _ :: _ :: _ :: _ :: _ :: _ :: _ :: _ :: _ :: _, h => by simp at h
theorem ai (z : Value) : ∀ vs : List Value, vs.length ≤ 16 → argsOk "object.__init__" ⟨z :: vs, []⟩
  | [], _ => ai0 z 
  | [a1], _ => ai1 z _
  | [a1, a2], _ => ai2 z _ _
  | [a1, a2, a3], _ => ai3 z _ _ _
  | [a1, a2, a3, a4], _ => ai4 z _ _ _ _
  | [a1, a2, a3, a4, a5], _ => ai5 z _ _ _ _ _
  | [a1, a2, a3, a4, a5, a6], _ => ai6 z _ _ _ _ _ _
  | [a1, a2, a3, a4, a5, a6, a7], _ => ai7 z _ _ _ _ _ _ _
  | [a1, a2, a3, a4, a5, a6, a7, a8], _ => ai8 z _ _ _ _ _ _ _ _
  | [a1, a2, a3, a4, a5, a6, a7, a8, a9], _ => ai9 z _ _ _ _ _ _ _ _ _
  | [a1, a2, a3, a4, a5, a6, a7, a8, a9, a10], _ => ai10 z _ _ _ _ _ _ _ _ _ _
  | [a1, a2, a3, a4, a5, a6, a7, a8, a9, a10, a11], _ => ai11 z _ _ _ _ _ _ _ _ _ _ _
  | [a1, a2, a3, a4, a5, a6, a7, a8, a9, a10, a11, a12], _ => ai12 z _ _ _ _ _ _ _ _ _ _ _ _
  | [a1, a2, a3, a4, a5, a6, a7, a8, a9, a10, a11, a12, a13], _ => ai13 z _ _ _ _ _ _ _ _ _ _ _ _ _
  | [a1, a2, a3, a4, a5, a6, a7, a8, a9, a10, a11, a12, a13, a14], _ => ai14 z _ _ _ _ _ _ _ _ _ _ _ _ _ _
  | [a1, a2, a3, a4, a5, a6, a7, a8, a9, a10, a11, a12, a13, a14, a15], _ => ai15 z _ _ _ _ _ _ _ _ _ _ _ _ _ _ _
  | [a1, a2, a3, a4, a5, a6, a7, a8, a9, a10, a11, a12, a13, a14, a15, a16], _ => ai16 z _ _ _ _ _ _ _ _ _ _ _ _ _ _ _ _
  | _ :: _ :: _ :: _ :: _ :: _ :: _ :: _ :: _ :: _ :: _ :: _ :: _ :: _ :: _ :: _ :: _ :: _, h => by simp at h
end ZN
namespace ZN
open PySem PySem.Spec PyProof.Rows
/-- the iterators after i turns, and the tuple of them -/
def ZAt (h : Heap) (b : Nat) (ss : List (Addr × Array Value)) (i : Nat) : Prop := (∀ (j : Nat) p, ss[j]? = some p → Src h (b + j) p.1 p.2 i) ∧ h.get? (b + ss.length) = some { cls := .type "tuple", data := .seq (refs b ss.length).toArray }
/-- what the i-th turn gives -/
def Row (ss : List (Addr × Array Value)) (i : Nat) (vals : List Value) : Prop := vals.length = ss.length ∧ ∀ (j : Nat) p, ss[j]? = some p → ∃ v, p.2[i]? = some v ∧ vals[j]? = some v
theorem ad {x y : Nat} (h : ¬ x = y) : (x : Addr) ≠ y := h
section
variable {prog : Program} {w : World} {A : Around} {E : Value → Shared → Prop}
theorem next_free (hh : A.handled = none) {ss : List (Addr × Array Value)} {b i : Nat} {vals : List Value} {arr : Array Value} {s : Shared} {Q : Value → Shared → Prop} (old : ∀ p ∈ ss, p.1 < b) (m0 : 0 < ss.length) (few : ss.length ≤ 1000) (hz : IsZip s.heap (b + ss.length + 2) (b + ss.length) (b + ss.length + 1) .none)
    (hTO : s.heap.get? (b + ss.length + 1) = some { cls := .type "tuple", data := .seq arr }) (ha : arr.size = ss.length) (st : ZAt s.heap b ss i) (hv : Row ss i vals)
    (h : ∀ h' tk, IsZipHeld h' (b + ss.length + 2) (b + ss.length) (b + ss.length + 1) s.heap.objs.size false → ZAt h' b ss (i + 1) → h'.get? s.heap.objs.size = some { cls := .type "tuple", data := .seq vals.toArray } → h'.objs.size = s.heap.objs.size + 1 →
      (∀ c o, c < b ∨ b + ss.length + 2 < c → s.heap.get? c = some o → h'.get? c = some o) → Q (.ref s.heap.objs.size) { s with heap := h', toks := tk }) :
    wpAny (model prog w) A (Builtin.«zip.__next__» ⟨[.ref (b + ss.length + 2)], []⟩) (fun fin s' => ∃ v, fin = .done (.ret v) ∧ Q v s') E s := by
  obtain ⟨hp, g, d, tk0, os⟩ := s
  show wpAny _ _ (field (.ref (b + ss.length + 2)) 2 >>= _) _ _ _
  refine wpAny_bind (wpAny_field hz rfl (x := .bool false) rfl ?_)
  show wpAny _ _ (field (.ref (b + ss.length + 2)) 3 >>= _) _ _ _
  refine wpAny_bind (wpAny_field hz rfl (x := .ref (b + ss.length)) rfl ?_)
  refine wpAny_bind (wpAny_seqItems st.2 rfl ?_)
  have ne : ((refs b ss.length).toArray.isEmpty) = false := by
    rw [List.isEmpty_toArray]
    cases e : refs b ss.length with
    | nil =>
      have := refs_len (b := b) (m := ss.length)
      rw [e] at this
      simp at this
      rw [← this] at m0
      exact absurd m0 (by simp)
    | cons _ _ => rfl
  simp only [ne, Bool.false_eq_true, if_false]
  show wpAny _ _ (Builtin.SmallTypes.ownedTupleIsFree (.ref (b + ss.length + 2)) >>= _) _ _ _
  refine wpAny_bind ?_
  unfold Builtin.SmallTypes.ownedTupleIsFree
  refine wpAny_bind (wpAny_field hz rfl (x := .none) rfl (wpAny_pure ?_))
  simp only [if_true]
  refine wpAny_bind (wpAny_rule ?_)
  refine wpAny_bind (wpAny_field hz rfl (x := .ref (b + ss.length + 1)) rfl ?_)
  refine wpAny_bind (wpAny_setField_rec hz (by simp) fun g0 hz0 hs0 => ?_)
  replace hz0 : IsZip g0 (b + ss.length + 2) (b + ss.length) (b + ss.length + 1) .ellipsis := hz0
  replace hs0 : Heap.SameBut (b + ss.length + 2) hp g0 := hs0
  refine wpAny_bind ?_
  have szl : (refs b ss.length).zipIdx.length = ss.length := by rw [List.length_zipIdx, refs_len]
  have at_ : ∀ k, k < ss.length → (refs b ss.length).zipIdx[k]? = some (.ref (b + k), k) := fun k hk => by
    rw [List.getElem?_zipIdx]
    unfold refs
    rw [List.getElem?_map, List.getElem?_range hk]
    simp
  refine wpAny_forIn_list _ (fun rest r s' => r = (none, ()) ∧ ∃ (k : Nat) (h' : Heap) (tk : Nat) (arr' : Array Value), k ≤ ss.length ∧ rest = (refs b ss.length).zipIdx.drop k ∧ s' = ⟨h', g, d, tk, os⟩ ∧ h'.objs.size = hp.objs.size ∧ IsZip h' (b + ss.length + 2) (b + ss.length) (b + ss.length + 1) .ellipsis ∧
    h'.get? (b + ss.length + 1) = some { cls := .type "tuple", data := .seq arr' } ∧ arr'.size = ss.length ∧ (∀ j, j < k → arr'[j]? = vals[j]?) ∧ (∀ (j : Nat) p, ss[j]? = some p → Src h' (b + j) p.1 p.2 (if j < k then i + 1 else i)) ∧ h'.get? (b + ss.length) = some { cls := .type "tuple", data := .seq (refs b ss.length).toArray } ∧
    ∀ c o, c < b ∨ b + ss.length + 2 < c → hp.get? c = some o → h'.get? c = some o) _ ?_ ?_ _ _ ⟨rfl, 0, g0, tk0, arr, by omega, rfl, rfl, hs0.1, hz0, hs0.extBut _ _ (ad (by omega)) hTO, ha, (fun j z => by omega), (fun j p e => ?_), hs0.extBut _ _ (ad (by omega)) st.2, fun c o hc e => hs0.extBut _ _ (ad (by omega)) e⟩
  · rintro x rest r s' ⟨rfl, k, h', tk, arr', hk, er, rfl, sz, hz', hTO', ha', hv', src, hTI', kp⟩
    have kl : k < ss.length := by
      by_cases c : k < ss.length
      · exact c
      · rw [List.drop_eq_nil_of_le (by rw [szl]; omega)] at er; cases er
    have e2 : (refs b ss.length).zipIdx.drop k = (.ref (b + k), k) :: (refs b ss.length).zipIdx.drop (k + 1) := by
      rw [List.drop_eq_getElem_cons (by rw [szl]; exact kl)]
      have := at_ k kl
      rw [List.getElem?_eq_getElem (by rw [szl]; exact kl)] at this
      rw [Option.some.inj this]
    rw [e2] at er
    cases er
    obtain ⟨v, ev, evals⟩ := hv.2 k _ (List.getElem?_eq_getElem kl)
    have pl : @LT.lt Nat instLTNat (ss[k]).1 b := old _ (List.getElem_mem kl)
    have sk := src k _ (List.getElem?_eq_getElem kl)
    rw [if_neg (Nat.lt_irrefl k)] at sk
    refine wpAny_bind (wpAny_onRaise ?_)
    show wpAny _ _ (Builtin.SmallTypes.nextOf (.ref (b + k)) >>= _) _ _ ⟨h', g, d, tk, os⟩
    refine wpAny_bind ((src_draws hh (ad (by omega))).item i _ _ _ (by have := (Array.getElem?_eq_some_iff.mp ev).1; exact this) sk fun x p1 tk1 hx sn1 hp1 => wpAny_pure ?_)
    replace hx : ss[k].2[i]? = some x := hx
    rw [ev] at hx
    cases hx
    replace hp1 : Heap.SameBut (b + k) h' p1 := hp1
    have hU1 := hp1.extBut _ _ (ad (by omega)) hTO'
    refine wpAny_bind (wpAny_seqItems (s := ⟨p1, g, d, tk1, os⟩) hU1 rfl ?_)
    refine wpAny_bind (wpAny_updateSeq (s := ⟨p1, g, d, tk1, os⟩) hU1 rfl ?_)
    refine wpAny_bind (wpAny_letGo (wpAny_pure ?_))
    have su : Heap.SameBut (b + ss.length + 1) p1 (p1.update (b + ss.length + 1) (Obj.mapSeq (fun a => a.setIfInBounds k v))) := Heap.SameBut.update ..
    refine ⟨rfl, k + 1, _, tk1, arr'.setIfInBounds k v, kl, rfl, rfl, by rw [su.1, hp1.1, sz], su.extBut _ _ (ad (by omega)) (hp1.extBut _ _ (ad (by omega)) hz'), ?_, by rw [Array.size_setIfInBounds]; exact ha', fun j hj => ?_, fun j p e => ?_, su.extBut _ _ (ad (by omega)) (hp1.extBut _ _ (ad (by omega)) hTI'), fun c o hc e => su.extBut _ _ (ad (by omega)) (hp1.extBut _ _ (ad (by omega)) (kp c o hc e))⟩
    · rw [Heap.get?_update_self _ hU1 rfl]
      simp [Obj.mapSeq]
    · rw [Array.getElem?_setIfInBounds]
      by_cases c : k = j
      · subst c
        rw [if_pos rfl, if_pos (by omega)]
        exact evals.symm
      · rw [if_neg c]
        exact hv' j (by omega)
    · have jl : j < ss.length := (List.getElem?_eq_some_iff.mp e).1
      have pj : @LT.lt Nat instLTNat p.1 b := old p (List.mem_of_getElem? e)
      by_cases c : j = k
      · subst c
        rw [List.getElem?_eq_getElem kl] at e
        cases e
        rw [if_pos (by omega)]
        exact Src.over sn1 su (ad (by omega)) (ad (by omega))
      · have := src j p e
        rw [show (if j < k + 1 then i + 1 else i) = (if j < k then i + 1 else i) by split <;> split <;> omega]
        exact (this.over hp1 (ad (by omega)) (ad (by omega))).over su (ad (by omega)) (ad (by omega))
  · rintro r s' ⟨rfl, k, h', tk, arr', hk, er, rfl, sz, hz', hTO', ha', hv', src, hTI', kp⟩
    have km : k = ss.length := by
      have := congrArg List.length er
      rw [List.length_drop, szl] at this
      simp at this
      omega
    subst km
    have ea : arr' = vals.toArray := by
      apply Array.ext_getElem?
      intro j
      by_cases c : j < ss.length
      · rw [hv' j c, List.getElem?_toArray]
      · rw [Array.getElem?_eq_none (by omega), List.getElem?_toArray, List.getElem?_eq_none (by rw [hv.1]; omega)]
    subst ea
    refine wpAny_bind (wpAny_seqItems (s := ⟨h', g, d, tk, os⟩) hTO' rfl ?_)
    refine wpAny_bind (wpAny_newTuple ?_ (by show vals.length ≤ _; rw [hv.1]; exact Nat.le_trans few (by decide)))
    refine wpAny_bind ?_
    unfold Builtin.SmallTypes.ownedTupleHandOut
    have zlt : @LT.lt Nat instLTNat (b + ss.length + 2) h'.objs.size := Heap.lt_size hz'
    have hzP : IsZip (h'.push { cls := .type "tuple", data := .seq vals.toArray }) (b + ss.length + 2) (b + ss.length) (b + ss.length + 1) .ellipsis := Heap.get?_push_of_some _ hz'
    refine wpAny_bind (wpAny_setField_rec hzP (by simp) fun p1 hz1 hs1 => ?_)
    replace hz1 : IsZip p1 (b + ss.length + 2) (b + ss.length) (b + ss.length + 1) (rawInt h'.objs.size) := hz1
    refine wpAny_setField_rec hz1 (by simp) fun p2 hz2 hs2 => ?_
    replace hz2 : IsZipHeld p2 (b + ss.length + 2) (b + ss.length) (b + ss.length + 1) h'.objs.size false := hz2
    replace hs1 : Heap.SameBut (b + ss.length + 2) (h'.push { cls := .type "tuple", data := .seq vals.toArray }) p1 := hs1
    replace hs2 : Heap.SameBut (b + ss.length + 2) p1 p2 := hs2
    have up : ∀ c o, c ≠ b + ss.length + 2 → h'.get? c = some o → p2.get? c = some o := fun c o c1 e => hs2.extBut _ _ c1 (hs1.extBut _ _ c1 (Heap.get?_push_of_some _ e))
    have hNew : p2.get? h'.objs.size = some { cls := .type "tuple", data := .seq vals.toArray } := hs2.extBut _ _ (ad (by omega)) (hs1.extBut _ _ (ad (by omega)) (Heap.get?_push_size _ rfl))
    have sz2 : p2.objs.size = h'.objs.size + 1 := by rw [hs2.1, hs1.1, Heap.size_push]
    rw [sz] at hz2 hNew sz2
    refine wpAny_pure ⟨_, rfl, ?_⟩
    show Q (.ref h'.objs.size) ⟨p2, g, d, tk, os⟩
    rw [sz]
    refine h p2 tk hz2 ⟨fun j p e => ?_, up _ _ (ad (by omega)) hTI'⟩ hNew sz2 fun c o hc e => up c o (ad (by omega)) (kp c o hc e)
    have jl : j < ss.length := (List.getElem?_eq_some_iff.mp e).1
    have pj : @LT.lt Nat instLTNat p.1 b := old p (List.mem_of_getElem? e)
    have := src j p e
    rw [if_pos jl] at this
    exact this.at fun c hc o q => up c o (by rcases hc with rfl | rfl; exact ad (by omega); exact ad (by omega)) q
  · rw [if_neg (by omega)]
    exact (st.1 j p e).over hs0 (ad (by have := (List.getElem?_eq_some_iff.mp e).1; omega)) (ad (by have pj : @LT.lt Nat instLTNat p.1 b := old p (List.mem_of_getElem? e); omega))
end
end ZN
namespace ZN
open PySem PySem.Spec PyProof.Rows
theorem refs_ne {b m : Nat} (m0 : 0 < m) : (refs b m).toArray.isEmpty = false := by
  rw [List.isEmpty_toArray]
  cases e : refs b m with
  | nil =>
    have := refs_len (b := b) (m := m)
    rw [e] at this
    simp at this
    omega
  | cons _ _ => rfl
theorem refs_drop {b m k : Nat} (h : k < m) : (refs b m).drop k = .ref (b + k) :: (refs b m).drop (k + 1) := by
  have lk : k < (refs b m).length := by rw [refs_len]; exact h
  rw [List.drop_eq_getElem_cons lk]
  congr 1
  simp [refs]
section
variable {prog : Program} {w : World} {A : Around} {E : Value → Shared → Prop}
theorem next_held (hh : A.handled = none) {ss : List (Addr × Array Value)} {b i : Nat} {T : Addr} {oT : Obj} {f : Bool} {vals : List Value} {s : Shared} {Q : Value → Shared → Prop} (old : ∀ p ∈ ss, p.1 < b) (m0 : 0 < ss.length) (few : ss.length ≤ 1000)
    (hz : IsZipHeld s.heap (b + ss.length + 2) (b + ss.length) (b + ss.length + 1) T f) (hT : s.heap.get? T = some oT) (st : ZAt s.heap b ss i) (hv : Row ss i vals)
    (h : ∀ h' tk, IsZipHeld h' (b + ss.length + 2) (b + ss.length) (b + ss.length + 1) T true → ZAt h' b ss (i + 1) → h'.get? s.heap.objs.size = some { cls := .type "tuple", data := .seq vals.toArray } → h'.objs.size = s.heap.objs.size + 1 →
      (∀ c o, c < b ∨ b + ss.length + 2 < c → s.heap.get? c = some o → h'.get? c = some o) → Q (.ref s.heap.objs.size) { s with heap := h', toks := tk }) :
    wpAny (model prog w) A (Builtin.«zip.__next__» ⟨[.ref (b + ss.length + 2)], []⟩) (fun fin s' => ∃ v, fin = .done (.ret v) ∧ Q v s') E s := by
  obtain ⟨hp, g, d, tk0, os⟩ := s
  show wpAny _ _ (field (.ref (b + ss.length + 2)) 2 >>= _) _ _ _
  refine wpAny_bind (wpAny_field hz rfl (x := .bool false) rfl ?_)
  show wpAny _ _ (field (.ref (b + ss.length + 2)) 3 >>= _) _ _ _
  refine wpAny_bind (wpAny_field hz rfl (x := .ref (b + ss.length)) rfl ?_)
  refine wpAny_bind (wpAny_seqItems st.2 rfl ?_)
  simp only [refs_ne m0, Bool.false_eq_true, if_false]
  show wpAny _ _ (Builtin.SmallTypes.ownedTupleIsFree (.ref (b + ss.length + 2)) >>= _) _ _ _
  refine wpAny_bind (wpAny_tupleHeld_zip hz hT fun g0 hz0 hs0 => ?_)
  replace hs0 : Heap.SameBut (b + ss.length + 2) hp g0 := hs0
  simp only [Bool.false_eq_true, if_false]
  refine wpAny_bind ?_
  rw [← Array.forIn_toList]
  refine wpAny_forIn_list _ (fun rest r s' => ∃ (k : Nat) (h' : Heap) (tk : Nat), r = (none, (vals.take k).toArray) ∧ k ≤ ss.length ∧ rest = (refs b ss.length).drop k ∧ s' = ⟨h', g, d, tk, os⟩ ∧ h'.objs.size = hp.objs.size ∧ IsZipHeld h' (b + ss.length + 2) (b + ss.length) (b + ss.length + 1) T true ∧
    (∀ (j : Nat) p, ss[j]? = some p → Src h' (b + j) p.1 p.2 (if j < k then i + 1 else i)) ∧ h'.get? (b + ss.length) = some { cls := .type "tuple", data := .seq (refs b ss.length).toArray } ∧
    ∀ c o, c < b ∨ b + ss.length + 2 < c → hp.get? c = some o → h'.get? c = some o) _ ?_ ?_ _ _ ⟨0, g0, tk0, rfl, by omega, rfl, rfl, hs0.1, hz0, (fun j p e => ?_), hs0.extBut _ _ (ad (by omega)) st.2, fun c o hc e => hs0.extBut _ _ (ad (by omega)) e⟩
  · rintro x rest r s' ⟨k, h', tk, rfl, hk, er, rfl, sz, hz', src, hTI', kp⟩
    have kl : k < ss.length := by
      by_cases c : k < ss.length
      · exact c
      · rw [List.drop_eq_nil_of_le (by rw [refs_len]; omega)] at er; cases er
    rw [refs_drop kl] at er
    cases er
    obtain ⟨v, ev, evals⟩ := hv.2 k _ (List.getElem?_eq_getElem kl)
    have pl : @LT.lt Nat instLTNat (ss[k]).1 b := old _ (List.getElem_mem kl)
    have sk := src k _ (List.getElem?_eq_getElem kl)
    rw [if_neg (Nat.lt_irrefl k)] at sk
    refine wpAny_bind (wpAny_holding ?_)
    show wpAny _ _ (Builtin.SmallTypes.nextOf (.ref (b + k)) >>= _) _ _ ⟨h', g, d, tk, os⟩
    refine wpAny_bind ((src_draws hh (ad (by omega))).item i _ _ _ (by have := (Array.getElem?_eq_some_iff.mp ev).1; exact this) sk fun x p1 tk1 hx sn1 hp1 => wpAny_pure ?_)
    replace hx : ss[k].2[i]? = some x := hx
    rw [ev] at hx
    cases hx
    replace hp1 : Heap.SameBut (b + k) h' p1 := hp1
    have vk : k < vals.length := by rw [hv.1]; exact kl
    refine wpAny_pure ⟨k + 1, p1, tk1, ?_, kl, rfl, rfl, by rw [hp1.1, sz], hp1.extBut _ _ (ad (by omega)) hz', fun j p e => ?_, hp1.extBut _ _ (ad (by omega)) hTI', fun c o hc e => hp1.extBut _ _ (ad (by omega)) (kp c o hc e)⟩
    · rw [List.take_succ, evals]
      simp
    · have jl : j < ss.length := (List.getElem?_eq_some_iff.mp e).1
      have pj : @LT.lt Nat instLTNat p.1 b := old p (List.mem_of_getElem? e)
      by_cases c : j = k
      · subst c
        rw [List.getElem?_eq_getElem kl] at e
        cases e
        rw [if_pos (by omega)]
        exact sn1
      · have := src j p e
        rw [show (if j < k + 1 then i + 1 else i) = (if j < k then i + 1 else i) by split <;> split <;> omega]
        exact this.over hp1 (ad (by omega)) (ad (by omega))
  · rintro r s' ⟨k, h', tk, rfl, hk, er, rfl, sz, hz', src, hTI', kp⟩
    have km : k = ss.length := by
      have := congrArg List.length er
      rw [List.length_drop, refs_len] at this
      simp at this
      omega
    subst km
    have ea : vals.take ss.length = vals := List.take_of_length_le (by rw [hv.1]; exact Nat.le_refl _)
    rw [ea]
    refine wpAny_bind (wpAny_newTuple ?_ (by show vals.length ≤ _; rw [hv.1]; exact Nat.le_trans few (by decide)))
    have zlt : @LT.lt Nat instLTNat (b + ss.length + 2) h'.objs.size := Heap.lt_size hz'
    have hNew : (h'.push { cls := .type "tuple", data := .seq vals.toArray }).get? h'.objs.size = some { cls := .type "tuple", data := .seq vals.toArray } := Heap.get?_push_size _ rfl
    have sz2 : (h'.push { cls := .type "tuple", data := .seq vals.toArray }).objs.size = h'.objs.size + 1 := Heap.size_push ..
    refine wpAny_pure ⟨_, rfl, ?_⟩
    show Q (.ref h'.objs.size) ⟨h'.push { cls := .type "tuple", data := .seq vals.toArray }, g, d, tk, os⟩
    rw [sz] at hNew sz2 ⊢
    refine h _ tk (Heap.get?_push_of_some _ hz') ⟨fun j p e => ?_, Heap.get?_push_of_some _ hTI'⟩ hNew sz2 fun c o hc e => Heap.get?_push_of_some _ (kp c o hc e)
    have jl : j < ss.length := (List.getElem?_eq_some_iff.mp e).1
    have := src j p e
    rw [if_pos jl] at this
    exact this.at fun c _ o q => Heap.get?_push_of_some _ q
  · rw [if_neg (by omega)]
    exact (st.1 j p e).over hs0 (ad (by have := (List.getElem?_eq_some_iff.mp e).1; omega)) (ad (by have pj : @LT.lt Nat instLTNat p.1 b := old p (List.mem_of_getElem? e); omega))
end
end ZN
namespace ZN
open PySem PySem.Spec PyProof.Rows
/-- the zip and its owned tuple behind i turns -/
def ZSt (h : Heap) (b : Nat) (ss : List (Addr × Array Value)) (i : Nat) : Prop := ZAt h b ss i ∧
  ((i = 0 ∧ IsZip h (b + ss.length + 2) (b + ss.length) (b + ss.length + 1) .none ∧ ∃ arr : Array Value, arr.size = ss.length ∧ h.get? (b + ss.length + 1) = some { cls := .type "tuple", data := .seq arr }) ∨
   (0 < i ∧ ∃ T f oT, IsZipHeld h (b + ss.length + 2) (b + ss.length) (b + ss.length + 1) T f ∧ h.get? T = some oT ∧ @LT.lt Nat instLTNat (b + ss.length + 2) T))
section
variable {prog : Program} {w : World} {A : Around} {E : Value → Shared → Prop}
theorem zipIdx_cons0 {x : Value} {l : List Value} : (x :: l).zipIdx = (x, 0) :: l.zipIdx 1 := rfl
theorem refs_pos {b m : Nat} (h : 0 < m) : refs b m = .ref b :: (refs b m).drop 1 := by
  have := refs_drop (b := b) (m := m) (k := 0) h
  exact this
theorem refs_zip0 {b m : Nat} (h : 0 < m) : (refs b m).zipIdx = (.ref b, 0) :: ((refs b m).drop 1).zipIdx 1 := by
  conv => lhs; rw [refs_pos h]
  rfl
theorem end_any (hh : A.handled = none) {ss : List (Addr × Array Value)} {b i : Nat} {s : Shared} {Q : Fin → Shared → Prop} (old : ∀ p ∈ ss, p.1 < b) (m0 : 0 < ss.length)
    (st : ZSt s.heap b ss i) (hs : ∀ p ∈ ss, p.2.size = i)
    (hE : ∀ h' tk e, (∀ c o, c < b ∨ b + ss.length + 2 < c → s.heap.get? c = some o → h'.get? c = some o) → (∃ o, h'.get? e = some o ∧ o.cls = .type "StopIteration") → E (.ref e) { s with heap := h', toks := tk }) :
    wpAny (model prog w) A (Builtin.«zip.__next__» ⟨[.ref (b + ss.length + 2)], []⟩) Q E s := by
  obtain ⟨hp, g, d, tk0, os⟩ := s
  obtain ⟨st, zz⟩ := st
  have p0 : @LT.lt Nat instLTNat (ss[0]).1 b := old _ (List.getElem_mem m0)
  have s0 := st.1 0 _ (List.getElem?_eq_getElem m0)
  have z0 : (ss[0]).2.size = i := hs _ (List.getElem_mem m0)
  rcases zz with ⟨rfl, hz, arr, ha, hTO⟩ | ⟨ip, T, f, oT, hz, hT, lT⟩
  · show wpAny _ _ (field (.ref (b + ss.length + 2)) 2 >>= _) _ _ _
    refine wpAny_bind (wpAny_field hz rfl (x := .bool false) rfl ?_)
    show wpAny _ _ (field (.ref (b + ss.length + 2)) 3 >>= _) _ _ _
    refine wpAny_bind (wpAny_field hz rfl (x := .ref (b + ss.length)) rfl ?_)
    refine wpAny_bind (wpAny_seqItems st.2 rfl ?_)
    simp only [refs_ne m0, Bool.false_eq_true, if_false]
    show wpAny _ _ (Builtin.SmallTypes.ownedTupleIsFree (.ref (b + ss.length + 2)) >>= _) _ _ _
    refine wpAny_bind ?_
    unfold Builtin.SmallTypes.ownedTupleIsFree
    refine wpAny_bind (wpAny_field hz rfl (x := .none) rfl (wpAny_pure ?_))
    simp only [if_true]
    refine wpAny_bind (wpAny_rule ?_)
    refine wpAny_bind (wpAny_field hz rfl (x := .ref (b + ss.length + 1)) rfl ?_)
    refine wpAny_bind (wpAny_setField_rec hz (by simp) fun g0 hz0 hs0 => ?_)
    replace hz0 : IsZip g0 (b + ss.length + 2) (b + ss.length) (b + ss.length + 1) .ellipsis := hz0
    replace hs0 : Heap.SameBut (b + ss.length + 2) hp g0 := hs0
    refine wpAny_bind ?_
    rw [refs_zip0 m0, List.forIn_cons]
    refine wpAny_bind (wpAny_bind (wpAny_onRaise ?_))
    show wpAny _ _ (Builtin.SmallTypes.nextOf (.ref b) >>= _) _ _ ⟨g0, g, d, tk0, os⟩
    refine wpAny_bind ((src_draws (xs := (ss[0]).2) (a := (ss[0]).1) hh (ad (by omega))).done ⟨g0, g, d, tk0, os⟩ _ _ (by rw [z0]; exact s0.over hs0 (ad (by omega)) (ad (by omega))) fun q e hq he => ?_)
    replace hq : Heap.ExtBut b g0 q := hq
    obtain ⟨oe, hoe, hce⟩ := he
    replace hoe : q.get? e = some oe := hoe
    have hzq : IsZip q (b + ss.length + 2) (b + ss.length) (b + ss.length + 1) .ellipsis := hq _ _ (ad (by omega)) hz0
    have hez : e ≠ b + ss.length + 2 := fun x => by subst x; rw [hzq] at hoe; cases hoe; simp at hce
    refine wpAny_setField_rec (s := ⟨q, g, d, tk0, os⟩) hzq (by simp) fun q' _ hq' => ?_
    replace hq' : Heap.SameBut (b + ss.length + 2) q q' := hq'
    exact hE q' tk0 e (fun c o hc x => hq'.extBut _ _ (ad (by omega)) (hq _ _ (ad (by omega)) (hs0.extBut _ _ (ad (by omega)) x))) ⟨oe, hq'.extBut _ _ hez hoe, hce⟩
  · show wpAny _ _ (field (.ref (b + ss.length + 2)) 2 >>= _) _ _ _
    refine wpAny_bind (wpAny_field hz rfl (x := .bool false) rfl ?_)
    show wpAny _ _ (field (.ref (b + ss.length + 2)) 3 >>= _) _ _ _
    refine wpAny_bind (wpAny_field hz rfl (x := .ref (b + ss.length)) rfl ?_)
    refine wpAny_bind (wpAny_seqItems st.2 rfl ?_)
    simp only [refs_ne m0, Bool.false_eq_true, if_false]
    show wpAny _ _ (Builtin.SmallTypes.ownedTupleIsFree (.ref (b + ss.length + 2)) >>= _) _ _ _
    refine wpAny_bind (wpAny_tupleHeld_zip hz hT fun g0 hz0 hs0 => ?_)
    replace hs0 : Heap.SameBut (b + ss.length + 2) hp g0 := hs0
    simp only [Bool.false_eq_true, if_false]
    refine wpAny_bind ?_
    rw [← Array.forIn_toList]
    rw [show (refs b ss.length).toArray.toList = .ref b :: (refs b ss.length).drop 1 from refs_pos m0]
    rw [List.forIn_cons]
    refine wpAny_bind (wpAny_bind (wpAny_holding ?_))
    show wpAny _ _ (Builtin.SmallTypes.nextOf (.ref b) >>= _) _ _ ⟨g0, g, d, tk0, os⟩
    refine wpAny_bind ((src_draws (xs := (ss[0]).2) (a := (ss[0]).1) hh (ad (by omega))).done ⟨g0, g, d, tk0, os⟩ _ _ (by rw [z0]; exact s0.over hs0 (ad (by omega)) (ad (by omega))) fun q e hq he => ?_)
    replace hq : Heap.ExtBut b g0 q := hq
    exact hE q tk0 e (fun c o hc x => hq _ _ (ad (by omega)) (hs0.extBut _ _ (ad (by omega)) x)) he
theorem turn_any (hh : A.handled = none) {ss : List (Addr × Array Value)} {b i : Nat} {vals : List Value} {s : Shared} {Q : Value → Shared → Prop} (old : ∀ p ∈ ss, p.1 < b) (m0 : 0 < ss.length) (few : ss.length ≤ 1000)
    (st : ZSt s.heap b ss i) (hv : Row ss i vals)
    (h : ∀ h' tk, ZSt h' b ss (i + 1) → h'.get? s.heap.objs.size = some { cls := .type "tuple", data := .seq vals.toArray } → h'.objs.size = s.heap.objs.size + 1 →
      (∀ c o, c < b ∨ b + ss.length + 2 < c → s.heap.get? c = some o → h'.get? c = some o) → Q (.ref s.heap.objs.size) { s with heap := h', toks := tk }) :
    wpAny (model prog w) A (Builtin.«zip.__next__» ⟨[.ref (b + ss.length + 2)], []⟩) (fun fin s' => ∃ v, fin = .done (.ret v) ∧ Q v s') E s := by
  obtain ⟨st, zz⟩ := st
  rcases zz with ⟨rfl, hz, arr, ha, hTO⟩ | ⟨ip, T, f, oT, hz, hT, lT⟩
  · have zlt : @LT.lt Nat instLTNat (b + ss.length + 2) s.heap.objs.size := Heap.lt_size hz
    exact next_free hh old m0 few hz hTO ha st hv fun h' tk q1 q2 q3 q4 q5 => h h' tk ⟨q2, .inr ⟨by omega, _, _, _, q1, q3, zlt⟩⟩ q3 q4 q5
  · have tlt : @LT.lt Nat instLTNat T s.heap.objs.size := Heap.lt_size hT
    exact next_held hh old m0 few hz hT st hv fun h' tk q1 q2 q3 q4 q5 => h h' tk ⟨q2, .inr ⟨by omega, _, _, _, q1, q5 _ _ (.inr lT) hT, lT⟩⟩ q3 q4 q5
theorem zty {h : Heap} {g : Array GenState} {d : Drawn} {tk : Nat} {os : OsState} {ss : List (Addr × Array Value)} {b i : Nat} (st : ZSt h b ss i) : (⟨h, g, d, tk, os⟩ : Shared).TypeIs (.ref (b + ss.length + 2)) "zip" := by
  rcases st.2 with ⟨_, hz, _⟩ | ⟨_, T, f, oT, hz, _⟩
  · exact ⟨_, hz, rfl⟩
  · exact ⟨_, hz, rfl⟩
theorem next_end (hh : A.handled = none) {ss : List (Addr × Array Value)} {b i : Nat} {s : Shared} {Q : Option Value → Shared → Prop} (old : ∀ p ∈ ss, p.1 < b) (m0 : 0 < ss.length)
    (st : ZSt s.heap b ss i) (hs : ∀ p ∈ ss, p.2.size = i)
    (hQ : ∀ h' tk, (∀ c o, c < b ∨ b + ss.length + 2 < c → s.heap.get? c = some o → h'.get? c = some o) → Q none { s with heap := h', toks := tk }) : wpAny (model prog w) A (pyNext (.ref (b + ss.length + 2))) Q E s := by
  have hT : s.TypeIs (.ref (b + ss.length + 2)) "zip" := zty st
  unfold pyNext
  refine wpAny_bind (wpAny_attempt (wpAny_callSpecial?_slot (name := Str.ofString "__next__") hT F.slot_zip_next
    (wpAny_call_entry F.slot_zip_next hT F.entry_zip_next (end_any (A := A.in1) (hh := hh) old m0 st hs fun h' tk e hk he => ?_) (F.args_zip_next_1 _))))
  obtain ⟨o, ho, hc⟩ := he
  refine wpAny_bind (wpAny_isInstance (T := "StopIteration") (b := true) ⟨o, ho, hc⟩ isSubtype_stop ?_)
  exact wpAny_pure (hQ _ _ hk)
theorem next_turn (hh : A.handled = none) {ss : List (Addr × Array Value)} {b i : Nat} {vals : List Value} {s : Shared} {Q : Option Value → Shared → Prop} (old : ∀ p ∈ ss, p.1 < b) (m0 : 0 < ss.length) (few : ss.length ≤ 1000)
    (st : ZSt s.heap b ss i) (hv : Row ss i vals)
    (h : ∀ h' tk, ZSt h' b ss (i + 1) → h'.get? s.heap.objs.size = some { cls := .type "tuple", data := .seq vals.toArray } → h'.objs.size = s.heap.objs.size + 1 →
      (∀ c o, c < b ∨ b + ss.length + 2 < c → s.heap.get? c = some o → h'.get? c = some o) → Q (some (.ref s.heap.objs.size)) { s with heap := h', toks := tk }) :
    wpAny (model prog w) A (pyNext (.ref (b + ss.length + 2))) Q E s := by
  have hT : s.TypeIs (.ref (b + ss.length + 2)) "zip" := zty st
  unfold pyNext
  exact wpAny_bind (wpAny_attempt (wpAny_callSpecial?_slot (name := Str.ofString "__next__") hT F.slot_zip_next
    (wpAny_call_entry F.slot_zip_next hT F.entry_zip_next (turn_any (A := A.in1) (hh := hh) old m0 few st hv fun h' tk q1 q2 q3 q4 => wpAny_pure (h h' tk q1 q2 q3 q4)) (F.args_zip_next_1 _))))
end
end ZN
namespace ZN
open PySem PySem.Spec PyProof.Rows
theorem ZSt.over {h h' : Heap} {ss : List (Addr × Array Value)} {b i S : Nat} (old : ∀ p ∈ ss, p.1 < b) (st : ZSt h b ss i) (hS : b + ss.length + 2 < S) (e : Heap.SameBut S h h') (there : ∃ o, h'.get? S = some o) : ZSt h' b ss i := by
  obtain ⟨⟨s1, s2⟩, zz⟩ := st
  refine ⟨⟨fun j p q => ?_, e.extBut _ _ (ad (by omega)) s2⟩, ?_⟩
  · have jl : j < ss.length := (List.getElem?_eq_some_iff.mp q).1
    have pj : @LT.lt Nat instLTNat p.1 b := old p (List.mem_of_getElem? q)
    exact (s1 j p q).over e (ad (by omega)) (ad (by omega))
  · rcases zz with ⟨rfl, hz, arr, ha, hTO⟩ | ⟨ip, T, f, oT, hz, hT, lT⟩
    · exact .inl ⟨rfl, e.extBut _ _ (ad (by omega)) hz, arr, ha, e.extBut _ _ (ad (by omega)) hTO⟩
    · by_cases c : T = S
      · subst c
        obtain ⟨o, ho⟩ := there
        exact .inr ⟨ip, T, f, o, e.extBut _ _ (ad (by omega)) hz, ho, lT⟩
      · exact .inr ⟨ip, T, f, oT, e.extBut _ _ (ad (by omega)) hz, e.extBut _ _ c hT, lT⟩
theorem ZSt.up {h h' : Heap} {ss : List (Addr × Array Value)} {b i : Nat} (st : ZSt h b ss i) (e : ∀ c o, h.get? c = some o → h'.get? c = some o) : ZSt h' b ss i := by
  obtain ⟨⟨s1, s2⟩, zz⟩ := st
  refine ⟨⟨fun j p q => (s1 j p q).at fun c _ o q => e _ _ q, e _ _ s2⟩, ?_⟩
  rcases zz with ⟨rfl, hz, arr, ha, hTO⟩ | ⟨ip, T, f, oT, hz, hT, lT⟩
  · exact .inl ⟨rfl, e _ _ hz, arr, ha, e _ _ hTO⟩
  · exact .inr ⟨ip, T, f, oT, e _ _ hz, e _ _ hT, lT⟩
/-- the columns -/
def Cols (ss : List (Addr × Array Value)) (cols : List (List Value)) : Prop := (∀ p ∈ ss, p.2.size = cols.length) ∧ ∀ (i : Nat) col, cols[i]? = some col → Row ss i col
abbrev lst (acc : Array Value) (c : Nat) : Obj := { cls := .type "list", dict := none, data := .seq acc c, slots := #[] }
abbrev tpl (col : List Value) : Obj := { cls := .type "tuple", data := .seq col.toArray }
section
variable {prog : Program} {w : World} {A : Around} {R : Result → Shared → Prop}
theorem zloop (hh : A.handled = none) {ss : List (Addr × Array Value)} {cols : List (List Value)} {b S T0 : Nat} {res : Value} (old : ∀ p ∈ ss, p.1 < b) (m0 : 0 < ss.length) (few : ss.length ≤ 1000) (hc : Cols ss cols) (hn : cols.length ≤ sizeLine)
    (lS : b + ss.length + 2 < S) (ST : S < T0) :
    ∀ (k i : Nat) (s : Shared) (acc : Array Value) (c : Nat), i + k = cols.length → ZSt s.heap b ss i → s.heap.get? S = some (lst acc c) → acc.toList = refs T0 i → s.heap.objs.size = T0 + i →
      (∀ (j : Nat) col, j < i → cols[j]? = some col → s.heap.get? (T0 + j) = some (tpl col)) →
      (∀ s' acc' c', s'.heap.get? S = some (lst acc' c') → acc'.toList = refs T0 cols.length → (∀ (j : Nat) col, cols[j]? = some col → s'.heap.get? (T0 + j) = some (tpl col)) →
        (∀ a o, a < b → s.heap.get? a = some o → s'.heap.get? a = some o) → s'.gens = s.gens → s'.drawn = s.drawn → s'.os = s.os → R (.ok (.ret res)) s') →
      codeAny (model prog w) A (.builtin "list.extend.loop" ⟨[.ref S, .ref (b + ss.length + 2), res], []⟩) R s := by
  intro k
  induction k with
  | zero =>
    intro i s acc c hk st hS ea sz tl hR
    have hi : i = cols.length := by omega
    subst hi
    refine codeAny_builtin F.entry_extend_loop ?_
    rw [Around.under_plainId F.plain_extend_loop _]
    show wpAny _ A.in1 (pyNext (.ref (b + ss.length + 2)) >>= _) _ _ s
    refine wpAny_bind (next_end (A := A.in1) (hh := hh) old m0 st hc.1 fun h' tk kp => ?_)
    exact wpAny_pure (hR _ acc c (kp _ _ (.inr lS) hS) ea (fun j col e => kp _ _ (.inr (by omega)) (tl j col (List.getElem?_eq_some_iff.mp e).1 e)) (fun a o l e => kp _ _ (.inl l) e) rfl rfl rfl)
  | succ k ih =>
    intro i s acc c hk st hS ea sz tl hR
    have hlt : i < cols.length := by omega
    refine codeAny_builtin F.entry_extend_loop ?_
    rw [Around.under_plainId F.plain_extend_loop _]
    show wpAny _ A.in1 (pyNext (.ref (b + ss.length + 2)) >>= _) _ _ s
    refine wpAny_bind (next_turn (A := A.in1) (hh := hh) old m0 few st (hc.2 i _ (List.getElem?_eq_getElem hlt)) fun h' tk st' hN sz' kp => ?_)
    have hS' := kp _ _ (.inr lS) hS
    have asz : acc.size = i := by rw [← Array.length_toList, ea, refs_len]
    show wpAny _ A.in1 (updateSeq S (·.push (.ref s.heap.objs.size)) >>= _) _ _ _
    refine wpAny_bind ?_
    have su : Heap.SameBut S h' (h'.update S (Obj.mapSeq (·.push (.ref s.heap.objs.size)))) := Heap.SameBut.update ..
    have hS2 : (h'.update S (Obj.mapSeq (·.push (.ref s.heap.objs.size)))).get? S = some (lst (acc.push (.ref s.heap.objs.size)) _) := Heap.get?_update_self _ hS' rfl
    refine wpAny_updateSeq hS' rfl (wpAny_pure ⟨plainId_quiet F.plain_extend_loop _, ih (i + 1) _ (acc.push (.ref s.heap.objs.size)) _ (by omega) (st'.over old lS su ⟨_, hS2⟩) hS2 ?_ ?_ (fun j col lj e => ?_) fun s' acc' c' q1 q2 q3 q4 q5 q6 q7 => ?_⟩)
      (by rw [asz]; omega) (by show (acc.push _).size ≤ sizeLine + 1; rw [Array.size_push, asz]; omega)
    · rw [Array.toList_push, ea, refs_succ, sz]
    · show (h'.update S _).objs.size = _
      rw [su.1, sz', sz]
      rfl
    · by_cases jc : j = i
      · subst jc
        rw [List.getElem?_eq_getElem hlt] at e
        cases e
        rw [sz] at hN
        exact su.extBut _ _ (ad (by omega)) hN
      · exact su.extBut _ _ (ad (by omega)) (kp _ _ (.inr (by omega)) (tl j col (by omega) e))
    · exact hR s' acc' c' q1 q2 q3 (fun a o l e => q4 a o l (su.extBut _ _ (ad (by omega)) (kp _ _ (.inl l) e))) q5 q6 q7
end
end ZN
namespace ZN
open PySem PySem.Spec PyProof.Rows
theorem no_len : typeLookup (.type "zip") "__len__" = pure none := by rw [typeLookup_type, builtinLookup_eq_fast]; kernel_rfl
theorem no_hint : typeLookup (.type "zip") "__length_hint__" = pure none := by rw [typeLookup_type, builtinLookup_eq_fast]; kernel_rfl
theorem zst_zip {h : Heap} {b : Nat} {ss : List (Addr × Array Value)} (st : ZSt h b ss 0) : IsZip h (b + ss.length + 2) (b + ss.length) (b + ss.length + 1) .none := by
  rcases st.2 with ⟨_, hz, _⟩ | ⟨bad, _⟩
  · exact hz
  · exact absurd bad (by omega)
section
variable {prog : Program} {w : World} {A : Around} {E : Value → Shared → Prop}
/-- zip of these: new things alone -/
theorem call_zip {ss : List (Addr × Array Value)} {s : Shared} {Q : Value → Shared → Prop} (few : ss.length ≤ 16) (wh : ∀ p ∈ ss, Whole s.heap p.1 p.2)
    (h : ∀ h', ZSt h' s.heap.objs.size ss 0 → h'.objs.size = s.heap.objs.size + ss.length + 3 → (∀ c o, s.heap.get? c = some o → h'.get? c = some o) → Q (.ref (s.heap.objs.size + ss.length + 2)) { s with heap := h' }) :
    wpAny (model prog w) A (call (.type "zip") (ss.map fun p => Value.ref p.1)) Q E s := by
  have lm : (ss.map fun p => Value.ref p.1).length ≤ 16 := by rw [List.length_map]; exact few
  refine callType_new (S := fun A' R s' => s' = s ∧ ∀ h', ZSt h' s.heap.objs.size ss 0 → h'.objs.size = s.heap.objs.size + ss.length + 3 → (∀ c o, s.heap.get? c = some o → h'.get? c = some o) → R (.ok (.ret (.ref (s.heap.objs.size + ss.length + 2)))) { s with heap := h' })
    F.called_zip (by decide) (tc _) (nc _ lm) (fun z => ai z _ lm) F.entry_zip_new (Meets.of_wp fun prog w A R s' hs => ?_) ⟨rfl, fun h' q1 q2 q3 => ?_⟩
  · obtain ⟨rfl, hs⟩ := hs
    refine zip_new (Nat.le_trans few (by decide)) wh fun h' al sz kp zn => ?_
    exact ⟨_, rfl, hs h' ⟨⟨al, zn.1⟩, .inl ⟨rfl, zn.2.2, _, by simp, zn.2.1⟩⟩ sz kp⟩
  · exact ⟨zty q1, h h' q1 q2 q3⟩
/-- list of a zip that has not begun -/
theorem call_list_zip (hh : A.handled = none) {ss : List (Addr × Array Value)} {cols : List (List Value)} {b : Nat} {s : Shared} {Q : Value → Shared → Prop} (old : ∀ p ∈ ss, p.1 < b) (m0 : 0 < ss.length) (few : ss.length ≤ 1000) (hc : Cols ss cols) (hn : cols.length ≤ sizeLine)
    (st : ZSt s.heap b ss 0) (lb : b + ss.length + 2 < s.heap.objs.size)
    (h : ∀ s' acc' c', s'.heap.get? s.heap.objs.size = some (lst acc' c') → acc'.toList = refs (s.heap.objs.size + 1) cols.length → (∀ (j : Nat) col, cols[j]? = some col → s'.heap.get? (s.heap.objs.size + 1 + j) = some (tpl col)) →
        (∀ a o, a < b → s.heap.get? a = some o → s'.heap.get? a = some o) → s'.gens = s.gens → s'.drawn = s.drawn → s'.os = s.os → Q (.ref s.heap.objs.size) s') :
    wpAny (model prog w) A (call (.type "list") [.ref (b + ss.length + 2)]) Q E s := by
  refine callType_codes (Q₁ := fun obj s₁ => obj = .ref s.heap.objs.size ∧ s₁ = { s with heap := s.heap.push { cls := .type "list", data := .seq #[] } }) F.called_list (F.typeCall_list_1 _) F.entry_list_init
    (code_list_new _ ⟨rfl, rfl⟩) fun obj s₁ h₁ => ?_
  obtain ⟨rfl, rfl⟩ := h₁
  have hS : (s.heap.push { cls := .type "list", data := .seq #[] }).get? s.heap.objs.size = some { cls := .type "list", data := .seq #[] } := Heap.get?_push_size _ rfl
  have up1 : ∀ c o, s.heap.get? c = some o → (s.heap.push { cls := .type "list", data := .seq #[] }).get? c = some o := fun c o e => Heap.get?_push_of_some _ e
  have st1 := st.up up1
  refine ⟨⟨_, hS, rfl⟩, F.args_list_init_2 _ _, ?_⟩
  show wpAny _ A.in1.in1 (do let old ← Builtin.List.listItems (.ref s.heap.objs.size); Builtin.List.listUpdate (.ref s.heap.objs.size) (fun _ => #[]); letGo old.toList.reverse; Builtin.List.listExtendWith (.ref s.heap.objs.size) (.ref (b + ss.length + 2)) .none) _ _ _
  refine wpAny_bind ?_
  unfold Builtin.List.listItems
  refine wpAny_bind (wpAny_seqItems hS rfl (wpAny_pure ?_))
  show wpAny _ A.in1.in1 (updateSeq s.heap.objs.size (fun _ => #[]) >>= fun _ => letGo (#[] : Array Value).toList.reverse >>= fun _ => Builtin.List.listExtendWith (.ref s.heap.objs.size) (.ref (b + ss.length + 2)) .none) _ _ _
  refine wpAny_bind (wpAny_updateSeq hS rfl ?_)
  have hS2 := Heap.get?_update_self (Obj.mapSeq (fun _ => (#[] : Array Value))) hS rfl
  have sb2 : Heap.SameBut s.heap.objs.size (s.heap.push { cls := .type "list", data := .seq #[] }) ((s.heap.push { cls := .type "list", data := .seq #[] }).update s.heap.objs.size (Obj.mapSeq (fun _ => (#[] : Array Value)))) := Heap.SameBut.update ..
  have st2 := st1.over old lb sb2 ⟨_, hS2⟩
  refine wpAny_bind (wpAny_letGo ?_)
  unfold Builtin.List.listExtendWith
  refine wpAny_bind (wpAny_typeOf (zty st2) ?_)
  have h1 : Builtin.List.listSameRef (.ref s.heap.objs.size) (.ref (b + ss.length + 2)) = false := by
    have : ¬ s.heap.objs.size = b + ss.length + 2 := by omega
    simp [Builtin.List.listSameRef, this]
  have h2 : (Value.type "zip" == Value.type "list") = false := by decide
  have h3 : (Value.type "zip" == Value.type "tuple") = false := by decide
  simp only [h1, h2, h3, Bool.or_false, Bool.false_eq_true, if_false]
  refine wpAny_bind (wpAny_pyIter_zip (s := { s with heap := _ }) (zst_zip st2) ?_)
  refine wpAny_bind (wpAny_holding ?_)
  unfold Builtin.List.listLengthHint
  refine wpAny_bind (wpAny_specialOf (zty st2) no_len ?_)
  show wpAny _ A.in1.in1 (specialOf (Value.ref (b + ss.length + 2)) (Str.ofString "__length_hint__") >>= _) _ _ _
  refine wpAny_bind (wpAny_specialOf (zty st2) no_hint ?_)
  refine wpAny_pure ?_
  show wpAny _ A.in1.in1 (rule "list.extend.makes-room" >>= fun _ => Builtin.List.listTouch (.ref s.heap.objs.size) >>= fun _ =>
    again (.builtin "list.extend.loop" ⟨[.ref s.heap.objs.size, .ref (b + ss.length + 2), .none], []⟩)) _ _ _
  refine wpAny_bind (wpAny_rule ?_)
  refine wpAny_bind ?_
  show wpAny _ A.in1.in1 (updateSeq s.heap.objs.size (·.push .none) >>= fun _ => updateSeq s.heap.objs.size (·.pop)) _ _ _
  refine wpAny_bind (wpAny_updateSeq hS2 rfl ?_)
  have hS3 := Heap.get?_update_self (Obj.mapSeq (·.push Value.none)) hS2 rfl
  refine wpAny_updateSeq (hz := by seq_fits) hS3 rfl ?_
  have hS4 := Heap.get?_update_self (Obj.mapSeq (·.pop)) hS3 rfl
  have sb3 := Heap.SameBut.update ((s.heap.push { cls := .type "list", data := .seq #[] }).update s.heap.objs.size (Obj.mapSeq (fun _ => (#[] : Array Value)))) s.heap.objs.size (Obj.mapSeq (·.push Value.none))
  have sb4 := Heap.SameBut.update (((s.heap.push { cls := .type "list", data := .seq #[] }).update s.heap.objs.size (Obj.mapSeq (fun _ => (#[] : Array Value)))).update s.heap.objs.size (Obj.mapSeq (·.push Value.none))) s.heap.objs.size (Obj.mapSeq (·.pop))
  have st3 := st2.over old lb sb3 ⟨_, hS3⟩
  have st4 := st3.over old lb sb4 ⟨_, hS4⟩
  refine wpAny_pure ⟨plainId_quiet F.plain_extend_loop _, ?_⟩
  refine zloop (A := A.in1) (S := s.heap.objs.size) (T0 := s.heap.objs.size + 1) (hh := hh) old m0 few hc hn lb (Nat.lt_succ_self _) cols.length 0 _ #[] _ (Nat.zero_add _) st4 hS4 rfl ?_ (fun j col z => absurd z (Nat.not_lt_zero _)) fun s' acc' c' q1 q2 q3 q4 q5 q6 q7 => ?_
  · show Array.size _ = _
    rw [sb4.1, sb3.1, sb2.1, Heap.size_push]
  · refine ⟨rfl, h s' acc' c' q1 q2 q3 (fun a o l e => q4 a o l ?_) q5 q6 q7⟩
    have na : a ≠ s.heap.objs.size := ad (by omega)
    exact sb4.extBut _ _ na (sb3.extBut _ _ na (sb2.extBut _ _ na (up1 _ _ e)))
end
end ZN
namespace ZN
open PySem PySem.Spec PyProof.Rows L2
/-- the i-th of each row -/
def colV (vss : List (List V)) (i : Nat) : List V := vss.map fun vs => vs.getD i .non
/-- behind list(zip(rows)): the tuples from T on, the list at S -/
def zipH (H : Hp) (S T : Nat) (vss : List (List V)) (n : Nat) : Hp := fun (p : Nat) =>
  if p = S then some (.lst ((List.range n).map fun i => V.ref (T + i))) else if T ≤ p ∧ p < T + n then some (.tup (colV vss (p - T))) else H p
section
variable {H : Hp} {S T n : Nat} {vss : List (List V)}
theorem zipH_S : zipH H S T vss n S = some (.lst ((List.range n).map fun i => V.ref (T + i))) := if_pos rfl
theorem zipH_T (l : S < T) {i : Nat} (hi : i < n) : zipH H S T vss n (T + i) = some (.tup (colV vss i)) := by
  unfold zipH
  rw [if_neg (show ¬ T + i = S by omega), if_pos ⟨by omega, by omega⟩, Nat.add_sub_cancel_left]
theorem zipH_old {p : Nat} (h1 : p ≠ S) (h2 : ¬ (T ≤ p ∧ p < T + n)) : zipH H S T vss n p = H p := by
  unfold zipH
  rw [if_neg h1, if_neg h2]
/-- what was there stays -/
theorem zipH_kp (nS : H S = none) (nT : ∀ i, i < n → H (T + i) = none) {p : Nat} {o : HO} (e : H p = some o) : zipH H S T vss n p = some o := by
  rw [zipH_old, e]
  · intro z
    subst z
    rw [nS] at e
    cases e
  · rintro ⟨z1, z2⟩
    have := nT (p - T) (by omega)
    rw [Nat.add_sub_cancel' z1, e] at this
    cases this
end
/-- rows of the heap -/
def RowsAt (K : PySem.W.Frag) (H : Hp) (rows : List Addr) (vss : List (List V)) : Prop := Paired (fun r vs => SqT K H r vs ∨ SqL K H r vs) rows vss
def tZip (K : PySem.W.Frag) (te : TE) : TE := fun σ H Q => te σ H fun v H1 => ∃ a rows vss n, v = .ref a ∧ (SqT K H1 a (rows.map V.ref) ∨ SqL K H1 a (rows.map V.ref)) ∧ RowsAt K H1 rows vss ∧ 0 < rows.length ∧ rows.length ≤ 16 ∧ (∀ vs ∈ vss, vs.length = n) ∧
  ∀ S T : Nat, H1 S = none → (∀ i, i < n → H1 (T + i) = none) → S < T → Q (.ref S) (zipH H1 S T vss n)
section
variable {X : Cx} {pins : List (Addr × Obj)} {σ : L2.St} {H : Hp} {s : Shared}
theorem srcs (I : Inv X pins σ H s) : ∀ {rows : List Addr} {vss : List (List V)}, RowsAt X.K H rows vss → ∃ ss : List (Addr × Array Value), ss.map (·.1) = rows ∧ Paired (fun vs (p : Addr × Array Value) => Vals vs p.2.toList) vss ss ∧ (∀ p ∈ ss, Whole s.heap p.1 p.2) ∧ ∀ vs ∈ vss, vs.length ≤ sizeLine
  | _, _, .nil => ⟨[], rfl, .nil, (fun _ h => nomatch h), (fun _ h => nomatch h)⟩
  | r :: rows, vs :: vss, .cons h t => by
    obtain ⟨ss, e, p, w, l⟩ := srcs I t
    rcases h with h | h
    · obtain ⟨its, rv, hp, z⟩ := I.tuple h
      refine ⟨(r, its.toArray) :: ss, by rw [List.map_cons, e], .cons (by simpa using rv) p, fun q hq => ?_, fun q hq => ?_⟩
      · rcases List.mem_cons.mp hq with rfl | hq
        · exact .inr hp
        · exact w q hq
      · rcases List.mem_cons.mp hq with rfl | hq
        · exact z
        · exact l q hq
    · obtain ⟨its, rv, hp, z⟩ := I.list h
      refine ⟨(r, its.toArray) :: ss, by rw [List.map_cons, e], .cons (by simpa using rv) p, fun q hq => ?_, fun q hq => ?_⟩
      · rcases List.mem_cons.mp hq with rfl | hq
        · exact .inl hp.isList
        · exact w q hq
      · rcases List.mem_cons.mp hq with rfl | hq
        · exact z
        · exact l q hq
def colC (ss : List (Addr × Array Value)) (i : Nat) : List Value := ss.map fun p => p.2.toList.getD i .none
theorem colC_vals {n i : Nat} (hi : i < n) : ∀ {vss : List (List V)} {ss : List (Addr × Array Value)}, Paired (fun vs (p : Addr × Array Value) => Vals vs p.2.toList) vss ss → (∀ vs ∈ vss, vs.length = n) → Vals (colV vss i) (colC ss i)
  | _, _, .nil, _ => .nil
  | vs :: vss, p :: ss, .cons h t, hl => by
    refine .cons ?_ (colC_vals hi t fun q hq => hl q (List.mem_cons_of_mem _ hq))
    have li : i < vs.length := by rw [hl vs (List.mem_cons_self ..)]; exact hi
    obtain ⟨u, e, r⟩ := Vals.get h (List.getElem?_eq_getElem li)
    have e1 : vs.getD i .non = vs[i] := by simp [li]
    have e2 : p.2.toList.getD i .none = u := by rw [List.getD_eq_getElem?_getD, e]; rfl
    show L2.RelV (vs.getD i .non) (p.2.toList.getD i .none)
    rw [e1, e2]
    exact r
theorem szs {n : Nat} : ∀ {vss : List (List V)} {ss : List (Addr × Array Value)}, Paired (fun vs (p : Addr × Array Value) => Vals vs p.2.toList) vss ss → (∀ vs ∈ vss, vs.length = n) → ∀ p ∈ ss, p.2.size = n
  | _, _, .nil, _, p, hp => nomatch hp
  | vs :: vss, q :: ss, .cons h t, hl, p, hp => by
    rcases List.mem_cons.mp hp with rfl | hp
    · have := h.length
      rw [hl vs (List.mem_cons_self ..), Array.length_toList] at this
      exact this.symm
    · exact szs t (fun q hq => hl q (List.mem_cons_of_mem _ hq)) p hp
theorem cols_of {n : Nat} {ss : List (Addr × Array Value)} (h : ∀ p ∈ ss, p.2.size = n) : Cols ss ((List.range n).map (colC ss)) := by
  refine ⟨fun p hp => by rw [List.length_map, List.length_range]; exact h p hp, fun i col e => ?_⟩
  have li : i < n := by
    have := (List.getElem?_eq_some_iff.mp e).1
    rwa [List.length_map, List.length_range] at this
  rw [List.getElem?_map, List.getElem?_range li] at e
  cases e
  refine ⟨by unfold colC; rw [List.length_map], fun j p ej => ?_⟩
  have := h p (List.mem_of_getElem? ej)
  refine ⟨p.2.toList.getD i .none, ?_, ?_⟩
  · have l2 : i < p.2.size := by omega
    simp [l2]
  · unfold colC
    rw [List.getElem?_map, ej]
    rfl
theorem vals_refs {T : Nat} : ∀ n : Nat, Vals ((List.range n).map fun i => V.ref (T + i)) (refs T n) := by
  intro n
  induction n with
  | zero => exact .nil
  | succ n ih =>
    rw [refs_succ, List.range_succ, List.map_append]
    exact ih.append (.cons rfl .nil)
/-- the heap behind it is held -/
theorem laid_zip {s' : Shared} {S T n c : Nat} {acc : Array Value} {vss : List (List V)} {ss : List (Addr × Array Value)} (I : Inv X pins σ H s) (hn : n ≤ sizeLine) (lS : s.heap.objs.size ≤ S) (ST : S < T) (pv : Paired (fun vs (p : Addr × Array Value) => Vals vs p.2.toList) vss ss) (hl : ∀ vs ∈ vss, vs.length = n) (few : vss.length ≤ 16)
    (hS : s'.heap.get? S = some (ZN.lst acc c)) (ea : acc.toList = refs T n) (ht : ∀ i, i < n → s'.heap.get? (T + i) = some (tpl (colC ss i))) (kp : ∀ a o, s.heap.get? a = some o → s'.heap.get? a = some o) (hg : s'.gens = s.gens) (ho : s'.os = s.os) : Inv X pins σ (zipH H S T vss n) s' := by
  have nS : H S = none := I.hok.fresh lS
  have nT : ∀ i, i < n → H (T + i) = none := fun i _ => I.hok.fresh (by omega)
  refine I.call' (ch := []) ho ⟨fun b o q _ _ _ => kp b o q, fun b o q _ _ _ => ⟨o.slots, kp b o q⟩, fun b o q n0 _ => ?_, fun b o q _ => ⟨o, kp b o q⟩, fun b xs q => zipH_kp nS nT q, fun b o u q => zipH_kp nS nT q, fun b ps q => ⟨#[], by rw [zipH_kp nS nT q]; simp⟩⟩ (fun (b : Nat) o q => ?_) (by rw [hg]; exact I.bare) (fun b hb => nomatch hb)
  · have lt : @LT.lt Nat instLTNat b s.heap.objs.size := Heap.lt_size q
    rw [zipH_old (p := b) (ad (by omega)) (by omega)]
    exact n0
  · by_cases c1 : b = S
    · subst c1
      rw [zipH_S] at q
      cases q
      refine ⟨by rw [List.length_map, List.length_range]; exact hn, refs T n, c, vals_refs n, ?_⟩
      rw [hS, ← ea]
    · by_cases c2 : T ≤ b ∧ b < T + n
      · have e : b = T + (b - T) := by omega
        have li : b - T < n := by omega
        rw [e] at q ⊢
        rw [zipH_T ST li] at q
        cases q
        refine ⟨by unfold colV; rw [List.length_map]; exact Nat.le_trans few (by decide), colC ss (b - T), colC_vals li pv hl, ?_⟩
        exact ⟨_, ht _ li, rfl, _, rfl⟩
      · rw [zipH_old c1 c2] at q
        exact (I.hok b o q).stay (fun b' u _ e => kp b' u e) (fun d z => zipH_kp nS nT z) fun d xs z => zipH_kp nS nT z
end
end ZN
namespace ZN
open PySem PySem.Spec PyProof.Rows L2
section
variable {X : Cx} {te : TE} {e : Expr} {sp p p' pos pos' : Pos}
theorem kz {M : Model} (h : Heap) : ∃ k, (k = Keeper.frame ∨ k = Keeper.machine ∨ k = Keeper.boundFrame) ∧ PySem.W.Looks M h (keeperOf (.type "zip")) k := ⟨.machine, .inr (.inl rfl), PySem.W.Looks.of_pure rfl⟩
theorem refs_eq : ∀ {rows : List Addr} {us : List Value}, Vals (rows.map V.ref) us → us = rows.map Value.ref
  | [], _, .nil => rfl
  | r :: rows, _, .cons (b := u) h t => by
    obtain rfl : u = Value.ref r := h
    rw [refs_eq t]
    rfl
/-- list(zip( *e)) -/
theorem pe_listZip (hc : X.calm = true) (hg : Gl X "list") (hm : X.mg "list" = none) (hg' : Gl X "zip") (hm' : X.mg "zip" = none) (he : PE X e te)
    (ns : starEach [.Starred e sp] X.env = [(true, eval e X.env)] := by rfl) (na : starEach [.Call (.Name "zip" p') [.Starred e sp] [] pos'] X.env = (false, eval (.Call (.Name "zip" p') [.Starred e sp] [] pos') X.env) :: starEach [] X.env := by rfl) :
    PE X (.Call (.Name "list" p) [.Call (.Name "zip" p') [.Starred e sp] [] pos'] [] pos) (tZip X.K te) := by
  refine ⟨fun pins s σ H Q I h => ?_⟩
  refine Call_ (ld_blt I hg hm boot_list (PyProof.Rows.callWith_type1 (args_cons (?_) na) na))
  refine Call_ (ld_blt I hg' hm' PyProof.Rows.boot_zip ?_)
  rw [ns]
  refine PySem.W.ks_call (P := fun _ => True) rfl (fun h _ => kz h) (PySem.W.ks_lone (thn (he.run pins s σ H _ I h) fun v s1 ⟨y, H1, I1, ry, a, rows, vss, n, ey, hx, hr, r0, r16, hl, q⟩ => ?_))
  subst ey
  obtain rfl : v = Value.ref a := ry
  refine StX.star_any I1 hx fun us s2 I2 rv => ⟨trivial, ?_⟩
  obtain ⟨ss, es, pv, wh, zl⟩ := srcs I2 hr
  have eu : us = ss.map fun p => Value.ref p.1 := by
    rw [show (ss.map fun p => Value.ref p.1) = rows.map Value.ref by rw [← es, List.map_map]; rfl]
    exact refs_eq rv
  subst eu
  have ls : ss.length = rows.length := by rw [← es, List.length_map]
  refine call_zip (by omega) wh fun h' st sz kp => ?_
  refine args_nil ?_
  have lv := pv.length
  have ls' : ss.length ≤ 16 := by omega
  have m0 : 0 < ss.length := by omega
  have old : ∀ p ∈ ss, p.1 < s2.heap.objs.size := fun p hp => (wh p hp).lt
  have nn : n ≤ sizeLine := by
    cases vss with
    | nil => simp at lv; omega
    | cons vs vss => rw [← hl vs (List.mem_cons_self ..)]; exact zl vs (List.mem_cons_self ..)
  have cn : ((List.range n).map (colC ss)).length = n := by rw [List.length_map, List.length_range]
  refine call_list_zip (cols := (List.range n).map (colC ss)) (hh := I2.ok.hd hc) old m0 (by omega) (cols_of (szs pv hl)) (by rw [cn]; exact nn) st (by show _ < h'.objs.size; omega) fun s' acc c q1 q2 q3 q4 q5 q6 q7 => ?_
  rw [cn] at q2
  have bz : s2.heap.objs.size ≤ h'.objs.size := by omega
  refine ⟨.ref h'.objs.size, zipH H1 h'.objs.size (h'.objs.size + 1) vss n, laid_zip I2 nn bz (Nat.lt_succ_self _) pv hl (by omega) q1 q2 (fun i hi => q3 i _ ?_) (fun a o e => q4 a o (Heap.lt_size e) (kp a o e)) q5 q7, rfl, q _ _ (I2.hok.fresh bz) (fun i _ => I2.hok.fresh (by omega)) (Nat.lt_succ_self _)⟩
  rw [List.getElem?_map, List.getElem?_range hi]
  rfl
end
end ZN

local macro_rules | `(tactic| walk_at "txN") => `(tactic| first | assumption | omega | (simp only [List.length_append, List.length_cons, List.length_nil, List.length_drop, List.length_take] at *; omega))
local macro_rules | `(tactic| walk_at "tx1") => `(tactic| first
  | (with_reducible refine RD.d_break ?_)
  | (with_reducible refine RD.d_eqW ?_)
  | (with_reducible refine RD.d_neW ?_)
  | ((with_reducible (refine' RD.d_lenW ?n ?k)); (case n => walk_at "txN"))
  | ((with_reducible (refine' RD.d_addS ?n ?k)); (case n => walk_at "txN")))
local macro_rules | `(tactic| walk_at "tx") => `(tactic| repeat (first | walk_at "tx1" | walk_at "rd1" | walk_at "rd2"))

namespace Toy
open PySem L2
def top (i : Nat) : Stmt := PySem.Challenge.pw_watchedways_k35_whole_leavings_of_made_o.main.body.getD i (.Pass ⟨0, 0, 0, 0⟩)
abbrev s_WayError__init : Stmt := inClass (top 1) 0
theorem sc_WayError__init : FnScope ["self", "value"] ["self", "value"] (defScope s_WayError__init) := ⟨rfl, rfl, rfl, by decide +kernel, rfl, by decide +kernel, by decide +kernel⟩
abbrev s_TooMany__init : Stmt := inClass (top 4) 0
theorem sc_TooMany__init : FnScope ["self"] ["self"] (defScope s_TooMany__init) := ⟨rfl, rfl, rfl, by decide +kernel, rfl, by decide +kernel, by decide +kernel⟩
abbrev s_is_integer : Stmt := top 6
theorem sc_is_integer : FnScope ["thing"] ["thing"] (defScope s_is_integer) := ⟨rfl, rfl, rfl, by decide +kernel, rfl, by decide +kernel, by decide +kernel⟩
abbrev s_is_row : Stmt := top 7
theorem sc_is_row : FnScope ["thing"] ["thing"] (defScope s_is_row) := ⟨rfl, rfl, rfl, by decide +kernel, rfl, by decide +kernel, by decide +kernel⟩
abbrev s_first_fault : Stmt := top 11
theorem sc_first_fault : FnScope ["joins", "products", "none", "one"] ["joins", "products", "none", "one"] (defScope s_first_fault) := ⟨rfl, rfl, rfl, by decide +kernel, rfl, by decide +kernel, by decide +kernel⟩
abbrev s_size_fault : Stmt := top 12
theorem sc_size_fault : FnScope ["joins", "products", "none", "one", "many"] ["joins", "products", "none", "one"] (defScope s_size_fault) := ⟨rfl, rfl, rfl, by decide +kernel, rfl, by decide +kernel, by decide +kernel⟩
abbrev s_is_square : Stmt := top 13
theorem sc_is_square : FnScope ["many", "thing", "row"] ["many", "thing"] (defScope s_is_square) := ⟨rfl, rfl, rfl, by decide +kernel, rfl, by decide +kernel, by decide +kernel⟩
abbrev s_is_side : Stmt := top 14
theorem sc_is_side : FnScope ["many", "thing", "item"] ["many", "thing"] (defScope s_is_side) := ⟨rfl, rfl, rfl, by decide +kernel, rfl, by decide +kernel, by decide +kernel⟩
abbrev s_is_below : Stmt := top 15
theorem sc_is_below : FnScope ["many", "thing"] ["many", "thing"] (defScope s_is_below) := ⟨rfl, rfl, rfl, by decide +kernel, rfl, by decide +kernel, by decide +kernel⟩
abbrev s_none_fault : Stmt := top 16
theorem sc_none_fault : FnScope ["joins", "products", "none", "a"] ["joins", "products", "none"] (defScope s_none_fault) := ⟨rfl, rfl, rfl, by decide +kernel, rfl, by decide +kernel, by decide +kernel⟩
abbrev s_one_fault : Stmt := top 17
theorem sc_one_fault : FnScope ["products", "one", "a"] ["products", "one"] (defScope s_one_fault) := ⟨rfl, rfl, rfl, by decide +kernel, rfl, by decide +kernel, by decide +kernel⟩
abbrev s_idle_fault : Stmt := top 18
theorem sc_idle_fault : FnScope ["joins", "a"] ["joins"] (defScope s_idle_fault) := ⟨rfl, rfl, rfl, by decide +kernel, rfl, by decide +kernel, by decide +kernel⟩
abbrev s_swap_fault : Stmt := top 19
theorem sc_swap_fault : FnScope ["joins", "a", "b"] ["joins"] (defScope s_swap_fault) := ⟨rfl, rfl, rfl, by decide +kernel, rfl, by decide +kernel, by decide +kernel⟩
abbrev s_grouping_fault : Stmt := top 20
theorem sc_grouping_fault : FnScope ["word", "table", "worths", "a", "b", "c"] ["word", "table"] (defScope s_grouping_fault) := ⟨rfl, rfl, rfl, by decide +kernel, rfl, by decide +kernel, by decide +kernel⟩
abbrev s_over_fault : Stmt := top 21
theorem sc_over_fault : FnScope ["joins", "products", "worths", "a", "b", "c", "joined"] ["joins", "products"] (defScope s_over_fault) := ⟨rfl, rfl, rfl, by decide +kernel, rfl, by decide +kernel, by decide +kernel⟩
abbrev s_same_fault : Stmt := top 22
theorem sc_same_fault : FnScope ["none", "one"] ["none", "one"] (defScope s_same_fault) := ⟨rfl, rfl, rfl, by decide +kernel, rfl, by decide +kernel, by decide +kernel⟩
abbrev s_check_worths : Stmt := top 24
theorem sc_check_worths : FnScope ["reckoning", "first", "second", "thing"] ["reckoning", "first", "second"] (defScope s_check_worths) := ⟨rfl, rfl, rfl, by decide +kernel, rfl, by decide +kernel, by decide +kernel⟩
abbrev s_Reckoning__init : Stmt := inClass (top 26) 0
theorem sc_Reckoning__init : FnScope ["self", "joins", "products", "none", "one", "fault", "row", "worths", "a", "b", "c"] ["self", "joins", "products", "none", "one"] (defScope s_Reckoning__init) := ⟨rfl, rfl, rfl, by decide +kernel, rfl, by decide +kernel, by decide +kernel⟩
abbrev s_Reckoning_is_worth : Stmt := inClass (top 26) 2
theorem sc_Reckoning_is_worth : FnScope ["self", "thing"] ["self", "thing"] (defScope s_Reckoning_is_worth) := ⟨rfl, rfl, rfl, by decide +kernel, rfl, by decide +kernel, by decide +kernel⟩
abbrev s_Reckoning_beneath : Stmt := inClass (top 26) 3
theorem sc_Reckoning_beneath : FnScope ["self", "a", "b"] ["self", "a", "b"] (defScope s_Reckoning_beneath) := ⟨rfl, rfl, rfl, by decide +kernel, rfl, by decide +kernel, by decide +kernel⟩
abbrev s_Reckoning_join : Stmt := inClass (top 26) 4
theorem sc_Reckoning_join : FnScope ["self", "a", "b"] ["self", "a", "b"] (defScope s_Reckoning_join) := ⟨rfl, rfl, rfl, by decide +kernel, rfl, by decide +kernel, by decide +kernel⟩
abbrev s_Reckoning_times : Stmt := inClass (top 26) 5
theorem sc_Reckoning_times : FnScope ["self", "a", "b"] ["self", "a", "b"] (defScope s_Reckoning_times) := ⟨rfl, rfl, rfl, by decide +kernel, rfl, by decide +kernel, by decide +kernel⟩
abbrev s_Reckoning_meet : Stmt := inClass (top 26) 6
theorem sc_Reckoning_meet : FnScope ["self", "a", "b"] ["self", "a", "b"] (defScope s_Reckoning_meet) := ⟨rfl, rfl, rfl, by decide +kernel, rfl, by decide +kernel, by decide +kernel⟩
abbrev s_Reckoning_greatest : Stmt := inClass (top 26) 7
theorem sc_Reckoning_greatest : FnScope ["self"] ["self"] (defScope s_Reckoning_greatest) := ⟨rfl, rfl, rfl, by decide +kernel, rfl, by decide +kernel, by decide +kernel⟩
abbrev s_Reckoning_left : Stmt := inClass (top 26) 8
theorem sc_Reckoning_left : FnScope ["self", "a", "c"] ["self", "a", "c"] (defScope s_Reckoning_left) := ⟨rfl, rfl, rfl, by decide +kernel, rfl, by decide +kernel, by decide +kernel⟩
abbrev s_Reckoning_right : Stmt := inClass (top 26) 9
theorem sc_Reckoning_right : FnScope ["self", "c", "a"] ["self", "c", "a"] (defScope s_Reckoning_right) := ⟨rfl, rfl, rfl, by decide +kernel, rfl, by decide +kernel, by decide +kernel⟩
abbrev s_Reckoning_Ujoined : Stmt := inClass (top 26) 10
theorem sc_Reckoning_Ujoined : FnScope ["self", "worths", "found", "worth"] ["self", "worths"] (defScope s_Reckoning_Ujoined) := ⟨rfl, rfl, rfl, by decide +kernel, rfl, by decide +kernel, by decide +kernel⟩
abbrev s_Reckoning_Umeet : Stmt := inClass (top 26) 11
theorem sc_Reckoning_Umeet : FnScope ["self", "a", "b", "below", "worth"] ["self", "a", "b"] (defScope s_Reckoning_Umeet) := ⟨rfl, rfl, rfl, by decide +kernel, rfl, by decide +kernel, by decide +kernel⟩
abbrev s_Reckoning_Uleft : Stmt := inClass (top 26) 12
theorem sc_Reckoning_Uleft : FnScope ["self", "a", "c", "row", "b"] ["self", "a", "c"] (defScope s_Reckoning_Uleft) := ⟨rfl, rfl, rfl, by decide +kernel, rfl, by decide +kernel, by decide +kernel⟩
abbrev s_Reckoning_Uright : Stmt := inClass (top 26) 13
theorem sc_Reckoning_Uright : FnScope ["self", "c", "a", "column", "row", "b"] ["self", "c", "a"] (defScope s_Reckoning_Uright) := ⟨rfl, rfl, rfl, by decide +kernel, rfl, by decide +kernel, by decide +kernel⟩
abbrev s_check_told : Stmt := top 27
theorem sc_check_told : FnScope ["reckoning"] ["reckoning"] (defScope s_check_told) := ⟨rfl, rfl, rfl, by decide +kernel, rfl, by decide +kernel, by decide +kernel⟩
abbrev s_turned : Stmt := top 30
theorem sc_turned : FnScope ["reckoning"] ["reckoning"] (defScope s_turned) := ⟨rfl, rfl, rfl, by decide +kernel, rfl, by decide +kernel, by decide +kernel⟩
abbrev s_beside : Stmt := top 31
theorem sc_beside : FnScope ["one", "other", "size"] ["one", "other"] (defScope s_beside) := ⟨rfl, rfl, rfl, by decide +kernel, rfl, by decide +kernel, by decide +kernel⟩
abbrev s_lots : Stmt := top 32
theorem sc_lots : FnScope ["products", "one", "fault", "every", "a", "b"] ["products", "one"] (defScope s_lots) := ⟨rfl, rfl, rfl, by decide +kernel, rfl, by decide +kernel, by decide +kernel⟩
abbrev s_chain : Stmt := top 33
theorem sc_chain : FnScope ["times", "size"] ["times"] (defScope s_chain) := ⟨rfl, rfl, rfl, by decide +kernel, rfl, by decide +kernel, by decide +kernel⟩
abbrev s_greater_ones : Stmt := top 34
theorem sc_greater_ones : FnScope ["size", "a", "b"] ["size"] (defScope s_greater_ones) := ⟨rfl, rfl, rfl, by decide +kernel, rfl, by decide +kernel, by decide +kernel⟩
abbrev s_side_by_side : Stmt := top 35
theorem sc_side_by_side : FnScope ["one", "other", "size", "pairs", "a", "b", "c", "d"] ["one", "other"] (defScope s_side_by_side) := ⟨rfl, rfl, rfl, by decide +kernel, rfl, by decide +kernel, by decide +kernel⟩
abbrev s_lots_fault : Stmt := top 36
theorem sc_lots_fault : FnScope ["products", "one"] ["products", "one"] (defScope s_lots_fault) := ⟨rfl, rfl, rfl, by decide +kernel, rfl, by decide +kernel, by decide +kernel⟩
abbrev s_product_of_lots : Stmt := top 37
theorem sc_product_of_lots : FnScope ["products", "a", "b", "things", "made", "one", "other"] ["products", "a", "b"] (defScope s_product_of_lots) := ⟨rfl, rfl, rfl, by decide +kernel, rfl, by decide +kernel, by decide +kernel⟩
abbrev s_law_hand : Stmt := top 39
theorem sc_law_hand : FnScope ["script", "cells", "cell"] ["script"] (defScope s_law_hand) := ⟨rfl, rfl, rfl, by decide +kernel, rfl, by decide +kernel, by decide +kernel⟩
abbrev s_law_draw : Stmt := top 40
theorem sc_law_draw : FnScope ["hand", "many", "cell", "digit", "number"] ["hand", "many"] (defScope s_law_draw) := ⟨rfl, rfl, rfl, by decide +kernel, rfl, by decide +kernel, by decide +kernel⟩
abbrev s_law_times : Stmt := top 41
theorem sc_law_times : FnScope ["hand", "kind", "many", "top", "a", "b"] ["hand"] (defScope s_law_times) := ⟨rfl, rfl, rfl, by decide +kernel, rfl, by decide +kernel, by decide +kernel⟩
abbrev s_law_monoid : Stmt := top 42
theorem sc_law_monoid : FnScope ["hand", "found"] ["hand"] (defScope s_law_monoid) := ⟨rfl, rfl, rfl, by decide +kernel, rfl, by decide +kernel, by decide +kernel⟩
abbrev s_law_in : Stmt := top 43
theorem sc_law_in : FnScope ["lot", "thing"] ["lot", "thing"] (defScope s_law_in) := ⟨rfl, rfl, rfl, by decide +kernel, rfl, by decide +kernel, by decide +kernel⟩
abbrev s_law_lots_right : Stmt := top 44
theorem sc_law_lots_right : FnScope ["hand", "products", "one", "many", "reckoning", "things", "turn", "a", "c", "left", "right", "x", "y"] ["hand", "products", "one"] (defScope s_law_lots_right) := ⟨rfl, rfl, rfl, by decide +kernel, rfl, by decide +kernel, by decide +kernel⟩
abbrev s_law_beside_right : Stmt := top 45
theorem sc_law_beside_right : FnScope ["hand", "one", "other", "sizes", "both", "many", "turn", "a", "b", "x", "y"] ["hand", "one", "other", "sizes"] (defScope s_law_beside_right) := ⟨rfl, rfl, rfl, by decide +kernel, rfl, by decide +kernel, by decide +kernel⟩
abbrev s_law_turned_right : Stmt := top 46
theorem sc_law_turned_right : FnScope ["hand", "reckoning", "size", "other", "turn", "a", "b"] ["hand", "reckoning", "size"] (defScope s_law_turned_right) := ⟨rfl, rfl, rfl, by decide +kernel, rfl, by decide +kernel, by decide +kernel⟩
abbrev s_law : Stmt := top 47
theorem sc_law : FnScope ["script", "hand", "products", "one", "first", "second", "small", "yes"] ["script"] (defScope s_law) := ⟨rfl, rfl, rfl, by decide +kernel, rfl, by decide +kernel, by decide +kernel⟩
structure Top (K : PySem.W.Frag) (mg : Str → Option Value) where
  C_Reckoning : Addr
  cl_Reckoning : Cls K C_Reckoning
  g_Reckoning : mg "Reckoning" = some (.ref C_Reckoning)
  na_Reckoning_joins : NoAttr K C_Reckoning "joins"
  na_Reckoning_products : NoAttr K C_Reckoning "products"
  na_Reckoning_none : NoAttr K C_Reckoning "none"
  na_Reckoning_one : NoAttr K C_Reckoning "one"
  na_Reckoning__meets : NoAttr K C_Reckoning "_meets"
  na_Reckoning__lefts : NoAttr K C_Reckoning "_lefts"
  na_Reckoning__rights : NoAttr K C_Reckoning "_rights"
  f_WayError__init : Addr
  fd_WayError__init : FuncData
  F_WayError__init : Fun K "__init__" "WayError.__init__" s_WayError__init f_WayError__init fd_WayError__init
  b_WayError__init : Binds K fd_WayError__init ["self", "value"] []
  f_TooMany__init : Addr
  fd_TooMany__init : FuncData
  F_TooMany__init : Fun K "__init__" "TooMany.__init__" s_TooMany__init f_TooMany__init fd_TooMany__init
  b_TooMany__init : Binds K fd_TooMany__init ["self"] []
  f_is_integer : Addr
  fd_is_integer : FuncData
  F_is_integer : Fun K "is_integer" "is_integer" s_is_integer f_is_integer fd_is_integer
  b_is_integer : Binds K fd_is_integer ["thing"] []
  g_is_integer : mg "is_integer" = some (.ref f_is_integer)
  f_is_row : Addr
  fd_is_row : FuncData
  F_is_row : Fun K "is_row" "is_row" s_is_row f_is_row fd_is_row
  b_is_row : Binds K fd_is_row ["thing"] []
  g_is_row : mg "is_row" = some (.ref f_is_row)
  f_first_fault : Addr
  fd_first_fault : FuncData
  F_first_fault : Fun K "first_fault" "first_fault" s_first_fault f_first_fault fd_first_fault
  b_first_fault : Binds K fd_first_fault ["joins", "products", "none", "one"] []
  g_first_fault : mg "first_fault" = some (.ref f_first_fault)
  f_size_fault : Addr
  fd_size_fault : FuncData
  F_size_fault : Fun K "size_fault" "size_fault" s_size_fault f_size_fault fd_size_fault
  b_size_fault : Binds K fd_size_fault ["joins", "products", "none", "one"] []
  g_size_fault : mg "size_fault" = some (.ref f_size_fault)
  f_is_square : Addr
  fd_is_square : FuncData
  F_is_square : Fun K "is_square" "is_square" s_is_square f_is_square fd_is_square
  b_is_square : Binds K fd_is_square ["many", "thing"] []
  g_is_square : mg "is_square" = some (.ref f_is_square)
  f_is_side : Addr
  fd_is_side : FuncData
  F_is_side : Fun K "is_side" "is_side" s_is_side f_is_side fd_is_side
  b_is_side : Binds K fd_is_side ["many", "thing"] []
  g_is_side : mg "is_side" = some (.ref f_is_side)
  f_is_below : Addr
  fd_is_below : FuncData
  F_is_below : Fun K "is_below" "is_below" s_is_below f_is_below fd_is_below
  b_is_below : Binds K fd_is_below ["many", "thing"] []
  g_is_below : mg "is_below" = some (.ref f_is_below)
  f_none_fault : Addr
  fd_none_fault : FuncData
  F_none_fault : Fun K "none_fault" "none_fault" s_none_fault f_none_fault fd_none_fault
  b_none_fault : Binds K fd_none_fault ["joins", "products", "none"] []
  g_none_fault : mg "none_fault" = some (.ref f_none_fault)
  f_one_fault : Addr
  fd_one_fault : FuncData
  F_one_fault : Fun K "one_fault" "one_fault" s_one_fault f_one_fault fd_one_fault
  b_one_fault : Binds K fd_one_fault ["products", "one"] []
  g_one_fault : mg "one_fault" = some (.ref f_one_fault)
  f_idle_fault : Addr
  fd_idle_fault : FuncData
  F_idle_fault : Fun K "idle_fault" "idle_fault" s_idle_fault f_idle_fault fd_idle_fault
  b_idle_fault : Binds K fd_idle_fault ["joins"] []
  g_idle_fault : mg "idle_fault" = some (.ref f_idle_fault)
  f_swap_fault : Addr
  fd_swap_fault : FuncData
  F_swap_fault : Fun K "swap_fault" "swap_fault" s_swap_fault f_swap_fault fd_swap_fault
  b_swap_fault : Binds K fd_swap_fault ["joins"] []
  g_swap_fault : mg "swap_fault" = some (.ref f_swap_fault)
  f_grouping_fault : Addr
  fd_grouping_fault : FuncData
  F_grouping_fault : Fun K "grouping_fault" "grouping_fault" s_grouping_fault f_grouping_fault fd_grouping_fault
  b_grouping_fault : Binds K fd_grouping_fault ["word", "table"] []
  g_grouping_fault : mg "grouping_fault" = some (.ref f_grouping_fault)
  f_over_fault : Addr
  fd_over_fault : FuncData
  F_over_fault : Fun K "over_fault" "over_fault" s_over_fault f_over_fault fd_over_fault
  b_over_fault : Binds K fd_over_fault ["joins", "products"] []
  g_over_fault : mg "over_fault" = some (.ref f_over_fault)
  f_same_fault : Addr
  fd_same_fault : FuncData
  F_same_fault : Fun K "same_fault" "same_fault" s_same_fault f_same_fault fd_same_fault
  b_same_fault : Binds K fd_same_fault ["none", "one"] []
  g_same_fault : mg "same_fault" = some (.ref f_same_fault)
  f_check_worths : Addr
  fd_check_worths : FuncData
  F_check_worths : Fun K "check_worths" "check_worths" s_check_worths f_check_worths fd_check_worths
  b_check_worths : Binds K fd_check_worths ["reckoning", "first", "second"] []
  g_check_worths : mg "check_worths" = some (.ref f_check_worths)
  f_Reckoning__init : Addr
  fd_Reckoning__init : FuncData
  F_Reckoning__init : Fun K "__init__" "Reckoning.__init__" s_Reckoning__init f_Reckoning__init fd_Reckoning__init
  b_Reckoning__init : Binds K fd_Reckoning__init ["self", "joins", "products", "none", "one"] []
  M_Reckoning : Mk K C_Reckoning f_Reckoning__init
  f_Reckoning_is_worth : Addr
  fd_Reckoning_is_worth : FuncData
  F_Reckoning_is_worth : Fun K "is_worth" "Reckoning.is_worth" s_Reckoning_is_worth f_Reckoning_is_worth fd_Reckoning_is_worth
  b_Reckoning_is_worth : Binds K fd_Reckoning_is_worth ["self", "thing"] []
  m_Reckoning_is_worth : Meth K C_Reckoning "is_worth" f_Reckoning_is_worth
  f_Reckoning_beneath : Addr
  fd_Reckoning_beneath : FuncData
  F_Reckoning_beneath : Fun K "beneath" "Reckoning.beneath" s_Reckoning_beneath f_Reckoning_beneath fd_Reckoning_beneath
  b_Reckoning_beneath : Binds K fd_Reckoning_beneath ["self", "a", "b"] []
  m_Reckoning_beneath : Meth K C_Reckoning "beneath" f_Reckoning_beneath
  f_Reckoning_join : Addr
  fd_Reckoning_join : FuncData
  F_Reckoning_join : Fun K "join" "Reckoning.join" s_Reckoning_join f_Reckoning_join fd_Reckoning_join
  b_Reckoning_join : Binds K fd_Reckoning_join ["self", "a", "b"] []
  m_Reckoning_join : Meth K C_Reckoning "join" f_Reckoning_join
  f_Reckoning_times : Addr
  fd_Reckoning_times : FuncData
  F_Reckoning_times : Fun K "times" "Reckoning.times" s_Reckoning_times f_Reckoning_times fd_Reckoning_times
  b_Reckoning_times : Binds K fd_Reckoning_times ["self", "a", "b"] []
  m_Reckoning_times : Meth K C_Reckoning "times" f_Reckoning_times
  f_Reckoning_meet : Addr
  fd_Reckoning_meet : FuncData
  F_Reckoning_meet : Fun K "meet" "Reckoning.meet" s_Reckoning_meet f_Reckoning_meet fd_Reckoning_meet
  b_Reckoning_meet : Binds K fd_Reckoning_meet ["self", "a", "b"] []
  m_Reckoning_meet : Meth K C_Reckoning "meet" f_Reckoning_meet
  f_Reckoning_greatest : Addr
  fd_Reckoning_greatest : FuncData
  F_Reckoning_greatest : Fun K "greatest" "Reckoning.greatest" s_Reckoning_greatest f_Reckoning_greatest fd_Reckoning_greatest
  b_Reckoning_greatest : Binds K fd_Reckoning_greatest ["self"] []
  m_Reckoning_greatest : Meth K C_Reckoning "greatest" f_Reckoning_greatest
  f_Reckoning_left : Addr
  fd_Reckoning_left : FuncData
  F_Reckoning_left : Fun K "left" "Reckoning.left" s_Reckoning_left f_Reckoning_left fd_Reckoning_left
  b_Reckoning_left : Binds K fd_Reckoning_left ["self", "a", "c"] []
  m_Reckoning_left : Meth K C_Reckoning "left" f_Reckoning_left
  f_Reckoning_right : Addr
  fd_Reckoning_right : FuncData
  F_Reckoning_right : Fun K "right" "Reckoning.right" s_Reckoning_right f_Reckoning_right fd_Reckoning_right
  b_Reckoning_right : Binds K fd_Reckoning_right ["self", "c", "a"] []
  m_Reckoning_right : Meth K C_Reckoning "right" f_Reckoning_right
  f_Reckoning_Ujoined : Addr
  fd_Reckoning_Ujoined : FuncData
  F_Reckoning_Ujoined : Fun K "_joined" "Reckoning._joined" s_Reckoning_Ujoined f_Reckoning_Ujoined fd_Reckoning_Ujoined
  b_Reckoning_Ujoined : Binds K fd_Reckoning_Ujoined ["self", "worths"] []
  m_Reckoning_Ujoined : Meth K C_Reckoning "_joined" f_Reckoning_Ujoined
  f_Reckoning_Umeet : Addr
  fd_Reckoning_Umeet : FuncData
  F_Reckoning_Umeet : Fun K "_meet" "Reckoning._meet" s_Reckoning_Umeet f_Reckoning_Umeet fd_Reckoning_Umeet
  b_Reckoning_Umeet : Binds K fd_Reckoning_Umeet ["self", "a", "b"] []
  m_Reckoning_Umeet : Meth K C_Reckoning "_meet" f_Reckoning_Umeet
  f_Reckoning_Uleft : Addr
  fd_Reckoning_Uleft : FuncData
  F_Reckoning_Uleft : Fun K "_left" "Reckoning._left" s_Reckoning_Uleft f_Reckoning_Uleft fd_Reckoning_Uleft
  b_Reckoning_Uleft : Binds K fd_Reckoning_Uleft ["self", "a", "c"] []
  m_Reckoning_Uleft : Meth K C_Reckoning "_left" f_Reckoning_Uleft
  f_Reckoning_Uright : Addr
  fd_Reckoning_Uright : FuncData
  F_Reckoning_Uright : Fun K "_right" "Reckoning._right" s_Reckoning_Uright f_Reckoning_Uright fd_Reckoning_Uright
  b_Reckoning_Uright : Binds K fd_Reckoning_Uright ["self", "c", "a"] []
  m_Reckoning_Uright : Meth K C_Reckoning "_right" f_Reckoning_Uright
  f_check_told : Addr
  fd_check_told : FuncData
  F_check_told : Fun K "check_told" "check_told" s_check_told f_check_told fd_check_told
  b_check_told : Binds K fd_check_told ["reckoning"] []
  g_check_told : mg "check_told" = some (.ref f_check_told)
  f_turned : Addr
  fd_turned : FuncData
  F_turned : Fun K "turned" "turned" s_turned f_turned fd_turned
  b_turned : Binds K fd_turned ["reckoning"] []
  g_turned : mg "turned" = some (.ref f_turned)
  f_beside : Addr
  fd_beside : FuncData
  F_beside : Fun K "beside" "beside" s_beside f_beside fd_beside
  b_beside : Binds K fd_beside ["one", "other"] []
  g_beside : mg "beside" = some (.ref f_beside)
  f_lots : Addr
  fd_lots : FuncData
  F_lots : Fun K "lots" "lots" s_lots f_lots fd_lots
  b_lots : Binds K fd_lots ["products", "one"] []
  g_lots : mg "lots" = some (.ref f_lots)
  f_chain : Addr
  fd_chain : FuncData
  F_chain : Fun K "chain" "chain" s_chain f_chain fd_chain
  b_chain : Binds K fd_chain ["times"] []
  g_chain : mg "chain" = some (.ref f_chain)
  f_greater_ones : Addr
  fd_greater_ones : FuncData
  F_greater_ones : Fun K "greater_ones" "greater_ones" s_greater_ones f_greater_ones fd_greater_ones
  b_greater_ones : Binds K fd_greater_ones ["size"] []
  g_greater_ones : mg "greater_ones" = some (.ref f_greater_ones)
  f_side_by_side : Addr
  fd_side_by_side : FuncData
  F_side_by_side : Fun K "side_by_side" "side_by_side" s_side_by_side f_side_by_side fd_side_by_side
  b_side_by_side : Binds K fd_side_by_side ["one", "other"] []
  g_side_by_side : mg "side_by_side" = some (.ref f_side_by_side)
  f_lots_fault : Addr
  fd_lots_fault : FuncData
  F_lots_fault : Fun K "lots_fault" "lots_fault" s_lots_fault f_lots_fault fd_lots_fault
  b_lots_fault : Binds K fd_lots_fault ["products", "one"] []
  g_lots_fault : mg "lots_fault" = some (.ref f_lots_fault)
  f_product_of_lots : Addr
  fd_product_of_lots : FuncData
  F_product_of_lots : Fun K "product_of_lots" "product_of_lots" s_product_of_lots f_product_of_lots fd_product_of_lots
  b_product_of_lots : Binds K fd_product_of_lots ["products", "a", "b"] []
  g_product_of_lots : mg "product_of_lots" = some (.ref f_product_of_lots)
  f_law_hand : Addr
  fd_law_hand : FuncData
  F_law_hand : Fun K "_law_hand" "_law_hand" s_law_hand f_law_hand fd_law_hand
  b_law_hand : Binds K fd_law_hand ["script"] []
  g_law_hand : mg "_law_hand" = some (.ref f_law_hand)
  f_law_draw : Addr
  fd_law_draw : FuncData
  F_law_draw : Fun K "_law_draw" "_law_draw" s_law_draw f_law_draw fd_law_draw
  b_law_draw : Binds K fd_law_draw ["hand", "many"] []
  g_law_draw : mg "_law_draw" = some (.ref f_law_draw)
  f_law_times : Addr
  fd_law_times : FuncData
  F_law_times : Fun K "_law_times" "_law_times" s_law_times f_law_times fd_law_times
  b_law_times : Binds K fd_law_times ["hand"] []
  g_law_times : mg "_law_times" = some (.ref f_law_times)
  f_law_monoid : Addr
  fd_law_monoid : FuncData
  F_law_monoid : Fun K "_law_monoid" "_law_monoid" s_law_monoid f_law_monoid fd_law_monoid
  b_law_monoid : Binds K fd_law_monoid ["hand"] []
  g_law_monoid : mg "_law_monoid" = some (.ref f_law_monoid)
  f_law_in : Addr
  fd_law_in : FuncData
  F_law_in : Fun K "_law_in" "_law_in" s_law_in f_law_in fd_law_in
  b_law_in : Binds K fd_law_in ["lot", "thing"] []
  g_law_in : mg "_law_in" = some (.ref f_law_in)
  f_law_lots_right : Addr
  fd_law_lots_right : FuncData
  F_law_lots_right : Fun K "_law_lots_right" "_law_lots_right" s_law_lots_right f_law_lots_right fd_law_lots_right
  b_law_lots_right : Binds K fd_law_lots_right ["hand", "products", "one"] []
  g_law_lots_right : mg "_law_lots_right" = some (.ref f_law_lots_right)
  f_law_beside_right : Addr
  fd_law_beside_right : FuncData
  F_law_beside_right : Fun K "_law_beside_right" "_law_beside_right" s_law_beside_right f_law_beside_right fd_law_beside_right
  b_law_beside_right : Binds K fd_law_beside_right ["hand", "one", "other", "sizes"] []
  g_law_beside_right : mg "_law_beside_right" = some (.ref f_law_beside_right)
  f_law_turned_right : Addr
  fd_law_turned_right : FuncData
  F_law_turned_right : Fun K "_law_turned_right" "_law_turned_right" s_law_turned_right f_law_turned_right fd_law_turned_right
  b_law_turned_right : Binds K fd_law_turned_right ["hand", "reckoning", "size"] []
  g_law_turned_right : mg "_law_turned_right" = some (.ref f_law_turned_right)
  f_law : Addr
  fd_law : FuncData
  F_law : Fun K "law" "law" s_law f_law fd_law
  b_law : Binds K fd_law ["script"] []
  g_law : mg "law" = some (.ref f_law)
  n_abs : mg "abs" = none
  n_all : mg "all" = none
  n_bool : mg "bool" = none
  n_int : mg "int" = none
  n_isinstance : mg "isinstance" = none
  n_len : mg "len" = none
  n_list : mg "list" = none
  n_max : mg "max" = none
  n_min : mg "min" = none
  n_range : mg "range" = none
  n_tuple : mg "tuple" = none
  n_zip : mg "zip" = none
  k_FEWEST_WORTHS : PySem.Tok
  g_FEWEST_WORTHS : mg "FEWEST_WORTHS" = some (.int 2 k_FEWEST_WORTHS)
  k_MOST_WORTHS : PySem.Tok
  g_MOST_WORTHS : mg "MOST_WORTHS" = some (.int 16 k_MOST_WORTHS)
  k_MOST_THINGS : PySem.Tok
  g_MOST_THINGS : mg "MOST_THINGS" = some (.int 4 k_MOST_THINGS)
  hnO : PySem.W.specialIn K (.builtin "object.__class__") "__get__" = some (some (.builtin "getset_descriptor.__get__"))
  htO : PySem.W.takesIn K (.builtin "object.__class__") = some true
  ha_Reckoning : PySem.W.findIn K (.ref C_Reckoning) "__class__" = some (some (.builtin "object.__class__"))
  hm_Reckoning : PySem.W.mroIn K C_Reckoning (.type "object") = some true
  tI : PySem.W.typeIn K (.ref f_WayError__init) = some (.type "function")
  kI_Reckoning : PySem.W.kitOne K (.ref C_Reckoning) (.type "int") = some false
  kB_Reckoning : PySem.W.kitOne K (.ref C_Reckoning) (.type "bool") = some false
  C_WayError : Addr
  g_WayError : mg "WayError" = some (.ref C_WayError)
  ne_Reckoning : PySem.W.findIn K (.ref C_Reckoning) "__ne__" = some (some (.builtin "object.__ne__"))
  kRR : PySem.W.kitOne K (.ref C_Reckoning) (.ref C_Reckoning) = some true
  nfR : PySem.W.notFirst K C_Reckoning (.ref C_Reckoning) = true
  C_BadReckoning : Addr
  g_BadReckoning : mg "BadReckoning" = some (.ref C_BadReckoning)
  oex_BadReckoning : OexC K C_BadReckoning
  i_BadReckoning : PySem.W.findIn K (.ref C_BadReckoning) "__init__" = some (some (.ref f_WayError__init))
  v_BadReckoning : PySem.W.findIn K (.ref C_BadReckoning) "value" = some none
  xf_BadReckoning : XfC K C_BadReckoning
  exI_BadReckoning : ExcC K C_BadReckoning
  exm_BadReckoning : PySem.W.exmOne K (.ref C_BadReckoning) (.ref C_BadReckoning) = some true
  exW_BadReckoning : PySem.W.exmOne K (.ref C_BadReckoning) (.ref C_WayError) = some true
  kE_BadReckoning : PySem.W.kitOne K (.ref C_BadReckoning) (.ref C_BadReckoning) = some true
  C_BadWorth : Addr
  g_BadWorth : mg "BadWorth" = some (.ref C_BadWorth)
  oex_BadWorth : OexC K C_BadWorth
  i_BadWorth : PySem.W.findIn K (.ref C_BadWorth) "__init__" = some (some (.ref f_WayError__init))
  v_BadWorth : PySem.W.findIn K (.ref C_BadWorth) "value" = some none
  xf_BadWorth : XfC K C_BadWorth
  exI_BadWorth : ExcC K C_BadWorth
  exm_BadWorth : PySem.W.exmOne K (.ref C_BadWorth) (.ref C_BadWorth) = some true
  exW_BadWorth : PySem.W.exmOne K (.ref C_BadWorth) (.ref C_WayError) = some true
  kE_BadWorth : PySem.W.kitOne K (.ref C_BadWorth) (.ref C_BadWorth) = some true
  C_TooMany : Addr
  g_TooMany : mg "TooMany" = some (.ref C_TooMany)
  oex_TooMany : OexC K C_TooMany
  i_TooMany : PySem.W.findIn K (.ref C_TooMany) "__init__" = some (some (.ref f_TooMany__init))
  v_TooMany : PySem.W.findIn K (.ref C_TooMany) "value" = some none
  xf_TooMany : XfC K C_TooMany
  exI_TooMany : ExcC K C_TooMany
  exm_TooMany : PySem.W.exmOne K (.ref C_TooMany) (.ref C_TooMany) = some true
  exW_TooMany : PySem.W.exmOne K (.ref C_TooMany) (.ref C_WayError) = some true
  kE_TooMany : PySem.W.kitOne K (.ref C_TooMany) (.ref C_TooMany) = some true
  tI_TooMany : PySem.W.typeIn K (.ref f_TooMany__init) = some (.type "function")
  c_WE : OQ.CDef K C_WayError f_WayError__init "__init__"
/-! ### the head -/
def faH0 : List He.Fa := [.glo "WayError", .glo "BadReckoning", .glo "BadWorth", .glo "TooMany", .glo "Reckoning", .glo "is_integer", .glo "is_row", .glo "first_fault", .glo "size_fault", .glo "is_square", .glo "is_side", .glo "is_below", .glo "none_fault", .glo "one_fault", .glo "idle_fault", .glo "swap_fault", .glo "grouping_fault", .glo "over_fault", .glo "same_fault", .glo "check_worths", .glo "check_told", .glo "turned", .glo "beside", .glo "lots", .glo "chain", .glo "greater_ones", .glo "side_by_side", .glo "lots_fault", .glo "product_of_lots", .glo "_law_hand"]
def faH1 : List He.Fa := [.glo "_law_draw", .glo "_law_times", .glo "_law_monoid", .glo "_law_in", .glo "_law_lots_right", .glo "_law_beside_right", .glo "_law_turned_right", .glo "law", .free "abs", .free "all", .free "bool", .free "int", .free "isinstance", .free "len", .free "list", .free "max", .free "min", .free "range", .free "tuple", .free "zip", .int "FEWEST_WORTHS" 2, .int "MOST_WORTHS" 16, .int "MOST_THINGS" 4, .cls "Reckoning", .noat "Reckoning" "joins", .noat "Reckoning" "products", .noat "Reckoning" "none", .noat "Reckoning" "one", .noat "Reckoning" "_meets", .noat "Reckoning" "_lefts"]
def faH2 : List He.Fa := [.noat "Reckoning" "_rights", .meth "Reckoning" "is_worth", .meth "Reckoning" "beneath", .meth "Reckoning" "join", .meth "Reckoning" "times", .meth "Reckoning" "meet", .meth "Reckoning" "greatest", .meth "Reckoning" "left", .meth "Reckoning" "right", .meth "Reckoning" "_joined", .meth "Reckoning" "_meet", .meth "Reckoning" "_left", .meth "Reckoning" "_right", .mkr "Reckoning"]
def faH : List He.Fa := faH0 ++ faH1 ++ faH2
def dH_WayError__init : He.DefD := ⟨("WayError", some "__init__"), "__init__", "WayError.__init__", defArgs s_WayError__init, defBody s_WayError__init, defScope s_WayError__init, [], []⟩
def dH_TooMany__init : He.DefD := ⟨("TooMany", some "__init__"), "__init__", "TooMany.__init__", defArgs s_TooMany__init, defBody s_TooMany__init, defScope s_TooMany__init, [], []⟩
def dH_is_integer : He.DefD := ⟨("is_integer", none), "is_integer", "is_integer", defArgs s_is_integer, defBody s_is_integer, defScope s_is_integer, [], []⟩
def dH_is_row : He.DefD := ⟨("is_row", none), "is_row", "is_row", defArgs s_is_row, defBody s_is_row, defScope s_is_row, [], []⟩
def dH_first_fault : He.DefD := ⟨("first_fault", none), "first_fault", "first_fault", defArgs s_first_fault, defBody s_first_fault, defScope s_first_fault, [], []⟩
def dH_size_fault : He.DefD := ⟨("size_fault", none), "size_fault", "size_fault", defArgs s_size_fault, defBody s_size_fault, defScope s_size_fault, [], []⟩
def dH_is_square : He.DefD := ⟨("is_square", none), "is_square", "is_square", defArgs s_is_square, defBody s_is_square, defScope s_is_square, [], []⟩
def dH_is_side : He.DefD := ⟨("is_side", none), "is_side", "is_side", defArgs s_is_side, defBody s_is_side, defScope s_is_side, [], []⟩
def dH_is_below : He.DefD := ⟨("is_below", none), "is_below", "is_below", defArgs s_is_below, defBody s_is_below, defScope s_is_below, [], []⟩
def dH_none_fault : He.DefD := ⟨("none_fault", none), "none_fault", "none_fault", defArgs s_none_fault, defBody s_none_fault, defScope s_none_fault, [], []⟩
def dH_one_fault : He.DefD := ⟨("one_fault", none), "one_fault", "one_fault", defArgs s_one_fault, defBody s_one_fault, defScope s_one_fault, [], []⟩
def dH_idle_fault : He.DefD := ⟨("idle_fault", none), "idle_fault", "idle_fault", defArgs s_idle_fault, defBody s_idle_fault, defScope s_idle_fault, [], []⟩
def dH_swap_fault : He.DefD := ⟨("swap_fault", none), "swap_fault", "swap_fault", defArgs s_swap_fault, defBody s_swap_fault, defScope s_swap_fault, [], []⟩
def dH_grouping_fault : He.DefD := ⟨("grouping_fault", none), "grouping_fault", "grouping_fault", defArgs s_grouping_fault, defBody s_grouping_fault, defScope s_grouping_fault, [], []⟩
def dH_over_fault : He.DefD := ⟨("over_fault", none), "over_fault", "over_fault", defArgs s_over_fault, defBody s_over_fault, defScope s_over_fault, [], []⟩
def dH_same_fault : He.DefD := ⟨("same_fault", none), "same_fault", "same_fault", defArgs s_same_fault, defBody s_same_fault, defScope s_same_fault, [], []⟩
def dH_check_worths : He.DefD := ⟨("check_worths", none), "check_worths", "check_worths", defArgs s_check_worths, defBody s_check_worths, defScope s_check_worths, [], []⟩
def dH_Reckoning__init : He.DefD := ⟨("Reckoning", some "__init__"), "__init__", "Reckoning.__init__", defArgs s_Reckoning__init, defBody s_Reckoning__init, defScope s_Reckoning__init, [], []⟩
def dH_Reckoning_is_worth : He.DefD := ⟨("Reckoning", some "is_worth"), "is_worth", "Reckoning.is_worth", defArgs s_Reckoning_is_worth, defBody s_Reckoning_is_worth, defScope s_Reckoning_is_worth, [], []⟩
def dH_Reckoning_beneath : He.DefD := ⟨("Reckoning", some "beneath"), "beneath", "Reckoning.beneath", defArgs s_Reckoning_beneath, defBody s_Reckoning_beneath, defScope s_Reckoning_beneath, [], []⟩
def dH_Reckoning_join : He.DefD := ⟨("Reckoning", some "join"), "join", "Reckoning.join", defArgs s_Reckoning_join, defBody s_Reckoning_join, defScope s_Reckoning_join, [], []⟩
def dH_Reckoning_times : He.DefD := ⟨("Reckoning", some "times"), "times", "Reckoning.times", defArgs s_Reckoning_times, defBody s_Reckoning_times, defScope s_Reckoning_times, [], []⟩
def dH_Reckoning_meet : He.DefD := ⟨("Reckoning", some "meet"), "meet", "Reckoning.meet", defArgs s_Reckoning_meet, defBody s_Reckoning_meet, defScope s_Reckoning_meet, [], []⟩
def dH_Reckoning_greatest : He.DefD := ⟨("Reckoning", some "greatest"), "greatest", "Reckoning.greatest", defArgs s_Reckoning_greatest, defBody s_Reckoning_greatest, defScope s_Reckoning_greatest, [], []⟩
def dH_Reckoning_left : He.DefD := ⟨("Reckoning", some "left"), "left", "Reckoning.left", defArgs s_Reckoning_left, defBody s_Reckoning_left, defScope s_Reckoning_left, [], []⟩
def dH_Reckoning_right : He.DefD := ⟨("Reckoning", some "right"), "right", "Reckoning.right", defArgs s_Reckoning_right, defBody s_Reckoning_right, defScope s_Reckoning_right, [], []⟩
def dH_Reckoning_Ujoined : He.DefD := ⟨("Reckoning", some "_joined"), "_joined", "Reckoning._joined", defArgs s_Reckoning_Ujoined, defBody s_Reckoning_Ujoined, defScope s_Reckoning_Ujoined, [], []⟩
def dH_Reckoning_Umeet : He.DefD := ⟨("Reckoning", some "_meet"), "_meet", "Reckoning._meet", defArgs s_Reckoning_Umeet, defBody s_Reckoning_Umeet, defScope s_Reckoning_Umeet, [], []⟩
def dH_Reckoning_Uleft : He.DefD := ⟨("Reckoning", some "_left"), "_left", "Reckoning._left", defArgs s_Reckoning_Uleft, defBody s_Reckoning_Uleft, defScope s_Reckoning_Uleft, [], []⟩
def dH_Reckoning_Uright : He.DefD := ⟨("Reckoning", some "_right"), "_right", "Reckoning._right", defArgs s_Reckoning_Uright, defBody s_Reckoning_Uright, defScope s_Reckoning_Uright, [], []⟩
def dH_check_told : He.DefD := ⟨("check_told", none), "check_told", "check_told", defArgs s_check_told, defBody s_check_told, defScope s_check_told, [], []⟩
def dH_turned : He.DefD := ⟨("turned", none), "turned", "turned", defArgs s_turned, defBody s_turned, defScope s_turned, [], []⟩
def dH_beside : He.DefD := ⟨("beside", none), "beside", "beside", defArgs s_beside, defBody s_beside, defScope s_beside, [], []⟩
def dH_lots : He.DefD := ⟨("lots", none), "lots", "lots", defArgs s_lots, defBody s_lots, defScope s_lots, [], []⟩
def dH_chain : He.DefD := ⟨("chain", none), "chain", "chain", defArgs s_chain, defBody s_chain, defScope s_chain, [], []⟩
def dH_greater_ones : He.DefD := ⟨("greater_ones", none), "greater_ones", "greater_ones", defArgs s_greater_ones, defBody s_greater_ones, defScope s_greater_ones, [], []⟩
def dH_side_by_side : He.DefD := ⟨("side_by_side", none), "side_by_side", "side_by_side", defArgs s_side_by_side, defBody s_side_by_side, defScope s_side_by_side, [], []⟩
def dH_lots_fault : He.DefD := ⟨("lots_fault", none), "lots_fault", "lots_fault", defArgs s_lots_fault, defBody s_lots_fault, defScope s_lots_fault, [], []⟩
def dH_product_of_lots : He.DefD := ⟨("product_of_lots", none), "product_of_lots", "product_of_lots", defArgs s_product_of_lots, defBody s_product_of_lots, defScope s_product_of_lots, [], []⟩
def dH_law_hand : He.DefD := ⟨("_law_hand", none), "_law_hand", "_law_hand", defArgs s_law_hand, defBody s_law_hand, defScope s_law_hand, [], []⟩
def dH_law_draw : He.DefD := ⟨("_law_draw", none), "_law_draw", "_law_draw", defArgs s_law_draw, defBody s_law_draw, defScope s_law_draw, [], []⟩
def dH_law_times : He.DefD := ⟨("_law_times", none), "_law_times", "_law_times", defArgs s_law_times, defBody s_law_times, defScope s_law_times, [], []⟩
def dH_law_monoid : He.DefD := ⟨("_law_monoid", none), "_law_monoid", "_law_monoid", defArgs s_law_monoid, defBody s_law_monoid, defScope s_law_monoid, [], []⟩
def dH_law_in : He.DefD := ⟨("_law_in", none), "_law_in", "_law_in", defArgs s_law_in, defBody s_law_in, defScope s_law_in, [], []⟩
def dH_law_lots_right : He.DefD := ⟨("_law_lots_right", none), "_law_lots_right", "_law_lots_right", defArgs s_law_lots_right, defBody s_law_lots_right, defScope s_law_lots_right, [], []⟩
def dH_law_beside_right : He.DefD := ⟨("_law_beside_right", none), "_law_beside_right", "_law_beside_right", defArgs s_law_beside_right, defBody s_law_beside_right, defScope s_law_beside_right, [], []⟩
def dH_law_turned_right : He.DefD := ⟨("_law_turned_right", none), "_law_turned_right", "_law_turned_right", defArgs s_law_turned_right, defBody s_law_turned_right, defScope s_law_turned_right, [], []⟩
def dH_law : He.DefD := ⟨("law", none), "law", "law", defArgs s_law, defBody s_law, defScope s_law, [], []⟩
def fnH0 : List He.DefD := [dH_WayError__init, dH_TooMany__init, dH_is_integer, dH_is_row, dH_first_fault, dH_size_fault, dH_is_square, dH_is_side, dH_is_below, dH_none_fault, dH_one_fault, dH_idle_fault, dH_swap_fault, dH_grouping_fault, dH_over_fault, dH_same_fault, dH_check_worths, dH_Reckoning__init, dH_Reckoning_is_worth, dH_Reckoning_beneath, dH_Reckoning_join, dH_Reckoning_times, dH_Reckoning_meet, dH_Reckoning_greatest, dH_Reckoning_left]
def fnH1 : List He.DefD := [dH_Reckoning_right, dH_Reckoning_Ujoined, dH_Reckoning_Umeet, dH_Reckoning_Uleft, dH_Reckoning_Uright, dH_check_told, dH_turned, dH_beside, dH_lots, dH_chain, dH_greater_ones, dH_side_by_side, dH_lots_fault, dH_product_of_lots, dH_law_hand, dH_law_draw, dH_law_times, dH_law_monoid, dH_law_in, dH_law_lots_right, dH_law_beside_right, dH_law_turned_right, dH_law]
def fnH : List He.DefD := fnH0 ++ fnH1
def x_hnO (K : PySem.W.Frag) : Bool := OQ.isB (PySem.W.specialIn K (.builtin "object.__class__") "__get__") (some (.builtin "getset_descriptor.__get__"))
def x_htO (K : PySem.W.Frag) : Bool := decide (PySem.W.takesIn K (.builtin "object.__class__") = some true)
def x_haReckoning (K : PySem.W.Frag) : Bool := OQ.isB (PySem.W.findIn K (.ref (He.ga K "Reckoning")) "__class__") (some (.builtin "object.__class__"))
def x_hmReckoning (K : PySem.W.Frag) : Bool := decide (PySem.W.mroIn K (He.ga K "Reckoning") (.type "object") = some true)
def x_tI (K : PySem.W.Frag) : Bool := decide (PySem.W.typeIn K (.ref (He.fAd K ("WayError", some "__init__"))) = some (.type "function"))
def x_kintRe (K : PySem.W.Frag) : Bool := decide (PySem.W.kitOne K (.ref (He.ga K "Reckoning")) (.type "int") = some false)
def x_kboolRe (K : PySem.W.Frag) : Bool := decide (PySem.W.kitOne K (.ref (He.ga K "Reckoning")) (.type "bool") = some false)
def x_icWE (K : PySem.W.Frag) : Bool := PySem.W.isClsIn K (He.ga K "WayError")
def x_tyWE (K : PySem.W.Frag) : Bool := decide (PySem.W.typeIn K (.ref (He.ga K "WayError")) = some (.type "type"))
def x_exWE (K : PySem.W.Frag) : Bool := decide (PySem.W.subIn K (.ref (He.ga K "WayError")) (.type "BaseException") = some true)
def x_neRe (K : PySem.W.Frag) : Bool := OQ.isB (PySem.W.findIn K (.ref (He.ga K "Reckoning")) "__ne__") (some (.builtin "object.__ne__"))
def x_eBadReckoning (K : PySem.W.Frag) : Bool := OQ.erB K (He.ga K "WayError") (He.fAd K ("WayError", some "__init__")) (He.ga K "BadReckoning")
def x_eBadWorth (K : PySem.W.Frag) : Bool := OQ.erB K (He.ga K "WayError") (He.fAd K ("WayError", some "__init__")) (He.ga K "BadWorth")
def x_eTooMany (K : PySem.W.Frag) : Bool := OQ.erB K (He.ga K "WayError") (He.fAd K ("TooMany", some "__init__")) (He.ga K "TooMany")
def x_tI2 (K : PySem.W.Frag) : Bool := decide (PySem.W.typeIn K (.ref (He.fAd K ("TooMany", some "__init__"))) = some (.type "function"))
def x_rdWE (K : PySem.W.Frag) : Bool := PySem.W.readsIn K (He.ga K "WayError") (.type "type")
def x_gaWE (K : PySem.W.Frag) : Bool := OQ.isB (PySem.W.specialIn K (.ref (He.ga K "WayError")) "__getattribute__") (some (.builtin "type.__getattribute__"))
def x_vaWE (K : PySem.W.Frag) : Bool := (match PySem.W.findCls K (.ref (He.ga K "WayError")) (.type "type") "__init__" with | some (.val v) => decide (v = .ref (He.fAd K ("WayError", some "__init__"))) | _ => false)
def exH (K : PySem.W.Frag) : Bool := x_hnO K && (x_htO K && (x_haReckoning K && (x_hmReckoning K && (x_tI K && (x_kintRe K && (x_kboolRe K && (x_icWE K && (x_tyWE K && (x_exWE K && (x_neRe K && (x_eBadReckoning K && (x_eBadWorth K && (x_eTooMany K && (x_tI2 K && (x_rdWE K && (x_gaWE K && (x_vaWE K)))))))))))))))))
abbrev hk : PySem.W.Hook := OQ.hookB 5 faH fnH exH
def ob : PySem.W.SharedT → He.AlD × Bool := OQ.obB 5 faH fnH exH

/-! ### the states -/
def looseH0 : List Str := ["WayError", "BadReckoning", "BadWorth", "TooMany", "is_integer", "is_row", "FEWEST_WORTHS", "MOST_WORTHS", "first_fault", "size_fault", "is_square", "is_side", "is_below", "none_fault", "one_fault", "idle_fault", "swap_fault", "grouping_fault", "over_fault", "same_fault", "check_worths", "Reckoning", "check_told", "MOST_THINGS", "turned", "beside", "lots", "chain", "greater_ones", "side_by_side"]
def looseH1 : List Str := ["lots_fault", "product_of_lots", "_law_hand", "_law_draw", "_law_times", "_law_monoid", "_law_in", "_law_lots_right", "_law_beside_right", "_law_turned_right"]
def looseH : List Str := looseH0 ++ looseH1
noncomputable section
namespace HX
open PySem PySem.W PySem.Calls PyProof.Rows HandSHeadRun HG
def ns (x : String) : Str := Str.ofString x
def sv (x : String) (t : Tok) : Value := .str (Str.ofString x) t
def en (P : Params) (x : String) (t : Tok) (v : Value) : DictEntry := ⟨PyData.keyHash P (Str.ofString x), .str (Str.ofString x) t, v⟩
def subS (s : Stmt) (j : Nat) : Stmt := match s with
  | .ClassDef _ _ _ b .. => b.getD j (.Pass ⟨0, 0, 0, 0⟩)
  | _ => .Pass ⟨0, 0, 0, 0⟩
abbrev pp : Program := PySem.Challenge.pw_watchedways_k35_whole_leavings_of_made_o
def lf : Life := {}
def o0_0 (P : Params) : Obj := ⟨(.type "dict"), none, (.dict ⟨[en P "__name__" 1 (sv "builtins" 160), en P "__doc__" 2 (.builtin "builtins.__doc__:str#opaque"), en P "__package__" 3 (.builtin "builtins.__package__:str#opaque"), en P "__loader__" 4 (.builtin "builtins.__loader__:shared#opaque"), en P "__spec__" 5 (.builtin "builtins.__spec__#opaque"), en P "__build_class__" 6 (.builtin "__build_class__"), en P "__import__" 7 (.builtin "__import__"), en P "abs" 8 (.builtin "abs"), en P "all" 9 (.builtin "all"), en P "any" 10 (.builtin "any"), en P "ascii" 11 (.builtin "ascii"), en P "bin" 12 (.builtin "bin"), en P "breakpoint" 13 (.builtin "breakpoint"), en P "callable" 14 (.builtin "callable"), en P "chr" 15 (.builtin "chr"), en P "compile" 16 (.builtin "compile"), en P "delattr" 17 (.builtin "delattr"), en P "dir" 18 (.builtin "dir"), en P "divmod" 19 (.builtin "divmod"), en P "eval" 20 (.builtin "eval"), en P "exec" 21 (.builtin "exec"), en P "format" 22 (.builtin "format"), en P "getattr" 23 (.builtin "getattr"), en P "globals" 24 (.builtin "globals"), en P "hasattr" 25 (.builtin "hasattr"), en P "hash" 26 (.builtin "hash"), en P "hex" 27 (.builtin "hex"), en P "id" 28 (.builtin "id"), en P "input" 29 (.builtin "input"), en P "isinstance" 30 (.builtin "isinstance"), en P "issubclass" 31 (.builtin "issubclass"), en P "iter" 32 (.builtin "iter"), en P "aiter" 33 (.builtin "aiter"), en P "len" 34 (.builtin "len"), en P "locals" 35 (.builtin "locals"), en P "max" 36 (.builtin "max"), en P "min" 37 (.builtin "min"), en P "next" 38 (.builtin "next"), en P "anext" 39 (.builtin "anext"), en P "oct" 40 (.builtin "oct"), en P "ord" 41 (.builtin "ord"), en P "pow" 42 (.builtin "pow"), en P "print" 43 (.builtin "print"), en P "repr" 44 (.builtin "repr"), en P "round" 45 (.builtin "round"), en P "setattr" 46 (.builtin "setattr"), en P "sorted" 47 (.builtin "sorted"), en P "sum" 48 (.builtin "sum"), en P "vars" 49 (.builtin "vars"), en P "None" 50 .none, en P "Ellipsis" 51 .ellipsis, en P "NotImplemented" 52 .notImplemented, en P "False" 53 (.bool false), en P "True" 54 (.bool true), en P "bool" 55 (.type "bool"), en P "memoryview" 56 (.type "memoryview"), en P "bytearray" 57 (.type "bytearray"), en P "bytes" 58 (.type "bytes"), en P "classmethod" 59 (.type "classmethod"), en P "complex" 60 (.type "complex"), en P "dict" 61 (.type "dict"), en P "enumerate" 62 (.type "enumerate"), en P "filter" 63 (.type "filter"), en P "float" 64 (.type "float"), en P "frozenset" 65 (.type "frozenset"), en P "property" 66 (.type "property"), en P "int" 67 (.type "int"), en P "list" 68 (.type "list"), en P "map" 69 (.type "map"), en P "object" 70 (.type "object"), en P "range" 71 (.type "range"), en P "reversed" 72 (.type "reversed"), en P "set" 73 (.type "set"), en P "slice" 74 (.type "slice"), en P "staticmethod" 75 (.type "staticmethod"), en P "str" 76 (.type "str"), en P "super" 77 (.type "super"), en P "tuple" 78 (.type "tuple"), en P "type" 79 (.type "type"), en P "zip" 80 (.type "zip"), en P "__debug__" 81 (.bool true), en P "BaseException" 82 (.type "BaseException"), en P "BaseExceptionGroup" 83 (.type "BaseExceptionGroup"), en P "Exception" 84 (.type "Exception"), en P "GeneratorExit" 85 (.type "GeneratorExit"), en P "KeyboardInterrupt" 86 (.type "KeyboardInterrupt"), en P "SystemExit" 87 (.type "SystemExit"), en P "ArithmeticError" 88 (.type "ArithmeticError"), en P "AssertionError" 89 (.type "AssertionError"), en P "AttributeError" 90 (.type "AttributeError"), en P "BufferError" 91 (.type "BufferError"), en P "EOFError" 92 (.type "EOFError"), en P "ImportError" 93 (.type "ImportError"), en P "LookupError" 94 (.type "LookupError"), en P "MemoryError" 95 (.type "MemoryError"), en P "NameError" 96 (.type "NameError"), en P "OSError" 97 (.type "OSError"), en P "ReferenceError" 98 (.type "ReferenceError"), en P "RuntimeError" 99 (.type "RuntimeError"), en P "StopAsyncIteration" 100 (.type "StopAsyncIteration"), en P "StopIteration" 101 (.type "StopIteration"), en P "SyntaxError" 102 (.type "SyntaxError"), en P "SystemError" 103 (.type "SystemError"), en P "TypeError" 104 (.type "TypeError"), en P "ValueError" 105 (.type "ValueError"), en P "Warning" 106 (.type "Warning"), en P "FloatingPointError" 107 (.type "FloatingPointError"), en P "OverflowError" 108 (.type "OverflowError"), en P "ZeroDivisionError" 109 (.type "ZeroDivisionError"), en P "BytesWarning" 110 (.type "BytesWarning"), en P "DeprecationWarning" 111 (.type "DeprecationWarning"), en P "EncodingWarning" 112 (.type "EncodingWarning"), en P "FutureWarning" 113 (.type "FutureWarning"), en P "ImportWarning" 114 (.type "ImportWarning"), en P "PendingDeprecationWarning" 115 (.type "PendingDeprecationWarning"), en P "ResourceWarning" 116 (.type "ResourceWarning"), en P "RuntimeWarning" 117 (.type "RuntimeWarning"), en P "SyntaxWarning" 118 (.type "SyntaxWarning"), en P "UnicodeWarning" 119 (.type "UnicodeWarning"), en P "UserWarning" 120 (.type "UserWarning"), en P "BlockingIOError" 121 (.type "BlockingIOError"), en P "ChildProcessError" 122 (.type "ChildProcessError"), en P "ConnectionError" 123 (.type "ConnectionError"), en P "FileExistsError" 124 (.type "FileExistsError"), en P "FileNotFoundError" 125 (.type "FileNotFoundError"), en P "InterruptedError" 126 (.type "InterruptedError"), en P "IsADirectoryError" 127 (.type "IsADirectoryError"), en P "NotADirectoryError" 128 (.type "NotADirectoryError"), en P "PermissionError" 129 (.type "PermissionError"), en P "ProcessLookupError" 130 (.type "ProcessLookupError"), en P "TimeoutError" 131 (.type "TimeoutError"), en P "IndentationError" 132 (.type "IndentationError"), en P "_IncompleteInputError" 133 (.type "_IncompleteInputError"), en P "IndexError" 134 (.type "IndexError"), en P "KeyError" 135 (.type "KeyError"), en P "ModuleNotFoundError" 136 (.type "ModuleNotFoundError"), en P "NotImplementedError" 137 (.type "NotImplementedError"), en P "PythonFinalizationError" 138 (.type "PythonFinalizationError"), en P "RecursionError" 139 (.type "RecursionError"), en P "UnboundLocalError" 140 (.type "UnboundLocalError"), en P "UnicodeError" 141 (.type "UnicodeError"), en P "BrokenPipeError" 142 (.type "BrokenPipeError"), en P "ConnectionAbortedError" 143 (.type "ConnectionAbortedError"), en P "ConnectionRefusedError" 144 (.type "ConnectionRefusedError"), en P "ConnectionResetError" 145 (.type "ConnectionResetError"), en P "TabError" 146 (.type "TabError"), en P "UnicodeDecodeError" 147 (.type "UnicodeDecodeError"), en P "UnicodeEncodeError" 148 (.type "UnicodeEncodeError"), en P "UnicodeTranslateError" 149 (.type "UnicodeTranslateError"), en P "ExceptionGroup" 150 (.type "ExceptionGroup"), en P "EnvironmentError" 151 (.type "OSError"), en P "IOError" 152 (.type "OSError"), en P "open" 153 (.builtin "open"), en P "quit" 154 (.builtin "builtins.quit#opaque"), en P "exit" 155 (.builtin "builtins.exit#opaque"), en P "copyright" 156 (.builtin "builtins.copyright#opaque"), en P "credits" 157 (.builtin "builtins.credits#opaque"), en P "license" 158 (.builtin "builtins.license#opaque"), en P "help" 159 (.builtin "builtins.help#opaque")]⟩ 159), ⟨[]⟩⟩
def o1_0 (P : Params) : Obj := ⟨(.type "dict"), none, (.dict ⟨[en P "builtins" 162 (.ref 4), en P "__main__" 163 (.ref 5)]⟩ 2), ⟨[]⟩⟩
def o2_0 (P : Params) : Obj := ⟨.none, none, (.dict ⟨[]⟩ 0), ⟨[]⟩⟩
def o3_0 (P : Params) : Obj := ⟨(.type "dict"), none, (.dict ⟨[en P "__name__" 165 (sv "__main__" 164), en P "__doc__" 166 .none, en P "__package__" 167 .none, en P "__loader__" 168 (.builtin "__main__.__loader__#opaque"), en P "__spec__" 169 .none, en P "__annotations__" 170 (.ref 6), en P "__builtins__" 171 (.ref 4), en P "__file__" 173 (sv "/claim/cut.py" 172), en P "__cached__" 174 .none]⟩ 9), ⟨[]⟩⟩
def o4_0 (P : Params) : Obj := ⟨(.type "module"), (some 0), .plain, ⟨[]⟩⟩
def o5_0 (P : Params) : Obj := ⟨(.type "module"), (some 3), .plain, ⟨[]⟩⟩
def o6_0 (P : Params) : Obj := ⟨(.type "dict"), none, (.dict ⟨[]⟩ 0), ⟨[]⟩⟩
def o7_0 (P : Params) : Obj := ⟨(.type "tuple"), none, (.seq ⟨[]⟩ 0), ⟨[]⟩⟩
def o8_0 (P : Params) : Obj := ⟨.none, none, (.fields ⟨[]⟩), ⟨[]⟩⟩
def o9_0 (P : Params) : Obj := ⟨(.type "code"), none, (.fields ⟨[(sv "<module>" 176), (sv "<module>" 177), (sv "/claim/cut.py" 178), (.int (1) 0), (.int (0) 0), (.int (0) 0), (.int (0) 0), (.int (0) 0), (.ref 7), (.bool false), (.int (175) 0), (.ref 8), .none, .none, .none, .none, (.int (179) 0), (.int (1) 0), (sv "/claim/cut.py" 180)]⟩), ⟨[]⟩⟩
def o10_0 (P : Params) : Obj := ⟨(.type "frame"), none, .plain, ⟨[(some (.ref 9)), (some (.ref 3)), (some (.ref 3)), none, (some (sv "__main__" 164)), none, (some (.ref 0))]⟩⟩
def T0 (P : Params) : BT := (.node (o0_0 P) (.node (o1_0 P) (.node (o3_0 P) (.node (o7_0 P) .nil .nil) .nil) (.node (o5_0 P) (.node (o9_0 P) .nil .nil) .nil)) (.node (o2_0 P) (.node (o4_0 P) (.node (o8_0 P) .nil .nil) .nil) (.node (o6_0 P) (.node (o10_0 P) .nil .nil) .nil)))
def X0 (w : World) (os : OsState) : SharedT := ⟨T0 w.params, 11, lf, ⟨[]⟩, ⟨0, 0, 0, 0⟩, 181, os⟩
def o11_1 (P : Params) : Obj := ⟨(.type "tuple"), none, (.seq ⟨[]⟩ 0), ⟨[]⟩⟩
def o12_1 (P : Params) : Obj := ⟨.none, none, (.fields ⟨[]⟩), ⟨[]⟩⟩
def o13_1 (P : Params) : Obj := ⟨(.type "code"), none, (.fields ⟨[(sv "<module>" 182), (sv "<module>" 183), (sv "/claim/cut.py" 184), (.int (1) 0), (.int (0) 0), (.int (0) 0), (.int (0) 0), (.int (0) 0), (.ref 11), (.bool false), (.int (181) 0), (.ref 12), .none, .none, .none, .none, (.int (185) 0), (.int (1) 0), (sv "/claim/cut.py" 186)]⟩), ⟨[]⟩⟩
def o14_1 (P : Params) : Obj := ⟨(.type "frame"), none, .plain, ⟨[(some (.ref 13)), (some (.ref 3)), (some (.ref 3)), none, (some (sv "__main__" 164)), none, (some (.ref 0))]⟩⟩
def T1 (P : Params) : BT := (.node (o0_0 P) (.node (o1_0 P) (.node (o3_0 P) (.node (o7_0 P) .nil .nil) (.node (o11_1 P) .nil .nil)) (.node (o5_0 P) (.node (o9_0 P) .nil .nil) (.node (o13_1 P) .nil .nil))) (.node (o2_0 P) (.node (o4_0 P) (.node (o8_0 P) .nil .nil) (.node (o12_1 P) .nil .nil)) (.node (o6_0 P) (.node (o10_0 P) .nil .nil) (.node (o14_1 P) .nil .nil))))
def X1 (w : World) (os : OsState) : SharedT := ⟨T1 w.params, 15, lf, ⟨[]⟩, ⟨0, 0, 0, 0⟩, 187, os⟩
def T2 (P : Params) : BT := (.node (o0_0 P) (.node (o1_0 P) (.node (o3_0 P) (.node (o7_0 P) .nil .nil) (.node (o11_1 P) .nil .nil)) (.node (o5_0 P) (.node (o9_0 P) .nil .nil) (.node (o13_1 P) .nil .nil))) (.node (o2_0 P) (.node (o4_0 P) (.node (o8_0 P) .nil .nil) (.node (o12_1 P) .nil .nil)) (.node (o6_0 P) (.node (o10_0 P) .nil .nil) (.node (o14_1 P) .nil .nil))))
def X2 (w : World) (os : OsState) : SharedT := ⟨T2 w.params, 15, lf, ⟨[]⟩, ⟨0, 0, 0, 0⟩, 187, os⟩
def o3_3 (P : Params) : Obj := ⟨(.type "dict"), none, (.dict ⟨[en P "__name__" 165 (sv "law_watchedways_k35_whole_leavings_of_made_o" 630), en P "__doc__" 166 .none, en P "__package__" 167 .none, en P "__loader__" 168 (.builtin "__main__.__loader__#opaque"), en P "__spec__" 169 .none, en P "__annotations__" 170 (.ref 6), en P "__builtins__" 171 (.ref 4), en P "__file__" 173 (sv "/claim/cut.py" 172), en P "__cached__" 174 .none, en P "WayError" 215 (.ref 31), en P "BadReckoning" 231 (.ref 44), en P "BadWorth" 247 (.ref 56), en P "TooMany" 270 (.ref 75), en P "is_integer" 279 (.ref 84), en P "is_row" 286 (.ref 91), en P "FEWEST_WORTHS" 290 (.int (2) 289), en P "MOST_WORTHS" 292 (.int (16) 291), en P "first_fault" 302 (.ref 98), en P "size_fault" 313 (.ref 105), en P "is_square" 319 (.ref 110), en P "is_side" 325 (.ref 115), en P "is_below" 333 (.ref 122), en P "none_fault" 343 (.ref 129), en P "one_fault" 352 (.ref 136), en P "idle_fault" 360 (.ref 143), en P "swap_fault" 369 (.ref 150), en P "grouping_fault" 381 (.ref 157), en P "over_fault" 394 (.ref 164), en P "same_fault" 402 (.ref 171), en P "check_worths" 414 (.ref 178), en P "Reckoning" 555 (.ref 278), en P "check_told" 562 (.ref 289), en P "MOST_THINGS" 566 (.int (4) 565), en P "turned" 573 (.ref 296), en P "beside" 582 (.ref 303), en P "lots" 588 (.ref 308), en P "chain" 596 (.ref 315), en P "greater_ones" 602 (.ref 320), en P "side_by_side" 608 (.ref 325), en P "lots_fault" 616 (.ref 332), en P "product_of_lots" 629 (.ref 339), en P "_law_hand" 637 (.ref 344), en P "_law_draw" 648 (.ref 351), en P "_law_times" 654 (.ref 356), en P "_law_monoid" 662 (.ref 363), en P "_law_in" 670 (.ref 370)]⟩ 46), ⟨[]⟩⟩
def o12_3 (P : Params) : Obj := ⟨.none, none, (.fields ⟨[(.int (2) 0), (.int (0) 0), (.ref 20), (.int (6) 0), (.int (0) 0), (.ref 40), (.int (8) 0), (.int (0) 0), (.ref 52), (.int (10) 0), (.int (0) 0), (.ref 64), (.int (15) 0), (.int (0) 0), (.ref 83), (.int (17) 0), (.int (0) 0), (.ref 90), (.int (22) 0), (.int (0) 0), (.ref 97), (.int (24) 0), (.int (0) 0), (.ref 104), (.int (33) 0), (.int (0) 0), (.ref 109), (.int (35) 0), (.int (0) 0), (.ref 114), (.int (37) 0), (.int (0) 0), (.ref 121), (.int (39) 0), (.int (0) 0), (.ref 128), (.int (46) 0), (.int (0) 0), (.ref 135), (.int (51) 0), (.int (0) 0), (.ref 142), (.int (56) 0), (.int (0) 0), (.ref 149), (.int (62) 0), (.int (0) 0), (.ref 156), (.int (70) 0), (.int (0) 0), (.ref 163), (.int (81) 0), (.int (0) 0), (.ref 170), (.int (84) 0), (.int (0) 0), (.ref 177), (.int (89) 0), (.int (0) 0), (.ref 184), (.int (158) 0), (.int (0) 0), (.ref 288), (.int (163) 0), (.int (0) 0), (.ref 295), (.int (166) 0), (.int (0) 0), (.ref 302), (.int (173) 0), (.int (0) 0), (.ref 307), (.int (179) 0), (.int (0) 0), (.ref 314), (.int (182) 0), (.int (0) 0), (.ref 319), (.int (184) 0), (.int (0) 0), (.ref 324), (.int (188) 0), (.int (0) 0), (.ref 331), (.int (194) 0), (.int (0) 0), (.ref 338), (.int (203) 0), (.int (0) 0), (.ref 343), (.int (206) 0), (.int (0) 0), (.ref 350), (.int (222) 0), (.int (0) 0), (.ref 355), (.int (233) 0), (.int (0) 0), (.ref 362), (.int (238) 0), (.int (0) 0), (.ref 369)]⟩), ⟨[]⟩⟩
def o15_3 (P : Params) : Obj := ⟨(.type "tuple"), none, (.seq ⟨[(.type "ValueError")]⟩ 0), ⟨[]⟩⟩
def o16_3 (P : Params) : Obj := ⟨(.type "builtin_function_or_method"), none, (.fields ⟨[(.builtin "type.__prepare__"), (.type "type")]⟩), ⟨[]⟩⟩
def o17_3 (P : Params) : Obj := ⟨(.type "dict"), none, (.dict ⟨[en P "__module__" 196 (sv "watchedways.errors" 187), en P "__qualname__" 198 (sv "WayError" 197), en P "__firstlineno__" 200 (.int (2) 199), en P "__init__" 208 (.ref 28), en P "__static_attributes__" 210 (.ref 29)]⟩ 5), ⟨[]⟩⟩
def o18_3 (P : Params) : Obj := ⟨(.type "tuple"), none, (.seq ⟨[]⟩ 0), ⟨[]⟩⟩
def o19_3 (P : Params) : Obj := ⟨.none, none, (.fields ⟨[(.int (4) 0), (.int (4) 0), (.ref 27)]⟩), ⟨[]⟩⟩
def o20_3 (P : Params) : Obj := ⟨(.type "code"), none, (.fields ⟨[(sv "WayError" 191), (sv "WayError" 192), (sv "/claim/cut.py" 193), (.int (2) 0), (.int (0) 0), (.int (0) 0), (.int (0) 0), (.int (0) 0), (.ref 18), (.bool false), (.int (181) 0), (.ref 19), .none, .none, .none, .none, (.int (194) 0), (.int (2) 0), (sv "/claim/cut.py" 195)]⟩), ⟨[]⟩⟩
def o21_3 (P : Params) : Obj := ⟨(.type "frame"), none, .plain, ⟨[(some (.ref 20)), (some (.ref 3)), (some (.ref 17)), none, (some (sv "watchedways.errors" 187)), none, (some (.ref 0))]⟩⟩
def o22_3 (P : Params) : Obj := ⟨(.type "tuple"), none, (.seq ⟨[]⟩ 0), ⟨[]⟩⟩
def o23_3 (P : Params) : Obj := ⟨.none, none, (.fields ⟨[]⟩), ⟨[]⟩⟩
def o24_3 (P : Params) : Obj := ⟨(.type "tuple"), none, (.seq ⟨[(sv "self" 204), (sv "value" 205)]⟩ 0), ⟨[]⟩⟩
def o25_3 (P : Params) : Obj := ⟨(.type "tuple"), none, (.seq ⟨[]⟩ 0), ⟨[]⟩⟩
def o26_3 (P : Params) : Obj := ⟨.none, none, (.func ⟨(ns "__init__"), (ns "WayError.__init__"), defArgs (subS (top 1) 0), .stmts (defBody (subS (top 1) 0)), defScope (subS (top 1) 0), 0, [], .none, .none, .none, .none, none, .none, .none, 0⟩), ⟨[]⟩⟩
def o27_3 (P : Params) : Obj := ⟨(.type "code"), none, (.fields ⟨[(sv "__init__" 201), (sv "WayError.__init__" 202), (sv "/claim/cut.py" 203), (.int (4) 0), (.int (2) 0), (.int (0) 0), (.int (0) 0), (.int (3) 0), (.ref 22), (.bool true), (.int (181) 0), (.ref 23), .none, (.ref 24), (.ref 25), (.ref 26), (.int (206) 0), (.int (4) 0), (sv "/claim/cut.py" 207)]⟩), ⟨[]⟩⟩
def o28_3 (P : Params) : Obj := ⟨(.type "function"), none, (.func ⟨(ns "__init__"), (ns "WayError.__init__"), defArgs (subS (top 1) 0), .stmts (defBody (subS (top 1) 0)), defScope (subS (top 1) 0), 3, [], .none, .none, .none, (sv "watchedways.errors" 187), none, (.ref 27), .none, 0⟩), ⟨[]⟩⟩
def o29_3 (P : Params) : Obj := ⟨(.type "tuple"), none, (.seq ⟨[(sv "value" 209)]⟩ 0), ⟨[]⟩⟩
def o30_3 (P : Params) : Obj := ⟨(.type "dict"), none, (.dict ⟨[en P "__module__" 196 (sv "watchedways.errors" 187), en P "__firstlineno__" 200 (.int (2) 199), en P "__init__" 208 (.ref 28), en P "__static_attributes__" 210 (.ref 29), en P "__weakref__" 212 (.ref 32), en P "__doc__" 213 .none]⟩ 3), ⟨[]⟩⟩
def o31_3 (P : Params) : Obj := ⟨(.type "type"), none, (.cls ⟨(ns "WayError"), [(.type "ValueError")], [(.ref 31), (.type "ValueError"), (.type "Exception"), (.type "BaseException"), (.type "object")], 30, (ns "WayError"), true, [], [(.ref 44), (.ref 56), (.ref 75)], false, none, false⟩), ⟨[(some (.ref 15)), none, (some (sv "WayError" 189)), (some (sv "WayError" 197)), (some (.builtin "ValueError.__new__")), (some (.bool true))]⟩⟩
def o32_3 (P : Params) : Obj := ⟨(.type "getset_descriptor"), none, (.fields ⟨[(sv "__weakref__" 211), (.ref 31), (.builtin "ExceptionGroup.__weakref__"), .none]⟩), ⟨[]⟩⟩
def o33_3 (P : Params) : Obj := ⟨(.type "super"), none, (.fields ⟨[(.ref 31), (.ref 31), (.ref 31)]⟩), ⟨[]⟩⟩
def o34_3 (P : Params) : Obj := ⟨(.type "builtin_function_or_method"), none, (.fields ⟨[(.builtin "object.__init_subclass__"), (.ref 31)]⟩), ⟨[]⟩⟩
def o35_3 (P : Params) : Obj := ⟨(.type "tuple"), none, (.seq ⟨[(.ref 31)]⟩ 0), ⟨[]⟩⟩
def o36_3 (P : Params) : Obj := ⟨(.type "builtin_function_or_method"), none, (.fields ⟨[(.builtin "type.__prepare__"), (.type "type")]⟩), ⟨[]⟩⟩
def o37_3 (P : Params) : Obj := ⟨(.type "dict"), none, (.dict ⟨[en P "__module__" 223 (sv "watchedways.errors" 187), en P "__qualname__" 225 (sv "BadReckoning" 224), en P "__firstlineno__" 227 (.int (6) 226), en P "__static_attributes__" 228 (.ref 42)]⟩ 4), ⟨[]⟩⟩
def o38_3 (P : Params) : Obj := ⟨(.type "tuple"), none, (.seq ⟨[]⟩ 0), ⟨[]⟩⟩
def o39_3 (P : Params) : Obj := ⟨.none, none, (.fields ⟨[]⟩), ⟨[]⟩⟩
def o40_3 (P : Params) : Obj := ⟨(.type "code"), none, (.fields ⟨[(sv "BadReckoning" 218), (sv "BadReckoning" 219), (sv "/claim/cut.py" 220), (.int (6) 0), (.int (0) 0), (.int (0) 0), (.int (0) 0), (.int (0) 0), (.ref 38), (.bool false), (.int (181) 0), (.ref 39), .none, .none, .none, .none, (.int (221) 0), (.int (6) 0), (sv "/claim/cut.py" 222)]⟩), ⟨[]⟩⟩
def o41_3 (P : Params) : Obj := ⟨(.type "frame"), none, .plain, ⟨[(some (.ref 40)), (some (.ref 3)), (some (.ref 37)), none, (some (sv "watchedways.errors" 187)), none, (some (.ref 0))]⟩⟩
def o42_3 (P : Params) : Obj := ⟨(.type "tuple"), none, (.seq ⟨[]⟩ 0), ⟨[]⟩⟩
def o43_3 (P : Params) : Obj := ⟨(.type "dict"), none, (.dict ⟨[en P "__module__" 223 (sv "watchedways.errors" 187), en P "__firstlineno__" 227 (.int (6) 226), en P "__static_attributes__" 228 (.ref 42), en P "__doc__" 229 .none]⟩ 2), ⟨[]⟩⟩
def o44_3 (P : Params) : Obj := ⟨(.type "type"), none, (.cls ⟨(ns "BadReckoning"), [(.ref 31)], [(.ref 44), (.ref 31), (.type "ValueError"), (.type "Exception"), (.type "BaseException"), (.type "object")], 43, (ns "BadReckoning"), true, [], [], false, none, false⟩), ⟨[(some (.ref 35)), none, (some (sv "BadReckoning" 216)), (some (sv "BadReckoning" 224)), (some (.builtin "ValueError.__new__")), (some (.bool true))]⟩⟩
def o45_3 (P : Params) : Obj := ⟨(.type "super"), none, (.fields ⟨[(.ref 44), (.ref 44), (.ref 44)]⟩), ⟨[]⟩⟩
def o46_3 (P : Params) : Obj := ⟨(.type "builtin_function_or_method"), none, (.fields ⟨[(.builtin "object.__init_subclass__"), (.ref 44)]⟩), ⟨[]⟩⟩
def o47_3 (P : Params) : Obj := ⟨(.type "tuple"), none, (.seq ⟨[(.ref 31)]⟩ 0), ⟨[]⟩⟩
def o48_3 (P : Params) : Obj := ⟨(.type "builtin_function_or_method"), none, (.fields ⟨[(.builtin "type.__prepare__"), (.type "type")]⟩), ⟨[]⟩⟩
def o49_3 (P : Params) : Obj := ⟨(.type "dict"), none, (.dict ⟨[en P "__module__" 239 (sv "watchedways.errors" 187), en P "__qualname__" 241 (sv "BadWorth" 240), en P "__firstlineno__" 243 (.int (8) 242), en P "__static_attributes__" 244 (.ref 54)]⟩ 4), ⟨[]⟩⟩
def o50_3 (P : Params) : Obj := ⟨(.type "tuple"), none, (.seq ⟨[]⟩ 0), ⟨[]⟩⟩
def o51_3 (P : Params) : Obj := ⟨.none, none, (.fields ⟨[]⟩), ⟨[]⟩⟩
def o52_3 (P : Params) : Obj := ⟨(.type "code"), none, (.fields ⟨[(sv "BadWorth" 234), (sv "BadWorth" 235), (sv "/claim/cut.py" 236), (.int (8) 0), (.int (0) 0), (.int (0) 0), (.int (0) 0), (.int (0) 0), (.ref 50), (.bool false), (.int (181) 0), (.ref 51), .none, .none, .none, .none, (.int (237) 0), (.int (8) 0), (sv "/claim/cut.py" 238)]⟩), ⟨[]⟩⟩
def o53_3 (P : Params) : Obj := ⟨(.type "frame"), none, .plain, ⟨[(some (.ref 52)), (some (.ref 3)), (some (.ref 49)), none, (some (sv "watchedways.errors" 187)), none, (some (.ref 0))]⟩⟩
def o54_3 (P : Params) : Obj := ⟨(.type "tuple"), none, (.seq ⟨[]⟩ 0), ⟨[]⟩⟩
def o55_3 (P : Params) : Obj := ⟨(.type "dict"), none, (.dict ⟨[en P "__module__" 239 (sv "watchedways.errors" 187), en P "__firstlineno__" 243 (.int (8) 242), en P "__static_attributes__" 244 (.ref 54), en P "__doc__" 245 .none]⟩ 2), ⟨[]⟩⟩
def o56_3 (P : Params) : Obj := ⟨(.type "type"), none, (.cls ⟨(ns "BadWorth"), [(.ref 31)], [(.ref 56), (.ref 31), (.type "ValueError"), (.type "Exception"), (.type "BaseException"), (.type "object")], 55, (ns "BadWorth"), true, [], [], false, none, false⟩), ⟨[(some (.ref 47)), none, (some (sv "BadWorth" 232)), (some (sv "BadWorth" 240)), (some (.builtin "ValueError.__new__")), (some (.bool true))]⟩⟩
def o57_3 (P : Params) : Obj := ⟨(.type "super"), none, (.fields ⟨[(.ref 56), (.ref 56), (.ref 56)]⟩), ⟨[]⟩⟩
def o58_3 (P : Params) : Obj := ⟨(.type "builtin_function_or_method"), none, (.fields ⟨[(.builtin "object.__init_subclass__"), (.ref 56)]⟩), ⟨[]⟩⟩
def o59_3 (P : Params) : Obj := ⟨(.type "tuple"), none, (.seq ⟨[(.ref 31)]⟩ 0), ⟨[]⟩⟩
def o60_3 (P : Params) : Obj := ⟨(.type "builtin_function_or_method"), none, (.fields ⟨[(.builtin "type.__prepare__"), (.type "type")]⟩), ⟨[]⟩⟩
def o61_3 (P : Params) : Obj := ⟨(.type "dict"), none, (.dict ⟨[en P "__module__" 255 (sv "watchedways.errors" 187), en P "__qualname__" 257 (sv "TooMany" 256), en P "__firstlineno__" 259 (.int (10) 258), en P "__init__" 266 (.ref 72), en P "__static_attributes__" 267 (.ref 73)]⟩ 5), ⟨[]⟩⟩
def o62_3 (P : Params) : Obj := ⟨(.type "tuple"), none, (.seq ⟨[]⟩ 0), ⟨[]⟩⟩
def o63_3 (P : Params) : Obj := ⟨.none, none, (.fields ⟨[(.int (12) 0), (.int (4) 0), (.ref 71)]⟩), ⟨[]⟩⟩
def o64_3 (P : Params) : Obj := ⟨(.type "code"), none, (.fields ⟨[(sv "TooMany" 250), (sv "TooMany" 251), (sv "/claim/cut.py" 252), (.int (10) 0), (.int (0) 0), (.int (0) 0), (.int (0) 0), (.int (0) 0), (.ref 62), (.bool false), (.int (181) 0), (.ref 63), .none, .none, .none, .none, (.int (253) 0), (.int (10) 0), (sv "/claim/cut.py" 254)]⟩), ⟨[]⟩⟩
def o65_3 (P : Params) : Obj := ⟨(.type "frame"), none, .plain, ⟨[(some (.ref 64)), (some (.ref 3)), (some (.ref 61)), none, (some (sv "watchedways.errors" 187)), none, (some (.ref 0))]⟩⟩
def o66_3 (P : Params) : Obj := ⟨(.type "tuple"), none, (.seq ⟨[]⟩ 0), ⟨[]⟩⟩
def o67_3 (P : Params) : Obj := ⟨.none, none, (.fields ⟨[]⟩), ⟨[]⟩⟩
def o68_3 (P : Params) : Obj := ⟨(.type "tuple"), none, (.seq ⟨[(sv "self" 263)]⟩ 0), ⟨[]⟩⟩
def o69_3 (P : Params) : Obj := ⟨(.type "tuple"), none, (.seq ⟨[]⟩ 0), ⟨[]⟩⟩
def o70_3 (P : Params) : Obj := ⟨.none, none, (.func ⟨(ns "__init__"), (ns "TooMany.__init__"), defArgs (subS (top 4) 0), .stmts (defBody (subS (top 4) 0)), defScope (subS (top 4) 0), 0, [], .none, .none, .none, .none, none, .none, .none, 0⟩), ⟨[]⟩⟩
def o71_3 (P : Params) : Obj := ⟨(.type "code"), none, (.fields ⟨[(sv "__init__" 260), (sv "TooMany.__init__" 261), (sv "/claim/cut.py" 262), (.int (12) 0), (.int (1) 0), (.int (0) 0), (.int (0) 0), (.int (3) 0), (.ref 66), (.bool true), (.int (181) 0), (.ref 67), .none, (.ref 68), (.ref 69), (.ref 70), (.int (264) 0), (.int (12) 0), (sv "/claim/cut.py" 265)]⟩), ⟨[]⟩⟩
def o72_3 (P : Params) : Obj := ⟨(.type "function"), none, (.func ⟨(ns "__init__"), (ns "TooMany.__init__"), defArgs (subS (top 4) 0), .stmts (defBody (subS (top 4) 0)), defScope (subS (top 4) 0), 3, [], .none, .none, .none, (sv "watchedways.errors" 187), none, (.ref 71), .none, 0⟩), ⟨[]⟩⟩
def o73_3 (P : Params) : Obj := ⟨(.type "tuple"), none, (.seq ⟨[]⟩ 0), ⟨[]⟩⟩
def o74_3 (P : Params) : Obj := ⟨(.type "dict"), none, (.dict ⟨[en P "__module__" 255 (sv "watchedways.errors" 187), en P "__firstlineno__" 259 (.int (10) 258), en P "__init__" 266 (.ref 72), en P "__static_attributes__" 267 (.ref 73), en P "__doc__" 268 .none]⟩ 2), ⟨[]⟩⟩
def o75_3 (P : Params) : Obj := ⟨(.type "type"), none, (.cls ⟨(ns "TooMany"), [(.ref 31)], [(.ref 75), (.ref 31), (.type "ValueError"), (.type "Exception"), (.type "BaseException"), (.type "object")], 74, (ns "TooMany"), true, [], [], false, none, false⟩), ⟨[(some (.ref 59)), none, (some (sv "TooMany" 248)), (some (sv "TooMany" 256)), (some (.builtin "ValueError.__new__")), (some (.bool true))]⟩⟩
def o76_3 (P : Params) : Obj := ⟨(.type "super"), none, (.fields ⟨[(.ref 75), (.ref 75), (.ref 75)]⟩), ⟨[]⟩⟩
def o77_3 (P : Params) : Obj := ⟨(.type "builtin_function_or_method"), none, (.fields ⟨[(.builtin "object.__init_subclass__"), (.ref 75)]⟩), ⟨[]⟩⟩
def o78_3 (P : Params) : Obj := ⟨(.type "tuple"), none, (.seq ⟨[]⟩ 0), ⟨[]⟩⟩
def o79_3 (P : Params) : Obj := ⟨.none, none, (.fields ⟨[]⟩), ⟨[]⟩⟩
def o80_3 (P : Params) : Obj := ⟨(.type "tuple"), none, (.seq ⟨[(sv "thing" 276)]⟩ 0), ⟨[]⟩⟩
def o81_3 (P : Params) : Obj := ⟨(.type "tuple"), none, (.seq ⟨[]⟩ 0), ⟨[]⟩⟩
def o82_3 (P : Params) : Obj := ⟨.none, none, (.func ⟨(ns "is_integer"), (ns "is_integer"), defArgs (top 6), .stmts (defBody (top 6)), defScope (top 6), 0, [], .none, .none, .none, .none, none, .none, .none, 0⟩), ⟨[]⟩⟩
def o83_3 (P : Params) : Obj := ⟨(.type "code"), none, (.fields ⟨[(sv "is_integer" 273), (sv "is_integer" 274), (sv "/claim/cut.py" 275), (.int (15) 0), (.int (1) 0), (.int (0) 0), (.int (0) 0), (.int (3) 0), (.ref 78), (.bool true), (.int (181) 0), (.ref 79), .none, (.ref 80), (.ref 81), (.ref 82), (.int (277) 0), (.int (15) 0), (sv "/claim/cut.py" 278)]⟩), ⟨[]⟩⟩
def o84_3 (P : Params) : Obj := ⟨(.type "function"), none, (.func ⟨(ns "is_integer"), (ns "is_integer"), defArgs (top 6), .stmts (defBody (top 6)), defScope (top 6), 3, [], .none, .none, .none, (sv "watchedways.kinds" 271), none, (.ref 83), .none, 0⟩), ⟨[]⟩⟩
def o85_3 (P : Params) : Obj := ⟨(.type "tuple"), none, (.seq ⟨[]⟩ 0), ⟨[]⟩⟩
def o86_3 (P : Params) : Obj := ⟨.none, none, (.fields ⟨[]⟩), ⟨[]⟩⟩
def o87_3 (P : Params) : Obj := ⟨(.type "tuple"), none, (.seq ⟨[(sv "thing" 283)]⟩ 0), ⟨[]⟩⟩
def o88_3 (P : Params) : Obj := ⟨(.type "tuple"), none, (.seq ⟨[]⟩ 0), ⟨[]⟩⟩
def o89_3 (P : Params) : Obj := ⟨.none, none, (.func ⟨(ns "is_row"), (ns "is_row"), defArgs (top 7), .stmts (defBody (top 7)), defScope (top 7), 0, [], .none, .none, .none, .none, none, .none, .none, 0⟩), ⟨[]⟩⟩
def o90_3 (P : Params) : Obj := ⟨(.type "code"), none, (.fields ⟨[(sv "is_row" 280), (sv "is_row" 281), (sv "/claim/cut.py" 282), (.int (17) 0), (.int (1) 0), (.int (0) 0), (.int (0) 0), (.int (3) 0), (.ref 85), (.bool true), (.int (181) 0), (.ref 86), .none, (.ref 87), (.ref 88), (.ref 89), (.int (284) 0), (.int (17) 0), (sv "/claim/cut.py" 285)]⟩), ⟨[]⟩⟩
def o91_3 (P : Params) : Obj := ⟨(.type "function"), none, (.func ⟨(ns "is_row"), (ns "is_row"), defArgs (top 7), .stmts (defBody (top 7)), defScope (top 7), 3, [], .none, .none, .none, (sv "watchedways.kinds" 271), none, (.ref 90), .none, 0⟩), ⟨[]⟩⟩
def o92_3 (P : Params) : Obj := ⟨(.type "tuple"), none, (.seq ⟨[]⟩ 0), ⟨[]⟩⟩
def o93_3 (P : Params) : Obj := ⟨.none, none, (.fields ⟨[]⟩), ⟨[]⟩⟩
def o94_3 (P : Params) : Obj := ⟨(.type "tuple"), none, (.seq ⟨[(sv "joins" 296), (sv "products" 297), (sv "none" 298), (sv "one" 299)]⟩ 0), ⟨[]⟩⟩
def o95_3 (P : Params) : Obj := ⟨(.type "tuple"), none, (.seq ⟨[]⟩ 0), ⟨[]⟩⟩
def o96_3 (P : Params) : Obj := ⟨.none, none, (.func ⟨(ns "first_fault"), (ns "first_fault"), defArgs (top 11), .stmts (defBody (top 11)), defScope (top 11), 0, [], .none, .none, .none, .none, none, .none, .none, 0⟩), ⟨[]⟩⟩
def o97_3 (P : Params) : Obj := ⟨(.type "code"), none, (.fields ⟨[(sv "first_fault" 293), (sv "first_fault" 294), (sv "/claim/cut.py" 295), (.int (22) 0), (.int (4) 0), (.int (0) 0), (.int (0) 0), (.int (3) 0), (.ref 92), (.bool true), (.int (181) 0), (.ref 93), .none, (.ref 94), (.ref 95), (.ref 96), (.int (300) 0), (.int (22) 0), (sv "/claim/cut.py" 301)]⟩), ⟨[]⟩⟩
def o98_3 (P : Params) : Obj := ⟨(.type "function"), none, (.func ⟨(ns "first_fault"), (ns "first_fault"), defArgs (top 11), .stmts (defBody (top 11)), defScope (top 11), 3, [], .none, .none, .none, (sv "watchedways.faults" 287), none, (.ref 97), .none, 0⟩), ⟨[]⟩⟩
def o99_3 (P : Params) : Obj := ⟨(.type "tuple"), none, (.seq ⟨[]⟩ 0), ⟨[]⟩⟩
def o100_3 (P : Params) : Obj := ⟨.none, none, (.fields ⟨[]⟩), ⟨[]⟩⟩
def o101_3 (P : Params) : Obj := ⟨(.type "tuple"), none, (.seq ⟨[(sv "joins" 306), (sv "products" 307), (sv "none" 308), (sv "one" 309), (sv "many" 310)]⟩ 0), ⟨[]⟩⟩
def o102_3 (P : Params) : Obj := ⟨(.type "tuple"), none, (.seq ⟨[]⟩ 0), ⟨[]⟩⟩
def o103_3 (P : Params) : Obj := ⟨.none, none, (.func ⟨(ns "size_fault"), (ns "size_fault"), defArgs (top 12), .stmts (defBody (top 12)), defScope (top 12), 0, [], .none, .none, .none, .none, none, .none, .none, 0⟩), ⟨[]⟩⟩
def o104_3 (P : Params) : Obj := ⟨(.type "code"), none, (.fields ⟨[(sv "size_fault" 303), (sv "size_fault" 304), (sv "/claim/cut.py" 305), (.int (24) 0), (.int (4) 0), (.int (0) 0), (.int (0) 0), (.int (3) 0), (.ref 99), (.bool true), (.int (181) 0), (.ref 100), .none, (.ref 101), (.ref 102), (.ref 103), (.int (311) 0), (.int (24) 0), (sv "/claim/cut.py" 312)]⟩), ⟨[]⟩⟩
def o105_3 (P : Params) : Obj := ⟨(.type "function"), none, (.func ⟨(ns "size_fault"), (ns "size_fault"), defArgs (top 12), .stmts (defBody (top 12)), defScope (top 12), 3, [], .none, .none, .none, (sv "watchedways.faults" 287), none, (.ref 104), .none, 0⟩), ⟨[]⟩⟩
def o106_3 (P : Params) : Obj := ⟨(.type "tuple"), none, (.seq ⟨[]⟩ 0), ⟨[]⟩⟩
def o107_3 (P : Params) : Obj := ⟨.none, none, (.fields ⟨[]⟩), ⟨[]⟩⟩
def o108_3 (P : Params) : Obj := ⟨.none, none, (.func ⟨(ns "is_square"), (ns "is_square"), defArgs (top 13), .stmts (defBody (top 13)), defScope (top 13), 0, [], .none, .none, .none, .none, none, .none, .none, 0⟩), ⟨[]⟩⟩
def o109_3 (P : Params) : Obj := ⟨(.type "code"), none, (.fields ⟨[(sv "is_square" 314), (sv "is_square" 315), (sv "/claim/cut.py" 316), (.int (33) 0), (.int (2) 0), (.int (0) 0), (.int (0) 0), (.int (3) 0), (.ref 106), (.bool true), (.int (181) 0), (.ref 107), .none, .none, .none, (.ref 108), (.int (317) 0), (.int (33) 0), (sv "/claim/cut.py" 318)]⟩), ⟨[]⟩⟩
def o110_3 (P : Params) : Obj := ⟨(.type "function"), none, (.func ⟨(ns "is_square"), (ns "is_square"), defArgs (top 13), .stmts (defBody (top 13)), defScope (top 13), 3, [], .none, .none, .none, (sv "watchedways.faults" 287), none, (.ref 109), .none, 0⟩), ⟨[]⟩⟩
def o111_3 (P : Params) : Obj := ⟨(.type "tuple"), none, (.seq ⟨[]⟩ 0), ⟨[]⟩⟩
def o112_3 (P : Params) : Obj := ⟨.none, none, (.fields ⟨[]⟩), ⟨[]⟩⟩
def o113_3 (P : Params) : Obj := ⟨.none, none, (.func ⟨(ns "is_side"), (ns "is_side"), defArgs (top 14), .stmts (defBody (top 14)), defScope (top 14), 0, [], .none, .none, .none, .none, none, .none, .none, 0⟩), ⟨[]⟩⟩
def o114_3 (P : Params) : Obj := ⟨(.type "code"), none, (.fields ⟨[(sv "is_side" 320), (sv "is_side" 321), (sv "/claim/cut.py" 322), (.int (35) 0), (.int (2) 0), (.int (0) 0), (.int (0) 0), (.int (3) 0), (.ref 111), (.bool true), (.int (181) 0), (.ref 112), .none, .none, .none, (.ref 113), (.int (323) 0), (.int (35) 0), (sv "/claim/cut.py" 324)]⟩), ⟨[]⟩⟩
def o115_3 (P : Params) : Obj := ⟨(.type "function"), none, (.func ⟨(ns "is_side"), (ns "is_side"), defArgs (top 14), .stmts (defBody (top 14)), defScope (top 14), 3, [], .none, .none, .none, (sv "watchedways.faults" 287), none, (.ref 114), .none, 0⟩), ⟨[]⟩⟩
def o116_3 (P : Params) : Obj := ⟨(.type "tuple"), none, (.seq ⟨[]⟩ 0), ⟨[]⟩⟩
def o117_3 (P : Params) : Obj := ⟨.none, none, (.fields ⟨[]⟩), ⟨[]⟩⟩
def o118_3 (P : Params) : Obj := ⟨(.type "tuple"), none, (.seq ⟨[(sv "many" 329), (sv "thing" 330)]⟩ 0), ⟨[]⟩⟩
def o119_3 (P : Params) : Obj := ⟨(.type "tuple"), none, (.seq ⟨[]⟩ 0), ⟨[]⟩⟩
def o120_3 (P : Params) : Obj := ⟨.none, none, (.func ⟨(ns "is_below"), (ns "is_below"), defArgs (top 15), .stmts (defBody (top 15)), defScope (top 15), 0, [], .none, .none, .none, .none, none, .none, .none, 0⟩), ⟨[]⟩⟩
def o121_3 (P : Params) : Obj := ⟨(.type "code"), none, (.fields ⟨[(sv "is_below" 326), (sv "is_below" 327), (sv "/claim/cut.py" 328), (.int (37) 0), (.int (2) 0), (.int (0) 0), (.int (0) 0), (.int (3) 0), (.ref 116), (.bool true), (.int (181) 0), (.ref 117), .none, (.ref 118), (.ref 119), (.ref 120), (.int (331) 0), (.int (37) 0), (sv "/claim/cut.py" 332)]⟩), ⟨[]⟩⟩
def o122_3 (P : Params) : Obj := ⟨(.type "function"), none, (.func ⟨(ns "is_below"), (ns "is_below"), defArgs (top 15), .stmts (defBody (top 15)), defScope (top 15), 3, [], .none, .none, .none, (sv "watchedways.faults" 287), none, (.ref 121), .none, 0⟩), ⟨[]⟩⟩
def o123_3 (P : Params) : Obj := ⟨(.type "tuple"), none, (.seq ⟨[]⟩ 0), ⟨[]⟩⟩
def o124_3 (P : Params) : Obj := ⟨.none, none, (.fields ⟨[]⟩), ⟨[]⟩⟩
def o125_3 (P : Params) : Obj := ⟨(.type "tuple"), none, (.seq ⟨[(sv "joins" 337), (sv "products" 338), (sv "none" 339), (sv "a" 340)]⟩ 0), ⟨[]⟩⟩
def o126_3 (P : Params) : Obj := ⟨(.type "tuple"), none, (.seq ⟨[]⟩ 0), ⟨[]⟩⟩
def o127_3 (P : Params) : Obj := ⟨.none, none, (.func ⟨(ns "none_fault"), (ns "none_fault"), defArgs (top 16), .stmts (defBody (top 16)), defScope (top 16), 0, [], .none, .none, .none, .none, none, .none, .none, 0⟩), ⟨[]⟩⟩
def o128_3 (P : Params) : Obj := ⟨(.type "code"), none, (.fields ⟨[(sv "none_fault" 334), (sv "none_fault" 335), (sv "/claim/cut.py" 336), (.int (39) 0), (.int (3) 0), (.int (0) 0), (.int (0) 0), (.int (3) 0), (.ref 123), (.bool true), (.int (181) 0), (.ref 124), .none, (.ref 125), (.ref 126), (.ref 127), (.int (341) 0), (.int (39) 0), (sv "/claim/cut.py" 342)]⟩), ⟨[]⟩⟩
def o129_3 (P : Params) : Obj := ⟨(.type "function"), none, (.func ⟨(ns "none_fault"), (ns "none_fault"), defArgs (top 16), .stmts (defBody (top 16)), defScope (top 16), 3, [], .none, .none, .none, (sv "watchedways.faults" 287), none, (.ref 128), .none, 0⟩), ⟨[]⟩⟩
def o130_3 (P : Params) : Obj := ⟨(.type "tuple"), none, (.seq ⟨[]⟩ 0), ⟨[]⟩⟩
def o131_3 (P : Params) : Obj := ⟨.none, none, (.fields ⟨[]⟩), ⟨[]⟩⟩
def o132_3 (P : Params) : Obj := ⟨(.type "tuple"), none, (.seq ⟨[(sv "products" 347), (sv "one" 348), (sv "a" 349)]⟩ 0), ⟨[]⟩⟩
def o133_3 (P : Params) : Obj := ⟨(.type "tuple"), none, (.seq ⟨[]⟩ 0), ⟨[]⟩⟩
def o134_3 (P : Params) : Obj := ⟨.none, none, (.func ⟨(ns "one_fault"), (ns "one_fault"), defArgs (top 17), .stmts (defBody (top 17)), defScope (top 17), 0, [], .none, .none, .none, .none, none, .none, .none, 0⟩), ⟨[]⟩⟩
def o135_3 (P : Params) : Obj := ⟨(.type "code"), none, (.fields ⟨[(sv "one_fault" 344), (sv "one_fault" 345), (sv "/claim/cut.py" 346), (.int (46) 0), (.int (2) 0), (.int (0) 0), (.int (0) 0), (.int (3) 0), (.ref 130), (.bool true), (.int (181) 0), (.ref 131), .none, (.ref 132), (.ref 133), (.ref 134), (.int (350) 0), (.int (46) 0), (sv "/claim/cut.py" 351)]⟩), ⟨[]⟩⟩
def o136_3 (P : Params) : Obj := ⟨(.type "function"), none, (.func ⟨(ns "one_fault"), (ns "one_fault"), defArgs (top 17), .stmts (defBody (top 17)), defScope (top 17), 3, [], .none, .none, .none, (sv "watchedways.faults" 287), none, (.ref 135), .none, 0⟩), ⟨[]⟩⟩
def o137_3 (P : Params) : Obj := ⟨(.type "tuple"), none, (.seq ⟨[]⟩ 0), ⟨[]⟩⟩
def o138_3 (P : Params) : Obj := ⟨.none, none, (.fields ⟨[]⟩), ⟨[]⟩⟩
def o139_3 (P : Params) : Obj := ⟨(.type "tuple"), none, (.seq ⟨[(sv "joins" 356), (sv "a" 357)]⟩ 0), ⟨[]⟩⟩
def o140_3 (P : Params) : Obj := ⟨(.type "tuple"), none, (.seq ⟨[]⟩ 0), ⟨[]⟩⟩
def o141_3 (P : Params) : Obj := ⟨.none, none, (.func ⟨(ns "idle_fault"), (ns "idle_fault"), defArgs (top 18), .stmts (defBody (top 18)), defScope (top 18), 0, [], .none, .none, .none, .none, none, .none, .none, 0⟩), ⟨[]⟩⟩
def o142_3 (P : Params) : Obj := ⟨(.type "code"), none, (.fields ⟨[(sv "idle_fault" 353), (sv "idle_fault" 354), (sv "/claim/cut.py" 355), (.int (51) 0), (.int (1) 0), (.int (0) 0), (.int (0) 0), (.int (3) 0), (.ref 137), (.bool true), (.int (181) 0), (.ref 138), .none, (.ref 139), (.ref 140), (.ref 141), (.int (358) 0), (.int (51) 0), (sv "/claim/cut.py" 359)]⟩), ⟨[]⟩⟩
def o143_3 (P : Params) : Obj := ⟨(.type "function"), none, (.func ⟨(ns "idle_fault"), (ns "idle_fault"), defArgs (top 18), .stmts (defBody (top 18)), defScope (top 18), 3, [], .none, .none, .none, (sv "watchedways.faults" 287), none, (.ref 142), .none, 0⟩), ⟨[]⟩⟩
def o144_3 (P : Params) : Obj := ⟨(.type "tuple"), none, (.seq ⟨[]⟩ 0), ⟨[]⟩⟩
def o145_3 (P : Params) : Obj := ⟨.none, none, (.fields ⟨[]⟩), ⟨[]⟩⟩
def o146_3 (P : Params) : Obj := ⟨(.type "tuple"), none, (.seq ⟨[(sv "joins" 364), (sv "a" 365), (sv "b" 366)]⟩ 0), ⟨[]⟩⟩
def o147_3 (P : Params) : Obj := ⟨(.type "tuple"), none, (.seq ⟨[]⟩ 0), ⟨[]⟩⟩
def o148_3 (P : Params) : Obj := ⟨.none, none, (.func ⟨(ns "swap_fault"), (ns "swap_fault"), defArgs (top 19), .stmts (defBody (top 19)), defScope (top 19), 0, [], .none, .none, .none, .none, none, .none, .none, 0⟩), ⟨[]⟩⟩
def o149_3 (P : Params) : Obj := ⟨(.type "code"), none, (.fields ⟨[(sv "swap_fault" 361), (sv "swap_fault" 362), (sv "/claim/cut.py" 363), (.int (56) 0), (.int (1) 0), (.int (0) 0), (.int (0) 0), (.int (3) 0), (.ref 144), (.bool true), (.int (181) 0), (.ref 145), .none, (.ref 146), (.ref 147), (.ref 148), (.int (367) 0), (.int (56) 0), (sv "/claim/cut.py" 368)]⟩), ⟨[]⟩⟩
def o150_3 (P : Params) : Obj := ⟨(.type "function"), none, (.func ⟨(ns "swap_fault"), (ns "swap_fault"), defArgs (top 19), .stmts (defBody (top 19)), defScope (top 19), 3, [], .none, .none, .none, (sv "watchedways.faults" 287), none, (.ref 149), .none, 0⟩), ⟨[]⟩⟩
def o151_3 (P : Params) : Obj := ⟨(.type "tuple"), none, (.seq ⟨[]⟩ 0), ⟨[]⟩⟩
def o152_3 (P : Params) : Obj := ⟨.none, none, (.fields ⟨[]⟩), ⟨[]⟩⟩
def o153_3 (P : Params) : Obj := ⟨(.type "tuple"), none, (.seq ⟨[(sv "word" 373), (sv "table" 374), (sv "worths" 375), (sv "a" 376), (sv "b" 377), (sv "c" 378)]⟩ 0), ⟨[]⟩⟩
def o154_3 (P : Params) : Obj := ⟨(.type "tuple"), none, (.seq ⟨[]⟩ 0), ⟨[]⟩⟩
def o155_3 (P : Params) : Obj := ⟨.none, none, (.func ⟨(ns "grouping_fault"), (ns "grouping_fault"), defArgs (top 20), .stmts (defBody (top 20)), defScope (top 20), 0, [], .none, .none, .none, .none, none, .none, .none, 0⟩), ⟨[]⟩⟩
def o156_3 (P : Params) : Obj := ⟨(.type "code"), none, (.fields ⟨[(sv "grouping_fault" 370), (sv "grouping_fault" 371), (sv "/claim/cut.py" 372), (.int (62) 0), (.int (2) 0), (.int (0) 0), (.int (0) 0), (.int (3) 0), (.ref 151), (.bool true), (.int (181) 0), (.ref 152), .none, (.ref 153), (.ref 154), (.ref 155), (.int (379) 0), (.int (62) 0), (sv "/claim/cut.py" 380)]⟩), ⟨[]⟩⟩
def o157_3 (P : Params) : Obj := ⟨(.type "function"), none, (.func ⟨(ns "grouping_fault"), (ns "grouping_fault"), defArgs (top 20), .stmts (defBody (top 20)), defScope (top 20), 3, [], .none, .none, .none, (sv "watchedways.faults" 287), none, (.ref 156), .none, 0⟩), ⟨[]⟩⟩
def o158_3 (P : Params) : Obj := ⟨(.type "tuple"), none, (.seq ⟨[]⟩ 0), ⟨[]⟩⟩
def o159_3 (P : Params) : Obj := ⟨.none, none, (.fields ⟨[]⟩), ⟨[]⟩⟩
def o160_3 (P : Params) : Obj := ⟨(.type "tuple"), none, (.seq ⟨[(sv "joins" 385), (sv "products" 386), (sv "worths" 387), (sv "a" 388), (sv "b" 389), (sv "c" 390), (sv "joined" 391)]⟩ 0), ⟨[]⟩⟩
def o161_3 (P : Params) : Obj := ⟨(.type "tuple"), none, (.seq ⟨[]⟩ 0), ⟨[]⟩⟩
def o162_3 (P : Params) : Obj := ⟨.none, none, (.func ⟨(ns "over_fault"), (ns "over_fault"), defArgs (top 21), .stmts (defBody (top 21)), defScope (top 21), 0, [], .none, .none, .none, .none, none, .none, .none, 0⟩), ⟨[]⟩⟩
def o163_3 (P : Params) : Obj := ⟨(.type "code"), none, (.fields ⟨[(sv "over_fault" 382), (sv "over_fault" 383), (sv "/claim/cut.py" 384), (.int (70) 0), (.int (2) 0), (.int (0) 0), (.int (0) 0), (.int (3) 0), (.ref 158), (.bool true), (.int (181) 0), (.ref 159), .none, (.ref 160), (.ref 161), (.ref 162), (.int (392) 0), (.int (70) 0), (sv "/claim/cut.py" 393)]⟩), ⟨[]⟩⟩
def o164_3 (P : Params) : Obj := ⟨(.type "function"), none, (.func ⟨(ns "over_fault"), (ns "over_fault"), defArgs (top 21), .stmts (defBody (top 21)), defScope (top 21), 3, [], .none, .none, .none, (sv "watchedways.faults" 287), none, (.ref 163), .none, 0⟩), ⟨[]⟩⟩
def o165_3 (P : Params) : Obj := ⟨(.type "tuple"), none, (.seq ⟨[]⟩ 0), ⟨[]⟩⟩
def o166_3 (P : Params) : Obj := ⟨.none, none, (.fields ⟨[]⟩), ⟨[]⟩⟩
def o167_3 (P : Params) : Obj := ⟨(.type "tuple"), none, (.seq ⟨[(sv "none" 398), (sv "one" 399)]⟩ 0), ⟨[]⟩⟩
def o168_3 (P : Params) : Obj := ⟨(.type "tuple"), none, (.seq ⟨[]⟩ 0), ⟨[]⟩⟩
def o169_3 (P : Params) : Obj := ⟨.none, none, (.func ⟨(ns "same_fault"), (ns "same_fault"), defArgs (top 22), .stmts (defBody (top 22)), defScope (top 22), 0, [], .none, .none, .none, .none, none, .none, .none, 0⟩), ⟨[]⟩⟩
def o170_3 (P : Params) : Obj := ⟨(.type "code"), none, (.fields ⟨[(sv "same_fault" 395), (sv "same_fault" 396), (sv "/claim/cut.py" 397), (.int (81) 0), (.int (2) 0), (.int (0) 0), (.int (0) 0), (.int (3) 0), (.ref 165), (.bool true), (.int (181) 0), (.ref 166), .none, (.ref 167), (.ref 168), (.ref 169), (.int (400) 0), (.int (81) 0), (sv "/claim/cut.py" 401)]⟩), ⟨[]⟩⟩
def o171_3 (P : Params) : Obj := ⟨(.type "function"), none, (.func ⟨(ns "same_fault"), (ns "same_fault"), defArgs (top 22), .stmts (defBody (top 22)), defScope (top 22), 3, [], .none, .none, .none, (sv "watchedways.faults" 287), none, (.ref 170), .none, 0⟩), ⟨[]⟩⟩
def o172_3 (P : Params) : Obj := ⟨(.type "tuple"), none, (.seq ⟨[]⟩ 0), ⟨[]⟩⟩
def o173_3 (P : Params) : Obj := ⟨.none, none, (.fields ⟨[]⟩), ⟨[]⟩⟩
def o174_3 (P : Params) : Obj := ⟨(.type "tuple"), none, (.seq ⟨[(sv "reckoning" 408), (sv "first" 409), (sv "second" 410), (sv "thing" 411)]⟩ 0), ⟨[]⟩⟩
def o175_3 (P : Params) : Obj := ⟨(.type "tuple"), none, (.seq ⟨[]⟩ 0), ⟨[]⟩⟩
def o176_3 (P : Params) : Obj := ⟨.none, none, (.func ⟨(ns "check_worths"), (ns "check_worths"), defArgs (top 24), .stmts (defBody (top 24)), defScope (top 24), 0, [], .none, .none, .none, .none, none, .none, .none, 0⟩), ⟨[]⟩⟩
def o177_3 (P : Params) : Obj := ⟨(.type "code"), none, (.fields ⟨[(sv "check_worths" 405), (sv "check_worths" 406), (sv "/claim/cut.py" 407), (.int (84) 0), (.int (3) 0), (.int (0) 0), (.int (0) 0), (.int (3) 0), (.ref 172), (.bool true), (.int (181) 0), (.ref 173), .none, (.ref 174), (.ref 175), (.ref 176), (.int (412) 0), (.int (84) 0), (sv "/claim/cut.py" 413)]⟩), ⟨[]⟩⟩
def o178_3 (P : Params) : Obj := ⟨(.type "function"), none, (.func ⟨(ns "check_worths"), (ns "check_worths"), defArgs (top 24), .stmts (defBody (top 24)), defScope (top 24), 3, [], .none, .none, .none, (sv "watchedways.worths" 403), none, (.ref 177), .none, 0⟩), ⟨[]⟩⟩
def o179_3 (P : Params) : Obj := ⟨(.type "tuple"), none, (.seq ⟨[]⟩ 0), ⟨[]⟩⟩
def o180_3 (P : Params) : Obj := ⟨(.type "builtin_function_or_method"), none, (.fields ⟨[(.builtin "type.__prepare__"), (.type "type")]⟩), ⟨[]⟩⟩
def o181_3 (P : Params) : Obj := ⟨(.type "dict"), none, (.dict ⟨[en P "__module__" 424 (sv "watchedways.reckonings" 415), en P "__qualname__" 426 (sv "Reckoning" 425), en P "__firstlineno__" 428 (.int (89) 427), en P "__init__" 434 (.ref 190), en P "__eq__" 442 (.ref 197), en P "is_worth" 450 (.ref 204), en P "beneath" 459 (.ref 211), en P "join" 468 (.ref 218), en P "times" 477 (.ref 225), en P "meet" 486 (.ref 232), en P "greatest" 493 (.ref 239), en P "left" 502 (.ref 246), en P "right" 511 (.ref 253), en P "_joined" 521 (.ref 260), en P "_meet" 527 (.ref 265), en P "_left" 533 (.ref 270), en P "_right" 539 (.ref 275), en P "__static_attributes__" 547 (.ref 276)]⟩ 18), ⟨[]⟩⟩
def o182_3 (P : Params) : Obj := ⟨(.type "tuple"), none, (.seq ⟨[]⟩ 0), ⟨[]⟩⟩
def o183_3 (P : Params) : Obj := ⟨.none, none, (.fields ⟨[(.int (91) 0), (.int (4) 0), (.ref 189), (.int (104) 0), (.int (4) 0), (.ref 196), (.int (111) 0), (.int (4) 0), (.ref 203), (.int (114) 0), (.int (4) 0), (.ref 210), (.int (118) 0), (.int (4) 0), (.ref 217), (.int (122) 0), (.int (4) 0), (.ref 224), (.int (126) 0), (.int (4) 0), (.ref 231), (.int (130) 0), (.int (4) 0), (.ref 238), (.int (133) 0), (.int (4) 0), (.ref 245), (.int (137) 0), (.int (4) 0), (.ref 252), (.int (141) 0), (.int (4) 0), (.ref 259), (.int (147) 0), (.int (4) 0), (.ref 264), (.int (151) 0), (.int (4) 0), (.ref 269), (.int (155) 0), (.int (4) 0), (.ref 274)]⟩), ⟨[]⟩⟩
def o184_3 (P : Params) : Obj := ⟨(.type "code"), none, (.fields ⟨[(sv "Reckoning" 419), (sv "Reckoning" 420), (sv "/claim/cut.py" 421), (.int (89) 0), (.int (0) 0), (.int (0) 0), (.int (0) 0), (.int (0) 0), (.ref 182), (.bool false), (.int (181) 0), (.ref 183), .none, .none, .none, .none, (.int (422) 0), (.int (89) 0), (sv "/claim/cut.py" 423)]⟩), ⟨[]⟩⟩
def o185_3 (P : Params) : Obj := ⟨(.type "frame"), none, .plain, ⟨[(some (.ref 184)), (some (.ref 3)), (some (.ref 181)), none, (some (sv "watchedways.reckonings" 415)), none, (some (.ref 0))]⟩⟩
def o186_3 (P : Params) : Obj := ⟨(.type "tuple"), none, (.seq ⟨[]⟩ 0), ⟨[]⟩⟩
def o187_3 (P : Params) : Obj := ⟨.none, none, (.fields ⟨[]⟩), ⟨[]⟩⟩
def o188_3 (P : Params) : Obj := ⟨.none, none, (.func ⟨(ns "__init__"), (ns "Reckoning.__init__"), defArgs (subS (top 26) 0), .stmts (defBody (subS (top 26) 0)), defScope (subS (top 26) 0), 0, [], .none, .none, .none, .none, none, .none, .none, 0⟩), ⟨[]⟩⟩
def o189_3 (P : Params) : Obj := ⟨(.type "code"), none, (.fields ⟨[(sv "__init__" 429), (sv "Reckoning.__init__" 430), (sv "/claim/cut.py" 431), (.int (91) 0), (.int (5) 0), (.int (0) 0), (.int (0) 0), (.int (3) 0), (.ref 186), (.bool true), (.int (181) 0), (.ref 187), .none, .none, .none, (.ref 188), (.int (432) 0), (.int (91) 0), (sv "/claim/cut.py" 433)]⟩), ⟨[]⟩⟩
def o190_3 (P : Params) : Obj := ⟨(.type "function"), none, (.func ⟨(ns "__init__"), (ns "Reckoning.__init__"), defArgs (subS (top 26) 0), .stmts (defBody (subS (top 26) 0)), defScope (subS (top 26) 0), 3, [], .none, .none, .none, (sv "watchedways.reckonings" 415), none, (.ref 189), .none, 0⟩), ⟨[]⟩⟩
def o191_3 (P : Params) : Obj := ⟨(.type "tuple"), none, (.seq ⟨[]⟩ 0), ⟨[]⟩⟩
def o192_3 (P : Params) : Obj := ⟨.none, none, (.fields ⟨[]⟩), ⟨[]⟩⟩
def o193_3 (P : Params) : Obj := ⟨(.type "tuple"), none, (.seq ⟨[(sv "self" 438), (sv "other" 439)]⟩ 0), ⟨[]⟩⟩
def o194_3 (P : Params) : Obj := ⟨(.type "tuple"), none, (.seq ⟨[]⟩ 0), ⟨[]⟩⟩
def o195_3 (P : Params) : Obj := ⟨.none, none, (.func ⟨(ns "__eq__"), (ns "Reckoning.__eq__"), defArgs (subS (top 26) 1), .stmts (defBody (subS (top 26) 1)), defScope (subS (top 26) 1), 0, [], .none, .none, .none, .none, none, .none, .none, 0⟩), ⟨[]⟩⟩
def o196_3 (P : Params) : Obj := ⟨(.type "code"), none, (.fields ⟨[(sv "__eq__" 435), (sv "Reckoning.__eq__" 436), (sv "/claim/cut.py" 437), (.int (104) 0), (.int (2) 0), (.int (0) 0), (.int (0) 0), (.int (3) 0), (.ref 191), (.bool true), (.int (181) 0), (.ref 192), .none, (.ref 193), (.ref 194), (.ref 195), (.int (440) 0), (.int (104) 0), (sv "/claim/cut.py" 441)]⟩), ⟨[]⟩⟩
def o197_3 (P : Params) : Obj := ⟨(.type "function"), none, (.func ⟨(ns "__eq__"), (ns "Reckoning.__eq__"), defArgs (subS (top 26) 1), .stmts (defBody (subS (top 26) 1)), defScope (subS (top 26) 1), 3, [], .none, .none, .none, (sv "watchedways.reckonings" 415), none, (.ref 196), .none, 0⟩), ⟨[]⟩⟩
def o198_3 (P : Params) : Obj := ⟨(.type "tuple"), none, (.seq ⟨[]⟩ 0), ⟨[]⟩⟩
def o199_3 (P : Params) : Obj := ⟨.none, none, (.fields ⟨[]⟩), ⟨[]⟩⟩
def o200_3 (P : Params) : Obj := ⟨(.type "tuple"), none, (.seq ⟨[(sv "self" 446), (sv "thing" 447)]⟩ 0), ⟨[]⟩⟩
def o201_3 (P : Params) : Obj := ⟨(.type "tuple"), none, (.seq ⟨[]⟩ 0), ⟨[]⟩⟩
def o202_3 (P : Params) : Obj := ⟨.none, none, (.func ⟨(ns "is_worth"), (ns "Reckoning.is_worth"), defArgs (subS (top 26) 2), .stmts (defBody (subS (top 26) 2)), defScope (subS (top 26) 2), 0, [], .none, .none, .none, .none, none, .none, .none, 0⟩), ⟨[]⟩⟩
def o203_3 (P : Params) : Obj := ⟨(.type "code"), none, (.fields ⟨[(sv "is_worth" 443), (sv "Reckoning.is_worth" 444), (sv "/claim/cut.py" 445), (.int (111) 0), (.int (2) 0), (.int (0) 0), (.int (0) 0), (.int (3) 0), (.ref 198), (.bool true), (.int (181) 0), (.ref 199), .none, (.ref 200), (.ref 201), (.ref 202), (.int (448) 0), (.int (111) 0), (sv "/claim/cut.py" 449)]⟩), ⟨[]⟩⟩
def o204_3 (P : Params) : Obj := ⟨(.type "function"), none, (.func ⟨(ns "is_worth"), (ns "Reckoning.is_worth"), defArgs (subS (top 26) 2), .stmts (defBody (subS (top 26) 2)), defScope (subS (top 26) 2), 3, [], .none, .none, .none, (sv "watchedways.reckonings" 415), none, (.ref 203), .none, 0⟩), ⟨[]⟩⟩
def o205_3 (P : Params) : Obj := ⟨(.type "tuple"), none, (.seq ⟨[]⟩ 0), ⟨[]⟩⟩
def o206_3 (P : Params) : Obj := ⟨.none, none, (.fields ⟨[]⟩), ⟨[]⟩⟩
def o207_3 (P : Params) : Obj := ⟨(.type "tuple"), none, (.seq ⟨[(sv "self" 454), (sv "a" 455), (sv "b" 456)]⟩ 0), ⟨[]⟩⟩
def o208_3 (P : Params) : Obj := ⟨(.type "tuple"), none, (.seq ⟨[]⟩ 0), ⟨[]⟩⟩
def o209_3 (P : Params) : Obj := ⟨.none, none, (.func ⟨(ns "beneath"), (ns "Reckoning.beneath"), defArgs (subS (top 26) 3), .stmts (defBody (subS (top 26) 3)), defScope (subS (top 26) 3), 0, [], .none, .none, .none, .none, none, .none, .none, 0⟩), ⟨[]⟩⟩
def o210_3 (P : Params) : Obj := ⟨(.type "code"), none, (.fields ⟨[(sv "beneath" 451), (sv "Reckoning.beneath" 452), (sv "/claim/cut.py" 453), (.int (114) 0), (.int (3) 0), (.int (0) 0), (.int (0) 0), (.int (3) 0), (.ref 205), (.bool true), (.int (181) 0), (.ref 206), .none, (.ref 207), (.ref 208), (.ref 209), (.int (457) 0), (.int (114) 0), (sv "/claim/cut.py" 458)]⟩), ⟨[]⟩⟩
def o211_3 (P : Params) : Obj := ⟨(.type "function"), none, (.func ⟨(ns "beneath"), (ns "Reckoning.beneath"), defArgs (subS (top 26) 3), .stmts (defBody (subS (top 26) 3)), defScope (subS (top 26) 3), 3, [], .none, .none, .none, (sv "watchedways.reckonings" 415), none, (.ref 210), .none, 0⟩), ⟨[]⟩⟩
def o212_3 (P : Params) : Obj := ⟨(.type "tuple"), none, (.seq ⟨[]⟩ 0), ⟨[]⟩⟩
def o213_3 (P : Params) : Obj := ⟨.none, none, (.fields ⟨[]⟩), ⟨[]⟩⟩
def o214_3 (P : Params) : Obj := ⟨(.type "tuple"), none, (.seq ⟨[(sv "self" 463), (sv "a" 464), (sv "b" 465)]⟩ 0), ⟨[]⟩⟩
def o215_3 (P : Params) : Obj := ⟨(.type "tuple"), none, (.seq ⟨[]⟩ 0), ⟨[]⟩⟩
def o216_3 (P : Params) : Obj := ⟨.none, none, (.func ⟨(ns "join"), (ns "Reckoning.join"), defArgs (subS (top 26) 4), .stmts (defBody (subS (top 26) 4)), defScope (subS (top 26) 4), 0, [], .none, .none, .none, .none, none, .none, .none, 0⟩), ⟨[]⟩⟩
def o217_3 (P : Params) : Obj := ⟨(.type "code"), none, (.fields ⟨[(sv "join" 460), (sv "Reckoning.join" 461), (sv "/claim/cut.py" 462), (.int (118) 0), (.int (3) 0), (.int (0) 0), (.int (0) 0), (.int (3) 0), (.ref 212), (.bool true), (.int (181) 0), (.ref 213), .none, (.ref 214), (.ref 215), (.ref 216), (.int (466) 0), (.int (118) 0), (sv "/claim/cut.py" 467)]⟩), ⟨[]⟩⟩
def o218_3 (P : Params) : Obj := ⟨(.type "function"), none, (.func ⟨(ns "join"), (ns "Reckoning.join"), defArgs (subS (top 26) 4), .stmts (defBody (subS (top 26) 4)), defScope (subS (top 26) 4), 3, [], .none, .none, .none, (sv "watchedways.reckonings" 415), none, (.ref 217), .none, 0⟩), ⟨[]⟩⟩
def o219_3 (P : Params) : Obj := ⟨(.type "tuple"), none, (.seq ⟨[]⟩ 0), ⟨[]⟩⟩
def o220_3 (P : Params) : Obj := ⟨.none, none, (.fields ⟨[]⟩), ⟨[]⟩⟩
def o221_3 (P : Params) : Obj := ⟨(.type "tuple"), none, (.seq ⟨[(sv "self" 472), (sv "a" 473), (sv "b" 474)]⟩ 0), ⟨[]⟩⟩
def o222_3 (P : Params) : Obj := ⟨(.type "tuple"), none, (.seq ⟨[]⟩ 0), ⟨[]⟩⟩
def o223_3 (P : Params) : Obj := ⟨.none, none, (.func ⟨(ns "times"), (ns "Reckoning.times"), defArgs (subS (top 26) 5), .stmts (defBody (subS (top 26) 5)), defScope (subS (top 26) 5), 0, [], .none, .none, .none, .none, none, .none, .none, 0⟩), ⟨[]⟩⟩
def o224_3 (P : Params) : Obj := ⟨(.type "code"), none, (.fields ⟨[(sv "times" 469), (sv "Reckoning.times" 470), (sv "/claim/cut.py" 471), (.int (122) 0), (.int (3) 0), (.int (0) 0), (.int (0) 0), (.int (3) 0), (.ref 219), (.bool true), (.int (181) 0), (.ref 220), .none, (.ref 221), (.ref 222), (.ref 223), (.int (475) 0), (.int (122) 0), (sv "/claim/cut.py" 476)]⟩), ⟨[]⟩⟩
def o225_3 (P : Params) : Obj := ⟨(.type "function"), none, (.func ⟨(ns "times"), (ns "Reckoning.times"), defArgs (subS (top 26) 5), .stmts (defBody (subS (top 26) 5)), defScope (subS (top 26) 5), 3, [], .none, .none, .none, (sv "watchedways.reckonings" 415), none, (.ref 224), .none, 0⟩), ⟨[]⟩⟩
def o226_3 (P : Params) : Obj := ⟨(.type "tuple"), none, (.seq ⟨[]⟩ 0), ⟨[]⟩⟩
def o227_3 (P : Params) : Obj := ⟨.none, none, (.fields ⟨[]⟩), ⟨[]⟩⟩
def o228_3 (P : Params) : Obj := ⟨(.type "tuple"), none, (.seq ⟨[(sv "self" 481), (sv "a" 482), (sv "b" 483)]⟩ 0), ⟨[]⟩⟩
def o229_3 (P : Params) : Obj := ⟨(.type "tuple"), none, (.seq ⟨[]⟩ 0), ⟨[]⟩⟩
def o230_3 (P : Params) : Obj := ⟨.none, none, (.func ⟨(ns "meet"), (ns "Reckoning.meet"), defArgs (subS (top 26) 6), .stmts (defBody (subS (top 26) 6)), defScope (subS (top 26) 6), 0, [], .none, .none, .none, .none, none, .none, .none, 0⟩), ⟨[]⟩⟩
def o231_3 (P : Params) : Obj := ⟨(.type "code"), none, (.fields ⟨[(sv "meet" 478), (sv "Reckoning.meet" 479), (sv "/claim/cut.py" 480), (.int (126) 0), (.int (3) 0), (.int (0) 0), (.int (0) 0), (.int (3) 0), (.ref 226), (.bool true), (.int (181) 0), (.ref 227), .none, (.ref 228), (.ref 229), (.ref 230), (.int (484) 0), (.int (126) 0), (sv "/claim/cut.py" 485)]⟩), ⟨[]⟩⟩
def o232_3 (P : Params) : Obj := ⟨(.type "function"), none, (.func ⟨(ns "meet"), (ns "Reckoning.meet"), defArgs (subS (top 26) 6), .stmts (defBody (subS (top 26) 6)), defScope (subS (top 26) 6), 3, [], .none, .none, .none, (sv "watchedways.reckonings" 415), none, (.ref 231), .none, 0⟩), ⟨[]⟩⟩
def o233_3 (P : Params) : Obj := ⟨(.type "tuple"), none, (.seq ⟨[]⟩ 0), ⟨[]⟩⟩
def o234_3 (P : Params) : Obj := ⟨.none, none, (.fields ⟨[]⟩), ⟨[]⟩⟩
def o235_3 (P : Params) : Obj := ⟨(.type "tuple"), none, (.seq ⟨[(sv "self" 490)]⟩ 0), ⟨[]⟩⟩
def o236_3 (P : Params) : Obj := ⟨(.type "tuple"), none, (.seq ⟨[]⟩ 0), ⟨[]⟩⟩
def o237_3 (P : Params) : Obj := ⟨.none, none, (.func ⟨(ns "greatest"), (ns "Reckoning.greatest"), defArgs (subS (top 26) 7), .stmts (defBody (subS (top 26) 7)), defScope (subS (top 26) 7), 0, [], .none, .none, .none, .none, none, .none, .none, 0⟩), ⟨[]⟩⟩
def o238_3 (P : Params) : Obj := ⟨(.type "code"), none, (.fields ⟨[(sv "greatest" 487), (sv "Reckoning.greatest" 488), (sv "/claim/cut.py" 489), (.int (130) 0), (.int (1) 0), (.int (0) 0), (.int (0) 0), (.int (3) 0), (.ref 233), (.bool true), (.int (181) 0), (.ref 234), .none, (.ref 235), (.ref 236), (.ref 237), (.int (491) 0), (.int (130) 0), (sv "/claim/cut.py" 492)]⟩), ⟨[]⟩⟩
def o239_3 (P : Params) : Obj := ⟨(.type "function"), none, (.func ⟨(ns "greatest"), (ns "Reckoning.greatest"), defArgs (subS (top 26) 7), .stmts (defBody (subS (top 26) 7)), defScope (subS (top 26) 7), 3, [], .none, .none, .none, (sv "watchedways.reckonings" 415), none, (.ref 238), .none, 0⟩), ⟨[]⟩⟩
def o240_3 (P : Params) : Obj := ⟨(.type "tuple"), none, (.seq ⟨[]⟩ 0), ⟨[]⟩⟩
def o241_3 (P : Params) : Obj := ⟨.none, none, (.fields ⟨[]⟩), ⟨[]⟩⟩
def o242_3 (P : Params) : Obj := ⟨(.type "tuple"), none, (.seq ⟨[(sv "self" 497), (sv "a" 498), (sv "c" 499)]⟩ 0), ⟨[]⟩⟩
def o243_3 (P : Params) : Obj := ⟨(.type "tuple"), none, (.seq ⟨[]⟩ 0), ⟨[]⟩⟩
def o244_3 (P : Params) : Obj := ⟨.none, none, (.func ⟨(ns "left"), (ns "Reckoning.left"), defArgs (subS (top 26) 8), .stmts (defBody (subS (top 26) 8)), defScope (subS (top 26) 8), 0, [], .none, .none, .none, .none, none, .none, .none, 0⟩), ⟨[]⟩⟩
def o245_3 (P : Params) : Obj := ⟨(.type "code"), none, (.fields ⟨[(sv "left" 494), (sv "Reckoning.left" 495), (sv "/claim/cut.py" 496), (.int (133) 0), (.int (3) 0), (.int (0) 0), (.int (0) 0), (.int (3) 0), (.ref 240), (.bool true), (.int (181) 0), (.ref 241), .none, (.ref 242), (.ref 243), (.ref 244), (.int (500) 0), (.int (133) 0), (sv "/claim/cut.py" 501)]⟩), ⟨[]⟩⟩
def o246_3 (P : Params) : Obj := ⟨(.type "function"), none, (.func ⟨(ns "left"), (ns "Reckoning.left"), defArgs (subS (top 26) 8), .stmts (defBody (subS (top 26) 8)), defScope (subS (top 26) 8), 3, [], .none, .none, .none, (sv "watchedways.reckonings" 415), none, (.ref 245), .none, 0⟩), ⟨[]⟩⟩
def o247_3 (P : Params) : Obj := ⟨(.type "tuple"), none, (.seq ⟨[]⟩ 0), ⟨[]⟩⟩
def o248_3 (P : Params) : Obj := ⟨.none, none, (.fields ⟨[]⟩), ⟨[]⟩⟩
def o249_3 (P : Params) : Obj := ⟨(.type "tuple"), none, (.seq ⟨[(sv "self" 506), (sv "c" 507), (sv "a" 508)]⟩ 0), ⟨[]⟩⟩
def o250_3 (P : Params) : Obj := ⟨(.type "tuple"), none, (.seq ⟨[]⟩ 0), ⟨[]⟩⟩
def o251_3 (P : Params) : Obj := ⟨.none, none, (.func ⟨(ns "right"), (ns "Reckoning.right"), defArgs (subS (top 26) 9), .stmts (defBody (subS (top 26) 9)), defScope (subS (top 26) 9), 0, [], .none, .none, .none, .none, none, .none, .none, 0⟩), ⟨[]⟩⟩
def o252_3 (P : Params) : Obj := ⟨(.type "code"), none, (.fields ⟨[(sv "right" 503), (sv "Reckoning.right" 504), (sv "/claim/cut.py" 505), (.int (137) 0), (.int (3) 0), (.int (0) 0), (.int (0) 0), (.int (3) 0), (.ref 247), (.bool true), (.int (181) 0), (.ref 248), .none, (.ref 249), (.ref 250), (.ref 251), (.int (509) 0), (.int (137) 0), (sv "/claim/cut.py" 510)]⟩), ⟨[]⟩⟩
def o253_3 (P : Params) : Obj := ⟨(.type "function"), none, (.func ⟨(ns "right"), (ns "Reckoning.right"), defArgs (subS (top 26) 9), .stmts (defBody (subS (top 26) 9)), defScope (subS (top 26) 9), 3, [], .none, .none, .none, (sv "watchedways.reckonings" 415), none, (.ref 252), .none, 0⟩), ⟨[]⟩⟩
def o254_3 (P : Params) : Obj := ⟨(.type "tuple"), none, (.seq ⟨[]⟩ 0), ⟨[]⟩⟩
def o255_3 (P : Params) : Obj := ⟨.none, none, (.fields ⟨[]⟩), ⟨[]⟩⟩
def o256_3 (P : Params) : Obj := ⟨(.type "tuple"), none, (.seq ⟨[(sv "self" 515), (sv "worths" 516), (sv "found" 517), (sv "worth" 518)]⟩ 0), ⟨[]⟩⟩
def o257_3 (P : Params) : Obj := ⟨(.type "tuple"), none, (.seq ⟨[]⟩ 0), ⟨[]⟩⟩
def o258_3 (P : Params) : Obj := ⟨.none, none, (.func ⟨(ns "_joined"), (ns "Reckoning._joined"), defArgs (subS (top 26) 10), .stmts (defBody (subS (top 26) 10)), defScope (subS (top 26) 10), 0, [], .none, .none, .none, .none, none, .none, .none, 0⟩), ⟨[]⟩⟩
def o259_3 (P : Params) : Obj := ⟨(.type "code"), none, (.fields ⟨[(sv "_joined" 512), (sv "Reckoning._joined" 513), (sv "/claim/cut.py" 514), (.int (141) 0), (.int (2) 0), (.int (0) 0), (.int (0) 0), (.int (3) 0), (.ref 254), (.bool true), (.int (181) 0), (.ref 255), .none, (.ref 256), (.ref 257), (.ref 258), (.int (519) 0), (.int (141) 0), (sv "/claim/cut.py" 520)]⟩), ⟨[]⟩⟩
def o260_3 (P : Params) : Obj := ⟨(.type "function"), none, (.func ⟨(ns "_joined"), (ns "Reckoning._joined"), defArgs (subS (top 26) 10), .stmts (defBody (subS (top 26) 10)), defScope (subS (top 26) 10), 3, [], .none, .none, .none, (sv "watchedways.reckonings" 415), none, (.ref 259), .none, 0⟩), ⟨[]⟩⟩
def o261_3 (P : Params) : Obj := ⟨(.type "tuple"), none, (.seq ⟨[]⟩ 0), ⟨[]⟩⟩
def o262_3 (P : Params) : Obj := ⟨.none, none, (.fields ⟨[]⟩), ⟨[]⟩⟩
def o263_3 (P : Params) : Obj := ⟨.none, none, (.func ⟨(ns "_meet"), (ns "Reckoning._meet"), defArgs (subS (top 26) 11), .stmts (defBody (subS (top 26) 11)), defScope (subS (top 26) 11), 0, [], .none, .none, .none, .none, none, .none, .none, 0⟩), ⟨[]⟩⟩
def o264_3 (P : Params) : Obj := ⟨(.type "code"), none, (.fields ⟨[(sv "_meet" 522), (sv "Reckoning._meet" 523), (sv "/claim/cut.py" 524), (.int (147) 0), (.int (3) 0), (.int (0) 0), (.int (0) 0), (.int (3) 0), (.ref 261), (.bool true), (.int (181) 0), (.ref 262), .none, .none, .none, (.ref 263), (.int (525) 0), (.int (147) 0), (sv "/claim/cut.py" 526)]⟩), ⟨[]⟩⟩
def o265_3 (P : Params) : Obj := ⟨(.type "function"), none, (.func ⟨(ns "_meet"), (ns "Reckoning._meet"), defArgs (subS (top 26) 11), .stmts (defBody (subS (top 26) 11)), defScope (subS (top 26) 11), 3, [], .none, .none, .none, (sv "watchedways.reckonings" 415), none, (.ref 264), .none, 0⟩), ⟨[]⟩⟩
def o266_3 (P : Params) : Obj := ⟨(.type "tuple"), none, (.seq ⟨[]⟩ 0), ⟨[]⟩⟩
def o267_3 (P : Params) : Obj := ⟨.none, none, (.fields ⟨[]⟩), ⟨[]⟩⟩
def o268_3 (P : Params) : Obj := ⟨.none, none, (.func ⟨(ns "_left"), (ns "Reckoning._left"), defArgs (subS (top 26) 12), .stmts (defBody (subS (top 26) 12)), defScope (subS (top 26) 12), 0, [], .none, .none, .none, .none, none, .none, .none, 0⟩), ⟨[]⟩⟩
def o269_3 (P : Params) : Obj := ⟨(.type "code"), none, (.fields ⟨[(sv "_left" 528), (sv "Reckoning._left" 529), (sv "/claim/cut.py" 530), (.int (151) 0), (.int (3) 0), (.int (0) 0), (.int (0) 0), (.int (3) 0), (.ref 266), (.bool true), (.int (181) 0), (.ref 267), .none, .none, .none, (.ref 268), (.int (531) 0), (.int (151) 0), (sv "/claim/cut.py" 532)]⟩), ⟨[]⟩⟩
def o270_3 (P : Params) : Obj := ⟨(.type "function"), none, (.func ⟨(ns "_left"), (ns "Reckoning._left"), defArgs (subS (top 26) 12), .stmts (defBody (subS (top 26) 12)), defScope (subS (top 26) 12), 3, [], .none, .none, .none, (sv "watchedways.reckonings" 415), none, (.ref 269), .none, 0⟩), ⟨[]⟩⟩
def o271_3 (P : Params) : Obj := ⟨(.type "tuple"), none, (.seq ⟨[]⟩ 0), ⟨[]⟩⟩
def o272_3 (P : Params) : Obj := ⟨.none, none, (.fields ⟨[]⟩), ⟨[]⟩⟩
def o273_3 (P : Params) : Obj := ⟨.none, none, (.func ⟨(ns "_right"), (ns "Reckoning._right"), defArgs (subS (top 26) 13), .stmts (defBody (subS (top 26) 13)), defScope (subS (top 26) 13), 0, [], .none, .none, .none, .none, none, .none, .none, 0⟩), ⟨[]⟩⟩
def o274_3 (P : Params) : Obj := ⟨(.type "code"), none, (.fields ⟨[(sv "_right" 534), (sv "Reckoning._right" 535), (sv "/claim/cut.py" 536), (.int (155) 0), (.int (3) 0), (.int (0) 0), (.int (0) 0), (.int (3) 0), (.ref 271), (.bool true), (.int (181) 0), (.ref 272), .none, .none, .none, (.ref 273), (.int (537) 0), (.int (155) 0), (sv "/claim/cut.py" 538)]⟩), ⟨[]⟩⟩
def o275_3 (P : Params) : Obj := ⟨(.type "function"), none, (.func ⟨(ns "_right"), (ns "Reckoning._right"), defArgs (subS (top 26) 13), .stmts (defBody (subS (top 26) 13)), defScope (subS (top 26) 13), 3, [], .none, .none, .none, (sv "watchedways.reckonings" 415), none, (.ref 274), .none, 0⟩), ⟨[]⟩⟩
def o276_3 (P : Params) : Obj := ⟨(.type "tuple"), none, (.seq ⟨[(sv "_lefts" 540), (sv "_meets" 541), (sv "_rights" 542), (sv "joins" 543), (sv "none" 544), (sv "one" 545), (sv "products" 546)]⟩ 0), ⟨[]⟩⟩
def o277_3 (P : Params) : Obj := ⟨(.type "dict"), none, (.dict ⟨[en P "__module__" 424 (sv "watchedways.reckonings" 415), en P "__firstlineno__" 428 (.int (89) 427), en P "__init__" 434 (.ref 190), en P "__eq__" 442 (.ref 197), en P "is_worth" 450 (.ref 204), en P "beneath" 459 (.ref 211), en P "join" 468 (.ref 218), en P "times" 477 (.ref 225), en P "meet" 486 (.ref 232), en P "greatest" 493 (.ref 239), en P "left" 502 (.ref 246), en P "right" 511 (.ref 253), en P "_joined" 521 (.ref 260), en P "_meet" 527 (.ref 265), en P "_left" 533 (.ref 270), en P "_right" 539 (.ref 275), en P "__static_attributes__" 547 (.ref 276), en P "__dict__" 549 (.ref 279), en P "__weakref__" 551 (.ref 280), en P "__doc__" 552 .none, en P "__hash__" 553 .none]⟩ 5), ⟨[]⟩⟩
def o278_3 (P : Params) : Obj := ⟨(.type "type"), none, (.cls ⟨(ns "Reckoning"), [(.type "object")], [(.ref 278), (.type "object")], 277, (ns "Reckoning"), true, [], [], false, none, false⟩), ⟨[none, none, (some (sv "Reckoning" 417)), (some (sv "Reckoning" 425)), (some (.builtin "object.__new__")), (some (.bool true))]⟩⟩
def o279_3 (P : Params) : Obj := ⟨(.type "getset_descriptor"), none, (.fields ⟨[(sv "__dict__" 548), (.ref 278), (.builtin "function.__dict__"), (.builtin "function.__dict__#set")]⟩), ⟨[]⟩⟩
def o280_3 (P : Params) : Obj := ⟨(.type "getset_descriptor"), none, (.fields ⟨[(sv "__weakref__" 550), (.ref 278), (.builtin "ExceptionGroup.__weakref__"), .none]⟩), ⟨[]⟩⟩
def o281_3 (P : Params) : Obj := ⟨(.type "super"), none, (.fields ⟨[(.ref 278), (.ref 278), (.ref 278)]⟩), ⟨[]⟩⟩
def o282_3 (P : Params) : Obj := ⟨(.type "builtin_function_or_method"), none, (.fields ⟨[(.builtin "object.__init_subclass__"), (.ref 278)]⟩), ⟨[]⟩⟩
def o283_3 (P : Params) : Obj := ⟨(.type "tuple"), none, (.seq ⟨[]⟩ 0), ⟨[]⟩⟩
def o284_3 (P : Params) : Obj := ⟨.none, none, (.fields ⟨[]⟩), ⟨[]⟩⟩
def o285_3 (P : Params) : Obj := ⟨(.type "tuple"), none, (.seq ⟨[(sv "reckoning" 559)]⟩ 0), ⟨[]⟩⟩
def o286_3 (P : Params) : Obj := ⟨(.type "tuple"), none, (.seq ⟨[]⟩ 0), ⟨[]⟩⟩
def o287_3 (P : Params) : Obj := ⟨.none, none, (.func ⟨(ns "check_told"), (ns "check_told"), defArgs (top 27), .stmts (defBody (top 27)), defScope (top 27), 0, [], .none, .none, .none, .none, none, .none, .none, 0⟩), ⟨[]⟩⟩
def o288_3 (P : Params) : Obj := ⟨(.type "code"), none, (.fields ⟨[(sv "check_told" 556), (sv "check_told" 557), (sv "/claim/cut.py" 558), (.int (158) 0), (.int (1) 0), (.int (0) 0), (.int (0) 0), (.int (3) 0), (.ref 283), (.bool true), (.int (181) 0), (.ref 284), .none, (.ref 285), (.ref 286), (.ref 287), (.int (560) 0), (.int (158) 0), (sv "/claim/cut.py" 561)]⟩), ⟨[]⟩⟩
def o289_3 (P : Params) : Obj := ⟨(.type "function"), none, (.func ⟨(ns "check_told"), (ns "check_told"), defArgs (top 27), .stmts (defBody (top 27)), defScope (top 27), 3, [], .none, .none, .none, (sv "watchedways.reckonings" 415), none, (.ref 288), .none, 0⟩), ⟨[]⟩⟩
def o290_3 (P : Params) : Obj := ⟨(.type "tuple"), none, (.seq ⟨[]⟩ 0), ⟨[]⟩⟩
def o291_3 (P : Params) : Obj := ⟨.none, none, (.fields ⟨[]⟩), ⟨[]⟩⟩
def o292_3 (P : Params) : Obj := ⟨(.type "tuple"), none, (.seq ⟨[(sv "reckoning" 570)]⟩ 0), ⟨[]⟩⟩
def o293_3 (P : Params) : Obj := ⟨(.type "tuple"), none, (.seq ⟨[]⟩ 0), ⟨[]⟩⟩
def o294_3 (P : Params) : Obj := ⟨.none, none, (.func ⟨(ns "turned"), (ns "turned"), defArgs (top 30), .stmts (defBody (top 30)), defScope (top 30), 0, [], .none, .none, .none, .none, none, .none, .none, 0⟩), ⟨[]⟩⟩
def o295_3 (P : Params) : Obj := ⟨(.type "code"), none, (.fields ⟨[(sv "turned" 567), (sv "turned" 568), (sv "/claim/cut.py" 569), (.int (163) 0), (.int (1) 0), (.int (0) 0), (.int (0) 0), (.int (3) 0), (.ref 290), (.bool true), (.int (181) 0), (.ref 291), .none, (.ref 292), (.ref 293), (.ref 294), (.int (571) 0), (.int (163) 0), (sv "/claim/cut.py" 572)]⟩), ⟨[]⟩⟩
def o296_3 (P : Params) : Obj := ⟨(.type "function"), none, (.func ⟨(ns "turned"), (ns "turned"), defArgs (top 30), .stmts (defBody (top 30)), defScope (top 30), 3, [], .none, .none, .none, (sv "watchedways.making" 563), none, (.ref 295), .none, 0⟩), ⟨[]⟩⟩
def o297_3 (P : Params) : Obj := ⟨(.type "tuple"), none, (.seq ⟨[]⟩ 0), ⟨[]⟩⟩
def o298_3 (P : Params) : Obj := ⟨.none, none, (.fields ⟨[]⟩), ⟨[]⟩⟩
def o299_3 (P : Params) : Obj := ⟨(.type "tuple"), none, (.seq ⟨[(sv "one" 577), (sv "other" 578), (sv "size" 579)]⟩ 0), ⟨[]⟩⟩
def o300_3 (P : Params) : Obj := ⟨(.type "tuple"), none, (.seq ⟨[]⟩ 0), ⟨[]⟩⟩
def o301_3 (P : Params) : Obj := ⟨.none, none, (.func ⟨(ns "beside"), (ns "beside"), defArgs (top 31), .stmts (defBody (top 31)), defScope (top 31), 0, [], .none, .none, .none, .none, none, .none, .none, 0⟩), ⟨[]⟩⟩
def o302_3 (P : Params) : Obj := ⟨(.type "code"), none, (.fields ⟨[(sv "beside" 574), (sv "beside" 575), (sv "/claim/cut.py" 576), (.int (166) 0), (.int (2) 0), (.int (0) 0), (.int (0) 0), (.int (3) 0), (.ref 297), (.bool true), (.int (181) 0), (.ref 298), .none, (.ref 299), (.ref 300), (.ref 301), (.int (580) 0), (.int (166) 0), (sv "/claim/cut.py" 581)]⟩), ⟨[]⟩⟩
def o303_3 (P : Params) : Obj := ⟨(.type "function"), none, (.func ⟨(ns "beside"), (ns "beside"), defArgs (top 31), .stmts (defBody (top 31)), defScope (top 31), 3, [], .none, .none, .none, (sv "watchedways.making" 563), none, (.ref 302), .none, 0⟩), ⟨[]⟩⟩
def o304_3 (P : Params) : Obj := ⟨(.type "tuple"), none, (.seq ⟨[]⟩ 0), ⟨[]⟩⟩
def o305_3 (P : Params) : Obj := ⟨.none, none, (.fields ⟨[]⟩), ⟨[]⟩⟩
def o306_3 (P : Params) : Obj := ⟨.none, none, (.func ⟨(ns "lots"), (ns "lots"), defArgs (top 32), .stmts (defBody (top 32)), defScope (top 32), 0, [], .none, .none, .none, .none, none, .none, .none, 0⟩), ⟨[]⟩⟩
def o307_3 (P : Params) : Obj := ⟨(.type "code"), none, (.fields ⟨[(sv "lots" 583), (sv "lots" 584), (sv "/claim/cut.py" 585), (.int (173) 0), (.int (2) 0), (.int (0) 0), (.int (0) 0), (.int (3) 0), (.ref 304), (.bool true), (.int (181) 0), (.ref 305), .none, .none, .none, (.ref 306), (.int (586) 0), (.int (173) 0), (sv "/claim/cut.py" 587)]⟩), ⟨[]⟩⟩
def o308_3 (P : Params) : Obj := ⟨(.type "function"), none, (.func ⟨(ns "lots"), (ns "lots"), defArgs (top 32), .stmts (defBody (top 32)), defScope (top 32), 3, [], .none, .none, .none, (sv "watchedways.making" 563), none, (.ref 307), .none, 0⟩), ⟨[]⟩⟩
def o309_3 (P : Params) : Obj := ⟨(.type "tuple"), none, (.seq ⟨[]⟩ 0), ⟨[]⟩⟩
def o310_3 (P : Params) : Obj := ⟨.none, none, (.fields ⟨[]⟩), ⟨[]⟩⟩
def o311_3 (P : Params) : Obj := ⟨(.type "tuple"), none, (.seq ⟨[(sv "times" 592), (sv "size" 593)]⟩ 0), ⟨[]⟩⟩
def o312_3 (P : Params) : Obj := ⟨(.type "tuple"), none, (.seq ⟨[]⟩ 0), ⟨[]⟩⟩
def o313_3 (P : Params) : Obj := ⟨.none, none, (.func ⟨(ns "chain"), (ns "chain"), defArgs (top 33), .stmts (defBody (top 33)), defScope (top 33), 0, [], .none, .none, .none, .none, none, .none, .none, 0⟩), ⟨[]⟩⟩
def o314_3 (P : Params) : Obj := ⟨(.type "code"), none, (.fields ⟨[(sv "chain" 589), (sv "chain" 590), (sv "/claim/cut.py" 591), (.int (179) 0), (.int (1) 0), (.int (0) 0), (.int (0) 0), (.int (3) 0), (.ref 309), (.bool true), (.int (181) 0), (.ref 310), .none, (.ref 311), (.ref 312), (.ref 313), (.int (594) 0), (.int (179) 0), (sv "/claim/cut.py" 595)]⟩), ⟨[]⟩⟩
def o315_3 (P : Params) : Obj := ⟨(.type "function"), none, (.func ⟨(ns "chain"), (ns "chain"), defArgs (top 33), .stmts (defBody (top 33)), defScope (top 33), 3, [], .none, .none, .none, (sv "watchedways.making" 563), none, (.ref 314), .none, 0⟩), ⟨[]⟩⟩
def o316_3 (P : Params) : Obj := ⟨(.type "tuple"), none, (.seq ⟨[]⟩ 0), ⟨[]⟩⟩
def o317_3 (P : Params) : Obj := ⟨.none, none, (.fields ⟨[]⟩), ⟨[]⟩⟩
def o318_3 (P : Params) : Obj := ⟨.none, none, (.func ⟨(ns "greater_ones"), (ns "greater_ones"), defArgs (top 34), .stmts (defBody (top 34)), defScope (top 34), 0, [], .none, .none, .none, .none, none, .none, .none, 0⟩), ⟨[]⟩⟩
def o319_3 (P : Params) : Obj := ⟨(.type "code"), none, (.fields ⟨[(sv "greater_ones" 597), (sv "greater_ones" 598), (sv "/claim/cut.py" 599), (.int (182) 0), (.int (1) 0), (.int (0) 0), (.int (0) 0), (.int (3) 0), (.ref 316), (.bool true), (.int (181) 0), (.ref 317), .none, .none, .none, (.ref 318), (.int (600) 0), (.int (182) 0), (sv "/claim/cut.py" 601)]⟩), ⟨[]⟩⟩
def o320_3 (P : Params) : Obj := ⟨(.type "function"), none, (.func ⟨(ns "greater_ones"), (ns "greater_ones"), defArgs (top 34), .stmts (defBody (top 34)), defScope (top 34), 3, [], .none, .none, .none, (sv "watchedways.making" 563), none, (.ref 319), .none, 0⟩), ⟨[]⟩⟩
def o321_3 (P : Params) : Obj := ⟨(.type "tuple"), none, (.seq ⟨[]⟩ 0), ⟨[]⟩⟩
def o322_3 (P : Params) : Obj := ⟨.none, none, (.fields ⟨[]⟩), ⟨[]⟩⟩
def o323_3 (P : Params) : Obj := ⟨.none, none, (.func ⟨(ns "side_by_side"), (ns "side_by_side"), defArgs (top 35), .stmts (defBody (top 35)), defScope (top 35), 0, [], .none, .none, .none, .none, none, .none, .none, 0⟩), ⟨[]⟩⟩
def o324_3 (P : Params) : Obj := ⟨(.type "code"), none, (.fields ⟨[(sv "side_by_side" 603), (sv "side_by_side" 604), (sv "/claim/cut.py" 605), (.int (184) 0), (.int (2) 0), (.int (0) 0), (.int (0) 0), (.int (3) 0), (.ref 321), (.bool true), (.int (181) 0), (.ref 322), .none, .none, .none, (.ref 323), (.int (606) 0), (.int (184) 0), (sv "/claim/cut.py" 607)]⟩), ⟨[]⟩⟩
def o325_3 (P : Params) : Obj := ⟨(.type "function"), none, (.func ⟨(ns "side_by_side"), (ns "side_by_side"), defArgs (top 35), .stmts (defBody (top 35)), defScope (top 35), 3, [], .none, .none, .none, (sv "watchedways.making" 563), none, (.ref 324), .none, 0⟩), ⟨[]⟩⟩
def o326_3 (P : Params) : Obj := ⟨(.type "tuple"), none, (.seq ⟨[]⟩ 0), ⟨[]⟩⟩
def o327_3 (P : Params) : Obj := ⟨.none, none, (.fields ⟨[]⟩), ⟨[]⟩⟩
def o328_3 (P : Params) : Obj := ⟨(.type "tuple"), none, (.seq ⟨[(sv "products" 612), (sv "one" 613)]⟩ 0), ⟨[]⟩⟩
def o329_3 (P : Params) : Obj := ⟨(.type "tuple"), none, (.seq ⟨[]⟩ 0), ⟨[]⟩⟩
def o330_3 (P : Params) : Obj := ⟨.none, none, (.func ⟨(ns "lots_fault"), (ns "lots_fault"), defArgs (top 36), .stmts (defBody (top 36)), defScope (top 36), 0, [], .none, .none, .none, .none, none, .none, .none, 0⟩), ⟨[]⟩⟩
def o331_3 (P : Params) : Obj := ⟨(.type "code"), none, (.fields ⟨[(sv "lots_fault" 609), (sv "lots_fault" 610), (sv "/claim/cut.py" 611), (.int (188) 0), (.int (2) 0), (.int (0) 0), (.int (0) 0), (.int (3) 0), (.ref 326), (.bool true), (.int (181) 0), (.ref 327), .none, (.ref 328), (.ref 329), (.ref 330), (.int (614) 0), (.int (188) 0), (sv "/claim/cut.py" 615)]⟩), ⟨[]⟩⟩
def o332_3 (P : Params) : Obj := ⟨(.type "function"), none, (.func ⟨(ns "lots_fault"), (ns "lots_fault"), defArgs (top 36), .stmts (defBody (top 36)), defScope (top 36), 3, [], .none, .none, .none, (sv "watchedways.making" 563), none, (.ref 331), .none, 0⟩), ⟨[]⟩⟩
def o333_3 (P : Params) : Obj := ⟨(.type "tuple"), none, (.seq ⟨[]⟩ 0), ⟨[]⟩⟩
def o334_3 (P : Params) : Obj := ⟨.none, none, (.fields ⟨[]⟩), ⟨[]⟩⟩
def o335_3 (P : Params) : Obj := ⟨(.type "tuple"), none, (.seq ⟨[(sv "products" 620), (sv "a" 621), (sv "b" 622), (sv "things" 623), (sv "made" 624), (sv "one" 625), (sv "other" 626)]⟩ 0), ⟨[]⟩⟩
def o336_3 (P : Params) : Obj := ⟨(.type "tuple"), none, (.seq ⟨[]⟩ 0), ⟨[]⟩⟩
def o337_3 (P : Params) : Obj := ⟨.none, none, (.func ⟨(ns "product_of_lots"), (ns "product_of_lots"), defArgs (top 37), .stmts (defBody (top 37)), defScope (top 37), 0, [], .none, .none, .none, .none, none, .none, .none, 0⟩), ⟨[]⟩⟩
def o338_3 (P : Params) : Obj := ⟨(.type "code"), none, (.fields ⟨[(sv "product_of_lots" 617), (sv "product_of_lots" 618), (sv "/claim/cut.py" 619), (.int (194) 0), (.int (3) 0), (.int (0) 0), (.int (0) 0), (.int (3) 0), (.ref 333), (.bool true), (.int (181) 0), (.ref 334), .none, (.ref 335), (.ref 336), (.ref 337), (.int (627) 0), (.int (194) 0), (sv "/claim/cut.py" 628)]⟩), ⟨[]⟩⟩
def o339_3 (P : Params) : Obj := ⟨(.type "function"), none, (.func ⟨(ns "product_of_lots"), (ns "product_of_lots"), defArgs (top 37), .stmts (defBody (top 37)), defScope (top 37), 3, [], .none, .none, .none, (sv "watchedways.making" 563), none, (.ref 338), .none, 0⟩), ⟨[]⟩⟩
def o340_3 (P : Params) : Obj := ⟨(.type "tuple"), none, (.seq ⟨[]⟩ 0), ⟨[]⟩⟩
def o341_3 (P : Params) : Obj := ⟨.none, none, (.fields ⟨[]⟩), ⟨[]⟩⟩
def o342_3 (P : Params) : Obj := ⟨.none, none, (.func ⟨(ns "_law_hand"), (ns "_law_hand"), defArgs (top 39), .stmts (defBody (top 39)), defScope (top 39), 0, [], .none, .none, .none, .none, none, .none, .none, 0⟩), ⟨[]⟩⟩
def o343_3 (P : Params) : Obj := ⟨(.type "code"), none, (.fields ⟨[(sv "_law_hand" 632), (sv "_law_hand" 633), (sv "/claim/cut.py" 634), (.int (203) 0), (.int (1) 0), (.int (0) 0), (.int (0) 0), (.int (3) 0), (.ref 340), (.bool true), (.int (181) 0), (.ref 341), .none, .none, .none, (.ref 342), (.int (635) 0), (.int (203) 0), (sv "/claim/cut.py" 636)]⟩), ⟨[]⟩⟩
def o344_3 (P : Params) : Obj := ⟨(.type "function"), none, (.func ⟨(ns "_law_hand"), (ns "_law_hand"), defArgs (top 39), .stmts (defBody (top 39)), defScope (top 39), 3, [], .none, .none, .none, (sv "law_watchedways_k35_whole_leavings_of_made_o" 630), none, (.ref 343), .none, 0⟩), ⟨[]⟩⟩
def o345_3 (P : Params) : Obj := ⟨(.type "tuple"), none, (.seq ⟨[]⟩ 0), ⟨[]⟩⟩
def o346_3 (P : Params) : Obj := ⟨.none, none, (.fields ⟨[]⟩), ⟨[]⟩⟩
def o347_3 (P : Params) : Obj := ⟨(.type "tuple"), none, (.seq ⟨[(sv "hand" 641), (sv "many" 642), (sv "cell" 643), (sv "digit" 644), (sv "number" 645)]⟩ 0), ⟨[]⟩⟩
def o348_3 (P : Params) : Obj := ⟨(.type "tuple"), none, (.seq ⟨[]⟩ 0), ⟨[]⟩⟩
def o349_3 (P : Params) : Obj := ⟨.none, none, (.func ⟨(ns "_law_draw"), (ns "_law_draw"), defArgs (top 40), .stmts (defBody (top 40)), defScope (top 40), 0, [], .none, .none, .none, .none, none, .none, .none, 0⟩), ⟨[]⟩⟩
def o350_3 (P : Params) : Obj := ⟨(.type "code"), none, (.fields ⟨[(sv "_law_draw" 638), (sv "_law_draw" 639), (sv "/claim/cut.py" 640), (.int (206) 0), (.int (2) 0), (.int (0) 0), (.int (0) 0), (.int (3) 0), (.ref 345), (.bool true), (.int (181) 0), (.ref 346), .none, (.ref 347), (.ref 348), (.ref 349), (.int (646) 0), (.int (206) 0), (sv "/claim/cut.py" 647)]⟩), ⟨[]⟩⟩
def o351_3 (P : Params) : Obj := ⟨(.type "function"), none, (.func ⟨(ns "_law_draw"), (ns "_law_draw"), defArgs (top 40), .stmts (defBody (top 40)), defScope (top 40), 3, [], .none, .none, .none, (sv "law_watchedways_k35_whole_leavings_of_made_o" 630), none, (.ref 350), .none, 0⟩), ⟨[]⟩⟩
def o352_3 (P : Params) : Obj := ⟨(.type "tuple"), none, (.seq ⟨[]⟩ 0), ⟨[]⟩⟩
def o353_3 (P : Params) : Obj := ⟨.none, none, (.fields ⟨[]⟩), ⟨[]⟩⟩
def o354_3 (P : Params) : Obj := ⟨.none, none, (.func ⟨(ns "_law_times"), (ns "_law_times"), defArgs (top 41), .stmts (defBody (top 41)), defScope (top 41), 0, [], .none, .none, .none, .none, none, .none, .none, 0⟩), ⟨[]⟩⟩
def o355_3 (P : Params) : Obj := ⟨(.type "code"), none, (.fields ⟨[(sv "_law_times" 649), (sv "_law_times" 650), (sv "/claim/cut.py" 651), (.int (222) 0), (.int (1) 0), (.int (0) 0), (.int (0) 0), (.int (3) 0), (.ref 352), (.bool true), (.int (181) 0), (.ref 353), .none, .none, .none, (.ref 354), (.int (652) 0), (.int (222) 0), (sv "/claim/cut.py" 653)]⟩), ⟨[]⟩⟩
def o356_3 (P : Params) : Obj := ⟨(.type "function"), none, (.func ⟨(ns "_law_times"), (ns "_law_times"), defArgs (top 41), .stmts (defBody (top 41)), defScope (top 41), 3, [], .none, .none, .none, (sv "law_watchedways_k35_whole_leavings_of_made_o" 630), none, (.ref 355), .none, 0⟩), ⟨[]⟩⟩
def o357_3 (P : Params) : Obj := ⟨(.type "tuple"), none, (.seq ⟨[]⟩ 0), ⟨[]⟩⟩
def o358_3 (P : Params) : Obj := ⟨.none, none, (.fields ⟨[]⟩), ⟨[]⟩⟩
def o359_3 (P : Params) : Obj := ⟨(.type "tuple"), none, (.seq ⟨[(sv "hand" 658), (sv "found" 659)]⟩ 0), ⟨[]⟩⟩
def o360_3 (P : Params) : Obj := ⟨(.type "tuple"), none, (.seq ⟨[]⟩ 0), ⟨[]⟩⟩
def o361_3 (P : Params) : Obj := ⟨.none, none, (.func ⟨(ns "_law_monoid"), (ns "_law_monoid"), defArgs (top 42), .stmts (defBody (top 42)), defScope (top 42), 0, [], .none, .none, .none, .none, none, .none, .none, 0⟩), ⟨[]⟩⟩
def o362_3 (P : Params) : Obj := ⟨(.type "code"), none, (.fields ⟨[(sv "_law_monoid" 655), (sv "_law_monoid" 656), (sv "/claim/cut.py" 657), (.int (233) 0), (.int (1) 0), (.int (0) 0), (.int (0) 0), (.int (3) 0), (.ref 357), (.bool true), (.int (181) 0), (.ref 358), .none, (.ref 359), (.ref 360), (.ref 361), (.int (660) 0), (.int (233) 0), (sv "/claim/cut.py" 661)]⟩), ⟨[]⟩⟩
def o363_3 (P : Params) : Obj := ⟨(.type "function"), none, (.func ⟨(ns "_law_monoid"), (ns "_law_monoid"), defArgs (top 42), .stmts (defBody (top 42)), defScope (top 42), 3, [], .none, .none, .none, (sv "law_watchedways_k35_whole_leavings_of_made_o" 630), none, (.ref 362), .none, 0⟩), ⟨[]⟩⟩
def o364_3 (P : Params) : Obj := ⟨(.type "tuple"), none, (.seq ⟨[]⟩ 0), ⟨[]⟩⟩
def o365_3 (P : Params) : Obj := ⟨.none, none, (.fields ⟨[]⟩), ⟨[]⟩⟩
def o366_3 (P : Params) : Obj := ⟨(.type "tuple"), none, (.seq ⟨[(sv "lot" 666), (sv "thing" 667)]⟩ 0), ⟨[]⟩⟩
def o367_3 (P : Params) : Obj := ⟨(.type "tuple"), none, (.seq ⟨[]⟩ 0), ⟨[]⟩⟩
def o368_3 (P : Params) : Obj := ⟨.none, none, (.func ⟨(ns "_law_in"), (ns "_law_in"), defArgs (top 43), .stmts (defBody (top 43)), defScope (top 43), 0, [], .none, .none, .none, .none, none, .none, .none, 0⟩), ⟨[]⟩⟩
def o369_3 (P : Params) : Obj := ⟨(.type "code"), none, (.fields ⟨[(sv "_law_in" 663), (sv "_law_in" 664), (sv "/claim/cut.py" 665), (.int (238) 0), (.int (2) 0), (.int (0) 0), (.int (0) 0), (.int (3) 0), (.ref 364), (.bool true), (.int (181) 0), (.ref 365), .none, (.ref 366), (.ref 367), (.ref 368), (.int (668) 0), (.int (238) 0), (sv "/claim/cut.py" 669)]⟩), ⟨[]⟩⟩
def o370_3 (P : Params) : Obj := ⟨(.type "function"), none, (.func ⟨(ns "_law_in"), (ns "_law_in"), defArgs (top 43), .stmts (defBody (top 43)), defScope (top 43), 3, [], .none, .none, .none, (sv "law_watchedways_k35_whole_leavings_of_made_o" 630), none, (.ref 369), .none, 0⟩), ⟨[]⟩⟩
def T3 (P : Params) : BT := (.node (o0_0 P) (.node (o1_0 P) (.node (o3_3 P) (.node (o7_0 P) (.node (o15_3 P) (.node (o31_3 P) (.node (o63_3 P) (.node (o127_3 P) (.node (o255_3 P) .nil .nil) .nil) (.node (o191_3 P) (.node (o319_3 P) .nil .nil) .nil)) (.node (o95_3 P) (.node (o159_3 P) (.node (o287_3 P) .nil .nil) .nil) (.node (o223_3 P) (.node (o351_3 P) .nil .nil) .nil))) (.node (o47_3 P) (.node (o79_3 P) (.node (o143_3 P) (.node (o271_3 P) .nil .nil) .nil) (.node (o207_3 P) (.node (o335_3 P) .nil .nil) .nil)) (.node (o111_3 P) (.node (o175_3 P) (.node (o303_3 P) .nil .nil) .nil) (.node (o239_3 P) (.node (o367_3 P) .nil .nil) .nil)))) (.node (o23_3 P) (.node (o39_3 P) (.node (o71_3 P) (.node (o135_3 P) (.node (o263_3 P) .nil .nil) .nil) (.node (o199_3 P) (.node (o327_3 P) .nil .nil) .nil)) (.node (o103_3 P) (.node (o167_3 P) (.node (o295_3 P) .nil .nil) .nil) (.node (o231_3 P) (.node (o359_3 P) .nil .nil) .nil))) (.node (o55_3 P) (.node (o87_3 P) (.node (o151_3 P) (.node (o279_3 P) .nil .nil) .nil) (.node (o215_3 P) (.node (o343_3 P) .nil .nil) .nil)) (.node (o119_3 P) (.node (o183_3 P) (.node (o311_3 P) .nil .nil) .nil) (.node (o247_3 P) .nil .nil))))) (.node (o11_1 P) (.node (o19_3 P) (.node (o35_3 P) (.node (o67_3 P) (.node (o131_3 P) (.node (o259_3 P) .nil .nil) .nil) (.node (o195_3 P) (.node (o323_3 P) .nil .nil) .nil)) (.node (o99_3 P) (.node (o163_3 P) (.node (o291_3 P) .nil .nil) .nil) (.node (o227_3 P) (.node (o355_3 P) .nil .nil) .nil))) (.node (o51_3 P) (.node (o83_3 P) (.node (o147_3 P) (.node (o275_3 P) .nil .nil) .nil) (.node (o211_3 P) (.node (o339_3 P) .nil .nil) .nil)) (.node (o115_3 P) (.node (o179_3 P) (.node (o307_3 P) .nil .nil) .nil) (.node (o243_3 P) .nil .nil)))) (.node (o27_3 P) (.node (o43_3 P) (.node (o75_3 P) (.node (o139_3 P) (.node (o267_3 P) .nil .nil) .nil) (.node (o203_3 P) (.node (o331_3 P) .nil .nil) .nil)) (.node (o107_3 P) (.node (o171_3 P) (.node (o299_3 P) .nil .nil) .nil) (.node (o235_3 P) (.node (o363_3 P) .nil .nil) .nil))) (.node (o59_3 P) (.node (o91_3 P) (.node (o155_3 P) (.node (o283_3 P) .nil .nil) .nil) (.node (o219_3 P) (.node (o347_3 P) .nil .nil) .nil)) (.node (o123_3 P) (.node (o187_3 P) (.node (o315_3 P) .nil .nil) .nil) (.node (o251_3 P) .nil .nil)))))) (.node (o5_0 P) (.node (o9_0 P) (.node (o17_3 P) (.node (o33_3 P) (.node (o65_3 P) (.node (o129_3 P) (.node (o257_3 P) .nil .nil) .nil) (.node (o193_3 P) (.node (o321_3 P) .nil .nil) .nil)) (.node (o97_3 P) (.node (o161_3 P) (.node (o289_3 P) .nil .nil) .nil) (.node (o225_3 P) (.node (o353_3 P) .nil .nil) .nil))) (.node (o49_3 P) (.node (o81_3 P) (.node (o145_3 P) (.node (o273_3 P) .nil .nil) .nil) (.node (o209_3 P) (.node (o337_3 P) .nil .nil) .nil)) (.node (o113_3 P) (.node (o177_3 P) (.node (o305_3 P) .nil .nil) .nil) (.node (o241_3 P) (.node (o369_3 P) .nil .nil) .nil)))) (.node (o25_3 P) (.node (o41_3 P) (.node (o73_3 P) (.node (o137_3 P) (.node (o265_3 P) .nil .nil) .nil) (.node (o201_3 P) (.node (o329_3 P) .nil .nil) .nil)) (.node (o105_3 P) (.node (o169_3 P) (.node (o297_3 P) .nil .nil) .nil) (.node (o233_3 P) (.node (o361_3 P) .nil .nil) .nil))) (.node (o57_3 P) (.node (o89_3 P) (.node (o153_3 P) (.node (o281_3 P) .nil .nil) .nil) (.node (o217_3 P) (.node (o345_3 P) .nil .nil) .nil)) (.node (o121_3 P) (.node (o185_3 P) (.node (o313_3 P) .nil .nil) .nil) (.node (o249_3 P) .nil .nil))))) (.node (o13_1 P) (.node (o21_3 P) (.node (o37_3 P) (.node (o69_3 P) (.node (o133_3 P) (.node (o261_3 P) .nil .nil) .nil) (.node (o197_3 P) (.node (o325_3 P) .nil .nil) .nil)) (.node (o101_3 P) (.node (o165_3 P) (.node (o293_3 P) .nil .nil) .nil) (.node (o229_3 P) (.node (o357_3 P) .nil .nil) .nil))) (.node (o53_3 P) (.node (o85_3 P) (.node (o149_3 P) (.node (o277_3 P) .nil .nil) .nil) (.node (o213_3 P) (.node (o341_3 P) .nil .nil) .nil)) (.node (o117_3 P) (.node (o181_3 P) (.node (o309_3 P) .nil .nil) .nil) (.node (o245_3 P) .nil .nil)))) (.node (o29_3 P) (.node (o45_3 P) (.node (o77_3 P) (.node (o141_3 P) (.node (o269_3 P) .nil .nil) .nil) (.node (o205_3 P) (.node (o333_3 P) .nil .nil) .nil)) (.node (o109_3 P) (.node (o173_3 P) (.node (o301_3 P) .nil .nil) .nil) (.node (o237_3 P) (.node (o365_3 P) .nil .nil) .nil))) (.node (o61_3 P) (.node (o93_3 P) (.node (o157_3 P) (.node (o285_3 P) .nil .nil) .nil) (.node (o221_3 P) (.node (o349_3 P) .nil .nil) .nil)) (.node (o125_3 P) (.node (o189_3 P) (.node (o317_3 P) .nil .nil) .nil) (.node (o253_3 P) .nil .nil))))))) (.node (o2_0 P) (.node (o4_0 P) (.node (o8_0 P) (.node (o16_3 P) (.node (o32_3 P) (.node (o64_3 P) (.node (o128_3 P) (.node (o256_3 P) .nil .nil) .nil) (.node (o192_3 P) (.node (o320_3 P) .nil .nil) .nil)) (.node (o96_3 P) (.node (o160_3 P) (.node (o288_3 P) .nil .nil) .nil) (.node (o224_3 P) (.node (o352_3 P) .nil .nil) .nil))) (.node (o48_3 P) (.node (o80_3 P) (.node (o144_3 P) (.node (o272_3 P) .nil .nil) .nil) (.node (o208_3 P) (.node (o336_3 P) .nil .nil) .nil)) (.node (o112_3 P) (.node (o176_3 P) (.node (o304_3 P) .nil .nil) .nil) (.node (o240_3 P) (.node (o368_3 P) .nil .nil) .nil)))) (.node (o24_3 P) (.node (o40_3 P) (.node (o72_3 P) (.node (o136_3 P) (.node (o264_3 P) .nil .nil) .nil) (.node (o200_3 P) (.node (o328_3 P) .nil .nil) .nil)) (.node (o104_3 P) (.node (o168_3 P) (.node (o296_3 P) .nil .nil) .nil) (.node (o232_3 P) (.node (o360_3 P) .nil .nil) .nil))) (.node (o56_3 P) (.node (o88_3 P) (.node (o152_3 P) (.node (o280_3 P) .nil .nil) .nil) (.node (o216_3 P) (.node (o344_3 P) .nil .nil) .nil)) (.node (o120_3 P) (.node (o184_3 P) (.node (o312_3 P) .nil .nil) .nil) (.node (o248_3 P) .nil .nil))))) (.node (o12_3 P) (.node (o20_3 P) (.node (o36_3 P) (.node (o68_3 P) (.node (o132_3 P) (.node (o260_3 P) .nil .nil) .nil) (.node (o196_3 P) (.node (o324_3 P) .nil .nil) .nil)) (.node (o100_3 P) (.node (o164_3 P) (.node (o292_3 P) .nil .nil) .nil) (.node (o228_3 P) (.node (o356_3 P) .nil .nil) .nil))) (.node (o52_3 P) (.node (o84_3 P) (.node (o148_3 P) (.node (o276_3 P) .nil .nil) .nil) (.node (o212_3 P) (.node (o340_3 P) .nil .nil) .nil)) (.node (o116_3 P) (.node (o180_3 P) (.node (o308_3 P) .nil .nil) .nil) (.node (o244_3 P) .nil .nil)))) (.node (o28_3 P) (.node (o44_3 P) (.node (o76_3 P) (.node (o140_3 P) (.node (o268_3 P) .nil .nil) .nil) (.node (o204_3 P) (.node (o332_3 P) .nil .nil) .nil)) (.node (o108_3 P) (.node (o172_3 P) (.node (o300_3 P) .nil .nil) .nil) (.node (o236_3 P) (.node (o364_3 P) .nil .nil) .nil))) (.node (o60_3 P) (.node (o92_3 P) (.node (o156_3 P) (.node (o284_3 P) .nil .nil) .nil) (.node (o220_3 P) (.node (o348_3 P) .nil .nil) .nil)) (.node (o124_3 P) (.node (o188_3 P) (.node (o316_3 P) .nil .nil) .nil) (.node (o252_3 P) .nil .nil)))))) (.node (o6_0 P) (.node (o10_0 P) (.node (o18_3 P) (.node (o34_3 P) (.node (o66_3 P) (.node (o130_3 P) (.node (o258_3 P) .nil .nil) .nil) (.node (o194_3 P) (.node (o322_3 P) .nil .nil) .nil)) (.node (o98_3 P) (.node (o162_3 P) (.node (o290_3 P) .nil .nil) .nil) (.node (o226_3 P) (.node (o354_3 P) .nil .nil) .nil))) (.node (o50_3 P) (.node (o82_3 P) (.node (o146_3 P) (.node (o274_3 P) .nil .nil) .nil) (.node (o210_3 P) (.node (o338_3 P) .nil .nil) .nil)) (.node (o114_3 P) (.node (o178_3 P) (.node (o306_3 P) .nil .nil) .nil) (.node (o242_3 P) (.node (o370_3 P) .nil .nil) .nil)))) (.node (o26_3 P) (.node (o42_3 P) (.node (o74_3 P) (.node (o138_3 P) (.node (o266_3 P) .nil .nil) .nil) (.node (o202_3 P) (.node (o330_3 P) .nil .nil) .nil)) (.node (o106_3 P) (.node (o170_3 P) (.node (o298_3 P) .nil .nil) .nil) (.node (o234_3 P) (.node (o362_3 P) .nil .nil) .nil))) (.node (o58_3 P) (.node (o90_3 P) (.node (o154_3 P) (.node (o282_3 P) .nil .nil) .nil) (.node (o218_3 P) (.node (o346_3 P) .nil .nil) .nil)) (.node (o122_3 P) (.node (o186_3 P) (.node (o314_3 P) .nil .nil) .nil) (.node (o250_3 P) .nil .nil))))) (.node (o14_1 P) (.node (o22_3 P) (.node (o38_3 P) (.node (o70_3 P) (.node (o134_3 P) (.node (o262_3 P) .nil .nil) .nil) (.node (o198_3 P) (.node (o326_3 P) .nil .nil) .nil)) (.node (o102_3 P) (.node (o166_3 P) (.node (o294_3 P) .nil .nil) .nil) (.node (o230_3 P) (.node (o358_3 P) .nil .nil) .nil))) (.node (o54_3 P) (.node (o86_3 P) (.node (o150_3 P) (.node (o278_3 P) .nil .nil) .nil) (.node (o214_3 P) (.node (o342_3 P) .nil .nil) .nil)) (.node (o118_3 P) (.node (o182_3 P) (.node (o310_3 P) .nil .nil) .nil) (.node (o246_3 P) .nil .nil)))) (.node (o30_3 P) (.node (o46_3 P) (.node (o78_3 P) (.node (o142_3 P) (.node (o270_3 P) .nil .nil) .nil) (.node (o206_3 P) (.node (o334_3 P) .nil .nil) .nil)) (.node (o110_3 P) (.node (o174_3 P) (.node (o302_3 P) .nil .nil) .nil) (.node (o238_3 P) (.node (o366_3 P) .nil .nil) .nil))) (.node (o62_3 P) (.node (o94_3 P) (.node (o158_3 P) (.node (o286_3 P) .nil .nil) .nil) (.node (o222_3 P) (.node (o350_3 P) .nil .nil) .nil)) (.node (o126_3 P) (.node (o190_3 P) (.node (o318_3 P) .nil .nil) .nil) (.node (o254_3 P) .nil .nil))))))))
def X3 (w : World) (os : OsState) : SharedT := ⟨T3 w.params, 371, lf, ⟨[]⟩, ⟨0, 0, 0, 0⟩, 671, os⟩
def o3_4 (P : Params) : Obj := ⟨(.type "dict"), none, (.dict ⟨[en P "__name__" 165 (sv "law_watchedways_k35_whole_leavings_of_made_o" 630), en P "__doc__" 166 .none, en P "__package__" 167 .none, en P "__loader__" 168 (.builtin "__main__.__loader__#opaque"), en P "__spec__" 169 .none, en P "__annotations__" 170 (.ref 6), en P "__builtins__" 171 (.ref 4), en P "__file__" 173 (sv "/claim/cut.py" 172), en P "__cached__" 174 .none, en P "WayError" 215 (.ref 31), en P "BadReckoning" 231 (.ref 44), en P "BadWorth" 247 (.ref 56), en P "TooMany" 270 (.ref 75), en P "is_integer" 279 (.ref 84), en P "is_row" 286 (.ref 91), en P "FEWEST_WORTHS" 290 (.int (2) 289), en P "MOST_WORTHS" 292 (.int (16) 291), en P "first_fault" 302 (.ref 98), en P "size_fault" 313 (.ref 105), en P "is_square" 319 (.ref 110), en P "is_side" 325 (.ref 115), en P "is_below" 333 (.ref 122), en P "none_fault" 343 (.ref 129), en P "one_fault" 352 (.ref 136), en P "idle_fault" 360 (.ref 143), en P "swap_fault" 369 (.ref 150), en P "grouping_fault" 381 (.ref 157), en P "over_fault" 394 (.ref 164), en P "same_fault" 402 (.ref 171), en P "check_worths" 414 (.ref 178), en P "Reckoning" 555 (.ref 278), en P "check_told" 562 (.ref 289), en P "MOST_THINGS" 566 (.int (4) 565), en P "turned" 573 (.ref 296), en P "beside" 582 (.ref 303), en P "lots" 588 (.ref 308), en P "chain" 596 (.ref 315), en P "greater_ones" 602 (.ref 320), en P "side_by_side" 608 (.ref 325), en P "lots_fault" 616 (.ref 332), en P "product_of_lots" 629 (.ref 339), en P "_law_hand" 637 (.ref 344), en P "_law_draw" 648 (.ref 351), en P "_law_times" 654 (.ref 356), en P "_law_monoid" 662 (.ref 363), en P "_law_in" 670 (.ref 370), en P "_law_lots_right" 676 (.ref 375), en P "_law_beside_right" 693 (.ref 382), en P "_law_turned_right" 706 (.ref 389), en P "law" 720 (.ref 396)]⟩ 50), ⟨[]⟩⟩
def o12_4 (P : Params) : Obj := ⟨.none, none, (.fields ⟨[(.int (2) 0), (.int (0) 0), (.ref 20), (.int (6) 0), (.int (0) 0), (.ref 40), (.int (8) 0), (.int (0) 0), (.ref 52), (.int (10) 0), (.int (0) 0), (.ref 64), (.int (15) 0), (.int (0) 0), (.ref 83), (.int (17) 0), (.int (0) 0), (.ref 90), (.int (22) 0), (.int (0) 0), (.ref 97), (.int (24) 0), (.int (0) 0), (.ref 104), (.int (33) 0), (.int (0) 0), (.ref 109), (.int (35) 0), (.int (0) 0), (.ref 114), (.int (37) 0), (.int (0) 0), (.ref 121), (.int (39) 0), (.int (0) 0), (.ref 128), (.int (46) 0), (.int (0) 0), (.ref 135), (.int (51) 0), (.int (0) 0), (.ref 142), (.int (56) 0), (.int (0) 0), (.ref 149), (.int (62) 0), (.int (0) 0), (.ref 156), (.int (70) 0), (.int (0) 0), (.ref 163), (.int (81) 0), (.int (0) 0), (.ref 170), (.int (84) 0), (.int (0) 0), (.ref 177), (.int (89) 0), (.int (0) 0), (.ref 184), (.int (158) 0), (.int (0) 0), (.ref 288), (.int (163) 0), (.int (0) 0), (.ref 295), (.int (166) 0), (.int (0) 0), (.ref 302), (.int (173) 0), (.int (0) 0), (.ref 307), (.int (179) 0), (.int (0) 0), (.ref 314), (.int (182) 0), (.int (0) 0), (.ref 319), (.int (184) 0), (.int (0) 0), (.ref 324), (.int (188) 0), (.int (0) 0), (.ref 331), (.int (194) 0), (.int (0) 0), (.ref 338), (.int (203) 0), (.int (0) 0), (.ref 343), (.int (206) 0), (.int (0) 0), (.ref 350), (.int (222) 0), (.int (0) 0), (.ref 355), (.int (233) 0), (.int (0) 0), (.ref 362), (.int (238) 0), (.int (0) 0), (.ref 369), (.int (240) 0), (.int (0) 0), (.ref 374), (.int (261) 0), (.int (0) 0), (.ref 381), (.int (280) 0), (.int (0) 0), (.ref 388), (.int (294) 0), (.int (0) 0), (.ref 395)]⟩), ⟨[]⟩⟩
def o371_4 (P : Params) : Obj := ⟨(.type "tuple"), none, (.seq ⟨[]⟩ 0), ⟨[]⟩⟩
def o372_4 (P : Params) : Obj := ⟨.none, none, (.fields ⟨[]⟩), ⟨[]⟩⟩
def o373_4 (P : Params) : Obj := ⟨.none, none, (.func ⟨(ns "_law_lots_right"), (ns "_law_lots_right"), defArgs (top 44), .stmts (defBody (top 44)), defScope (top 44), 0, [], .none, .none, .none, .none, none, .none, .none, 0⟩), ⟨[]⟩⟩
def o374_4 (P : Params) : Obj := ⟨(.type "code"), none, (.fields ⟨[(sv "_law_lots_right" 671), (sv "_law_lots_right" 672), (sv "/claim/cut.py" 673), (.int (240) 0), (.int (3) 0), (.int (0) 0), (.int (0) 0), (.int (3) 0), (.ref 371), (.bool true), (.int (181) 0), (.ref 372), .none, .none, .none, (.ref 373), (.int (674) 0), (.int (240) 0), (sv "/claim/cut.py" 675)]⟩), ⟨[]⟩⟩
def o375_4 (P : Params) : Obj := ⟨(.type "function"), none, (.func ⟨(ns "_law_lots_right"), (ns "_law_lots_right"), defArgs (top 44), .stmts (defBody (top 44)), defScope (top 44), 3, [], .none, .none, .none, (sv "law_watchedways_k35_whole_leavings_of_made_o" 630), none, (.ref 374), .none, 0⟩), ⟨[]⟩⟩
def o376_4 (P : Params) : Obj := ⟨(.type "tuple"), none, (.seq ⟨[]⟩ 0), ⟨[]⟩⟩
def o377_4 (P : Params) : Obj := ⟨.none, none, (.fields ⟨[]⟩), ⟨[]⟩⟩
def o378_4 (P : Params) : Obj := ⟨(.type "tuple"), none, (.seq ⟨[(sv "hand" 680), (sv "one" 681), (sv "other" 682), (sv "sizes" 683), (sv "both" 684), (sv "many" 685), (sv "turn" 686), (sv "a" 687), (sv "b" 688), (sv "x" 689), (sv "y" 690)]⟩ 0), ⟨[]⟩⟩
def o379_4 (P : Params) : Obj := ⟨(.type "tuple"), none, (.seq ⟨[]⟩ 0), ⟨[]⟩⟩
def o380_4 (P : Params) : Obj := ⟨.none, none, (.func ⟨(ns "_law_beside_right"), (ns "_law_beside_right"), defArgs (top 45), .stmts (defBody (top 45)), defScope (top 45), 0, [], .none, .none, .none, .none, none, .none, .none, 0⟩), ⟨[]⟩⟩
def o381_4 (P : Params) : Obj := ⟨(.type "code"), none, (.fields ⟨[(sv "_law_beside_right" 677), (sv "_law_beside_right" 678), (sv "/claim/cut.py" 679), (.int (261) 0), (.int (4) 0), (.int (0) 0), (.int (0) 0), (.int (3) 0), (.ref 376), (.bool true), (.int (181) 0), (.ref 377), .none, (.ref 378), (.ref 379), (.ref 380), (.int (691) 0), (.int (261) 0), (sv "/claim/cut.py" 692)]⟩), ⟨[]⟩⟩
def o382_4 (P : Params) : Obj := ⟨(.type "function"), none, (.func ⟨(ns "_law_beside_right"), (ns "_law_beside_right"), defArgs (top 45), .stmts (defBody (top 45)), defScope (top 45), 3, [], .none, .none, .none, (sv "law_watchedways_k35_whole_leavings_of_made_o" 630), none, (.ref 381), .none, 0⟩), ⟨[]⟩⟩
def o383_4 (P : Params) : Obj := ⟨(.type "tuple"), none, (.seq ⟨[]⟩ 0), ⟨[]⟩⟩
def o384_4 (P : Params) : Obj := ⟨.none, none, (.fields ⟨[]⟩), ⟨[]⟩⟩
def o385_4 (P : Params) : Obj := ⟨(.type "tuple"), none, (.seq ⟨[(sv "hand" 697), (sv "reckoning" 698), (sv "size" 699), (sv "other" 700), (sv "turn" 701), (sv "a" 702), (sv "b" 703)]⟩ 0), ⟨[]⟩⟩
def o386_4 (P : Params) : Obj := ⟨(.type "tuple"), none, (.seq ⟨[]⟩ 0), ⟨[]⟩⟩
def o387_4 (P : Params) : Obj := ⟨.none, none, (.func ⟨(ns "_law_turned_right"), (ns "_law_turned_right"), defArgs (top 46), .stmts (defBody (top 46)), defScope (top 46), 0, [], .none, .none, .none, .none, none, .none, .none, 0⟩), ⟨[]⟩⟩
def o388_4 (P : Params) : Obj := ⟨(.type "code"), none, (.fields ⟨[(sv "_law_turned_right" 694), (sv "_law_turned_right" 695), (sv "/claim/cut.py" 696), (.int (280) 0), (.int (3) 0), (.int (0) 0), (.int (0) 0), (.int (3) 0), (.ref 383), (.bool true), (.int (181) 0), (.ref 384), .none, (.ref 385), (.ref 386), (.ref 387), (.int (704) 0), (.int (280) 0), (sv "/claim/cut.py" 705)]⟩), ⟨[]⟩⟩
def o389_4 (P : Params) : Obj := ⟨(.type "function"), none, (.func ⟨(ns "_law_turned_right"), (ns "_law_turned_right"), defArgs (top 46), .stmts (defBody (top 46)), defScope (top 46), 3, [], .none, .none, .none, (sv "law_watchedways_k35_whole_leavings_of_made_o" 630), none, (.ref 388), .none, 0⟩), ⟨[]⟩⟩
def o390_4 (P : Params) : Obj := ⟨(.type "tuple"), none, (.seq ⟨[]⟩ 0), ⟨[]⟩⟩
def o391_4 (P : Params) : Obj := ⟨.none, none, (.fields ⟨[]⟩), ⟨[]⟩⟩
def o392_4 (P : Params) : Obj := ⟨(.type "tuple"), none, (.seq ⟨[(sv "script" 710), (sv "hand" 711), (sv "products" 712), (sv "one" 713), (sv "first" 714), (sv "second" 715), (sv "small" 716), (sv "yes" 717)]⟩ 0), ⟨[]⟩⟩
def o393_4 (P : Params) : Obj := ⟨(.type "tuple"), none, (.seq ⟨[]⟩ 0), ⟨[]⟩⟩
def o394_4 (P : Params) : Obj := ⟨.none, none, (.func ⟨(ns "law"), (ns "law"), defArgs (top 47), .stmts (defBody (top 47)), defScope (top 47), 0, [], .none, .none, .none, .none, none, .none, .none, 0⟩), ⟨[]⟩⟩
def o395_4 (P : Params) : Obj := ⟨(.type "code"), none, (.fields ⟨[(sv "law" 707), (sv "law" 708), (sv "/claim/cut.py" 709), (.int (294) 0), (.int (1) 0), (.int (0) 0), (.int (0) 0), (.int (3) 0), (.ref 390), (.bool true), (.int (181) 0), (.ref 391), .none, (.ref 392), (.ref 393), (.ref 394), (.int (718) 0), (.int (294) 0), (sv "/claim/cut.py" 719)]⟩), ⟨[]⟩⟩
def o396_4 (P : Params) : Obj := ⟨(.type "function"), none, (.func ⟨(ns "law"), (ns "law"), defArgs (top 47), .stmts (defBody (top 47)), defScope (top 47), 3, [], .none, .none, .none, (sv "law_watchedways_k35_whole_leavings_of_made_o" 630), none, (.ref 395), .none, 0⟩), ⟨[]⟩⟩
def T4 (P : Params) : BT := (.node (o0_0 P) (.node (o1_0 P) (.node (o3_4 P) (.node (o7_0 P) (.node (o15_3 P) (.node (o31_3 P) (.node (o63_3 P) (.node (o127_3 P) (.node (o255_3 P) .nil .nil) (.node (o383_4 P) .nil .nil)) (.node (o191_3 P) (.node (o319_3 P) .nil .nil) .nil)) (.node (o95_3 P) (.node (o159_3 P) (.node (o287_3 P) .nil .nil) .nil) (.node (o223_3 P) (.node (o351_3 P) .nil .nil) .nil))) (.node (o47_3 P) (.node (o79_3 P) (.node (o143_3 P) (.node (o271_3 P) .nil .nil) .nil) (.node (o207_3 P) (.node (o335_3 P) .nil .nil) .nil)) (.node (o111_3 P) (.node (o175_3 P) (.node (o303_3 P) .nil .nil) .nil) (.node (o239_3 P) (.node (o367_3 P) .nil .nil) .nil)))) (.node (o23_3 P) (.node (o39_3 P) (.node (o71_3 P) (.node (o135_3 P) (.node (o263_3 P) .nil .nil) (.node (o391_4 P) .nil .nil)) (.node (o199_3 P) (.node (o327_3 P) .nil .nil) .nil)) (.node (o103_3 P) (.node (o167_3 P) (.node (o295_3 P) .nil .nil) .nil) (.node (o231_3 P) (.node (o359_3 P) .nil .nil) .nil))) (.node (o55_3 P) (.node (o87_3 P) (.node (o151_3 P) (.node (o279_3 P) .nil .nil) .nil) (.node (o215_3 P) (.node (o343_3 P) .nil .nil) .nil)) (.node (o119_3 P) (.node (o183_3 P) (.node (o311_3 P) .nil .nil) .nil) (.node (o247_3 P) (.node (o375_4 P) .nil .nil) .nil))))) (.node (o11_1 P) (.node (o19_3 P) (.node (o35_3 P) (.node (o67_3 P) (.node (o131_3 P) (.node (o259_3 P) .nil .nil) (.node (o387_4 P) .nil .nil)) (.node (o195_3 P) (.node (o323_3 P) .nil .nil) .nil)) (.node (o99_3 P) (.node (o163_3 P) (.node (o291_3 P) .nil .nil) .nil) (.node (o227_3 P) (.node (o355_3 P) .nil .nil) .nil))) (.node (o51_3 P) (.node (o83_3 P) (.node (o147_3 P) (.node (o275_3 P) .nil .nil) .nil) (.node (o211_3 P) (.node (o339_3 P) .nil .nil) .nil)) (.node (o115_3 P) (.node (o179_3 P) (.node (o307_3 P) .nil .nil) .nil) (.node (o243_3 P) (.node (o371_4 P) .nil .nil) .nil)))) (.node (o27_3 P) (.node (o43_3 P) (.node (o75_3 P) (.node (o139_3 P) (.node (o267_3 P) .nil .nil) (.node (o395_4 P) .nil .nil)) (.node (o203_3 P) (.node (o331_3 P) .nil .nil) .nil)) (.node (o107_3 P) (.node (o171_3 P) (.node (o299_3 P) .nil .nil) .nil) (.node (o235_3 P) (.node (o363_3 P) .nil .nil) .nil))) (.node (o59_3 P) (.node (o91_3 P) (.node (o155_3 P) (.node (o283_3 P) .nil .nil) .nil) (.node (o219_3 P) (.node (o347_3 P) .nil .nil) .nil)) (.node (o123_3 P) (.node (o187_3 P) (.node (o315_3 P) .nil .nil) .nil) (.node (o251_3 P) (.node (o379_4 P) .nil .nil) .nil)))))) (.node (o5_0 P) (.node (o9_0 P) (.node (o17_3 P) (.node (o33_3 P) (.node (o65_3 P) (.node (o129_3 P) (.node (o257_3 P) .nil .nil) (.node (o385_4 P) .nil .nil)) (.node (o193_3 P) (.node (o321_3 P) .nil .nil) .nil)) (.node (o97_3 P) (.node (o161_3 P) (.node (o289_3 P) .nil .nil) .nil) (.node (o225_3 P) (.node (o353_3 P) .nil .nil) .nil))) (.node (o49_3 P) (.node (o81_3 P) (.node (o145_3 P) (.node (o273_3 P) .nil .nil) .nil) (.node (o209_3 P) (.node (o337_3 P) .nil .nil) .nil)) (.node (o113_3 P) (.node (o177_3 P) (.node (o305_3 P) .nil .nil) .nil) (.node (o241_3 P) (.node (o369_3 P) .nil .nil) .nil)))) (.node (o25_3 P) (.node (o41_3 P) (.node (o73_3 P) (.node (o137_3 P) (.node (o265_3 P) .nil .nil) (.node (o393_4 P) .nil .nil)) (.node (o201_3 P) (.node (o329_3 P) .nil .nil) .nil)) (.node (o105_3 P) (.node (o169_3 P) (.node (o297_3 P) .nil .nil) .nil) (.node (o233_3 P) (.node (o361_3 P) .nil .nil) .nil))) (.node (o57_3 P) (.node (o89_3 P) (.node (o153_3 P) (.node (o281_3 P) .nil .nil) .nil) (.node (o217_3 P) (.node (o345_3 P) .nil .nil) .nil)) (.node (o121_3 P) (.node (o185_3 P) (.node (o313_3 P) .nil .nil) .nil) (.node (o249_3 P) (.node (o377_4 P) .nil .nil) .nil))))) (.node (o13_1 P) (.node (o21_3 P) (.node (o37_3 P) (.node (o69_3 P) (.node (o133_3 P) (.node (o261_3 P) .nil .nil) (.node (o389_4 P) .nil .nil)) (.node (o197_3 P) (.node (o325_3 P) .nil .nil) .nil)) (.node (o101_3 P) (.node (o165_3 P) (.node (o293_3 P) .nil .nil) .nil) (.node (o229_3 P) (.node (o357_3 P) .nil .nil) .nil))) (.node (o53_3 P) (.node (o85_3 P) (.node (o149_3 P) (.node (o277_3 P) .nil .nil) .nil) (.node (o213_3 P) (.node (o341_3 P) .nil .nil) .nil)) (.node (o117_3 P) (.node (o181_3 P) (.node (o309_3 P) .nil .nil) .nil) (.node (o245_3 P) (.node (o373_4 P) .nil .nil) .nil)))) (.node (o29_3 P) (.node (o45_3 P) (.node (o77_3 P) (.node (o141_3 P) (.node (o269_3 P) .nil .nil) .nil) (.node (o205_3 P) (.node (o333_3 P) .nil .nil) .nil)) (.node (o109_3 P) (.node (o173_3 P) (.node (o301_3 P) .nil .nil) .nil) (.node (o237_3 P) (.node (o365_3 P) .nil .nil) .nil))) (.node (o61_3 P) (.node (o93_3 P) (.node (o157_3 P) (.node (o285_3 P) .nil .nil) .nil) (.node (o221_3 P) (.node (o349_3 P) .nil .nil) .nil)) (.node (o125_3 P) (.node (o189_3 P) (.node (o317_3 P) .nil .nil) .nil) (.node (o253_3 P) (.node (o381_4 P) .nil .nil) .nil))))))) (.node (o2_0 P) (.node (o4_0 P) (.node (o8_0 P) (.node (o16_3 P) (.node (o32_3 P) (.node (o64_3 P) (.node (o128_3 P) (.node (o256_3 P) .nil .nil) (.node (o384_4 P) .nil .nil)) (.node (o192_3 P) (.node (o320_3 P) .nil .nil) .nil)) (.node (o96_3 P) (.node (o160_3 P) (.node (o288_3 P) .nil .nil) .nil) (.node (o224_3 P) (.node (o352_3 P) .nil .nil) .nil))) (.node (o48_3 P) (.node (o80_3 P) (.node (o144_3 P) (.node (o272_3 P) .nil .nil) .nil) (.node (o208_3 P) (.node (o336_3 P) .nil .nil) .nil)) (.node (o112_3 P) (.node (o176_3 P) (.node (o304_3 P) .nil .nil) .nil) (.node (o240_3 P) (.node (o368_3 P) .nil .nil) .nil)))) (.node (o24_3 P) (.node (o40_3 P) (.node (o72_3 P) (.node (o136_3 P) (.node (o264_3 P) .nil .nil) (.node (o392_4 P) .nil .nil)) (.node (o200_3 P) (.node (o328_3 P) .nil .nil) .nil)) (.node (o104_3 P) (.node (o168_3 P) (.node (o296_3 P) .nil .nil) .nil) (.node (o232_3 P) (.node (o360_3 P) .nil .nil) .nil))) (.node (o56_3 P) (.node (o88_3 P) (.node (o152_3 P) (.node (o280_3 P) .nil .nil) .nil) (.node (o216_3 P) (.node (o344_3 P) .nil .nil) .nil)) (.node (o120_3 P) (.node (o184_3 P) (.node (o312_3 P) .nil .nil) .nil) (.node (o248_3 P) (.node (o376_4 P) .nil .nil) .nil))))) (.node (o12_4 P) (.node (o20_3 P) (.node (o36_3 P) (.node (o68_3 P) (.node (o132_3 P) (.node (o260_3 P) .nil .nil) (.node (o388_4 P) .nil .nil)) (.node (o196_3 P) (.node (o324_3 P) .nil .nil) .nil)) (.node (o100_3 P) (.node (o164_3 P) (.node (o292_3 P) .nil .nil) .nil) (.node (o228_3 P) (.node (o356_3 P) .nil .nil) .nil))) (.node (o52_3 P) (.node (o84_3 P) (.node (o148_3 P) (.node (o276_3 P) .nil .nil) .nil) (.node (o212_3 P) (.node (o340_3 P) .nil .nil) .nil)) (.node (o116_3 P) (.node (o180_3 P) (.node (o308_3 P) .nil .nil) .nil) (.node (o244_3 P) (.node (o372_4 P) .nil .nil) .nil)))) (.node (o28_3 P) (.node (o44_3 P) (.node (o76_3 P) (.node (o140_3 P) (.node (o268_3 P) .nil .nil) (.node (o396_4 P) .nil .nil)) (.node (o204_3 P) (.node (o332_3 P) .nil .nil) .nil)) (.node (o108_3 P) (.node (o172_3 P) (.node (o300_3 P) .nil .nil) .nil) (.node (o236_3 P) (.node (o364_3 P) .nil .nil) .nil))) (.node (o60_3 P) (.node (o92_3 P) (.node (o156_3 P) (.node (o284_3 P) .nil .nil) .nil) (.node (o220_3 P) (.node (o348_3 P) .nil .nil) .nil)) (.node (o124_3 P) (.node (o188_3 P) (.node (o316_3 P) .nil .nil) .nil) (.node (o252_3 P) (.node (o380_4 P) .nil .nil) .nil)))))) (.node (o6_0 P) (.node (o10_0 P) (.node (o18_3 P) (.node (o34_3 P) (.node (o66_3 P) (.node (o130_3 P) (.node (o258_3 P) .nil .nil) (.node (o386_4 P) .nil .nil)) (.node (o194_3 P) (.node (o322_3 P) .nil .nil) .nil)) (.node (o98_3 P) (.node (o162_3 P) (.node (o290_3 P) .nil .nil) .nil) (.node (o226_3 P) (.node (o354_3 P) .nil .nil) .nil))) (.node (o50_3 P) (.node (o82_3 P) (.node (o146_3 P) (.node (o274_3 P) .nil .nil) .nil) (.node (o210_3 P) (.node (o338_3 P) .nil .nil) .nil)) (.node (o114_3 P) (.node (o178_3 P) (.node (o306_3 P) .nil .nil) .nil) (.node (o242_3 P) (.node (o370_3 P) .nil .nil) .nil)))) (.node (o26_3 P) (.node (o42_3 P) (.node (o74_3 P) (.node (o138_3 P) (.node (o266_3 P) .nil .nil) (.node (o394_4 P) .nil .nil)) (.node (o202_3 P) (.node (o330_3 P) .nil .nil) .nil)) (.node (o106_3 P) (.node (o170_3 P) (.node (o298_3 P) .nil .nil) .nil) (.node (o234_3 P) (.node (o362_3 P) .nil .nil) .nil))) (.node (o58_3 P) (.node (o90_3 P) (.node (o154_3 P) (.node (o282_3 P) .nil .nil) .nil) (.node (o218_3 P) (.node (o346_3 P) .nil .nil) .nil)) (.node (o122_3 P) (.node (o186_3 P) (.node (o314_3 P) .nil .nil) .nil) (.node (o250_3 P) (.node (o378_4 P) .nil .nil) .nil))))) (.node (o14_1 P) (.node (o22_3 P) (.node (o38_3 P) (.node (o70_3 P) (.node (o134_3 P) (.node (o262_3 P) .nil .nil) (.node (o390_4 P) .nil .nil)) (.node (o198_3 P) (.node (o326_3 P) .nil .nil) .nil)) (.node (o102_3 P) (.node (o166_3 P) (.node (o294_3 P) .nil .nil) .nil) (.node (o230_3 P) (.node (o358_3 P) .nil .nil) .nil))) (.node (o54_3 P) (.node (o86_3 P) (.node (o150_3 P) (.node (o278_3 P) .nil .nil) .nil) (.node (o214_3 P) (.node (o342_3 P) .nil .nil) .nil)) (.node (o118_3 P) (.node (o182_3 P) (.node (o310_3 P) .nil .nil) .nil) (.node (o246_3 P) (.node (o374_4 P) .nil .nil) .nil)))) (.node (o30_3 P) (.node (o46_3 P) (.node (o78_3 P) (.node (o142_3 P) (.node (o270_3 P) .nil .nil) .nil) (.node (o206_3 P) (.node (o334_3 P) .nil .nil) .nil)) (.node (o110_3 P) (.node (o174_3 P) (.node (o302_3 P) .nil .nil) .nil) (.node (o238_3 P) (.node (o366_3 P) .nil .nil) .nil))) (.node (o62_3 P) (.node (o94_3 P) (.node (o158_3 P) (.node (o286_3 P) .nil .nil) .nil) (.node (o222_3 P) (.node (o350_3 P) .nil .nil) .nil)) (.node (o126_3 P) (.node (o190_3 P) (.node (o318_3 P) .nil .nil) .nil) (.node (o254_3 P) (.node (o382_4 P) .nil .nil) .nil))))))))
def X4 (w : World) (os : OsState) : SharedT := ⟨T4 w.params, 397, lf, ⟨[]⟩, ⟨0, 0, 0, 0⟩, 721, os⟩

def env : Env := { scope := pp.main.scope, locals := mainNs, globals := mainNs, cells := [], code := (.ref 13), frame := some 14 }
def ann : Option Value := (some (.ref 6))
def cB : Code := .body (behindTheImports pp) env
def q0 : Pos := ⟨0, 0, 0, 0⟩
abbrev Rw : PySem.W.OpenRow := PySem.W.OpenLaw.row PySem.Challenge.rw_watchedways_k35_whole_leavings_of_made_o
def sg0 : List Stmt := [top 0, top 1, top 2, top 3, top 4, top 5, top 6, top 7, top 8, top 9, top 10, top 11, top 12, top 13, top 14, top 15, top 16, top 17, top 18, top 19, top 20, top 21, top 22, top 23, top 24, top 25, top 26, top 27, top 28, top 29, top 30, top 31, top 32, top 33, top 34, top 35, top 36, top 37, top 38, top 39, top 40, top 41, top 42, top 43]
def sg1 : List Stmt := [top 44, top 45, top 46, top 47]
set_option maxHeartbeats 0
theorem hb : behindTheImports pp = sg0 ++ (sg1 ++ ([])) := by kernel_rfl
theorem pre (w : World) (os : OsState) : goT (stQ pp w) (okQ 11 ann) 12 (X0 w os) (topStub pp) = some (X1 w os, ⟨denQ tabQ cB, cB, ⟨0, 0, 0, 0⟩, [topFrame q0]⟩) := by kernel_rfl
theorem blk (w : World) (os : OsState) : goE (stQ pp w) (okQ 11 ann) 1 (X1 w os) ⟨(blockQ (behindTheImports pp) env).wrap (fun _ => doneF .next) deadEnd id id, cB, ⟨0, 0, 0, 0⟩, [topFrame q0]⟩ = some (.next, X2 w os, cB, ⟨0, 0, 0, 0⟩) := by kernel_rfl
theorem seg0 (w : World) (os : OsState) : goE (stQ pp w) (okQ 11 ann) 2486 (X2 w os) ⟨(execsQ sg0 env).wrap doneF deadEnd id id, cB, ⟨0, 0, 0, 0⟩, [topFrame q0]⟩ = some (.next, X3 w os, cB, ⟨238, 0, 239, 32⟩) := by kernel_rfl
theorem seg1 (w : World) (os : OsState) : goE (stQ pp w) (okQ 11 ann) 137 (X3 w os) ⟨(execsQ sg1 env).wrap doneF deadEnd id id, cB, ⟨238, 0, 239, 32⟩, [topFrame q0]⟩ = some (.next, X4 w os, cB, ⟨294, 0, 308, 71⟩) := by kernel_rfl
theorem fin (w : World) (os : OsState) : goF (stQ pp w) 11 ann 2 (X4 w os) ⟨doneF .next, cB, ⟨294, 0, 308, 71⟩, [topFrame q0]⟩ = some (X4 w os) := by kernel_rfl
def os0 : OsState := (start (opening pp)).1.os
def MT : Nat := 12 + (1 + (2486 + (137 + (2))))
theorem run (w : World) : topRun treeTable pp w 11 ann MT (X0 w os0).abs (topStub pp) = some (X4 w os0).abs := by
  have all : ∀ os : OsState, topRun treeTable pp w 11 ann MT (X0 w os).abs (topStub pp) = some (X4 w os).abs := fun os => by
    have k := piece_app (goE_q (seg0 w os)) (piece_app (goE_q (seg1 w os)) (piece_nil (goF_q (fin w os))))
    rw [← hb] at k
    exact go_top (goT_q (pre w os)) (piece_block (goB_q (blk w os)) k)
  exact all os0
theorem boot (w : World) : (openF (fun q => stQ q w) fenceQ 30000 pp).bind treeOf = some (X0 w os0) := by kernel_rfl
theorem size (w : World) : ((X0 w os0).abs.heap.isNs mainGlobals && (X0 w os0).abs.gens.size == 0, (X0 w os0).abs.heap.objs.size, (X0 w os0).abs.heap.nsMap mainGlobals "__annotations__") = (true, 11, ann) := by kernel_rfl
theorem looks (w : World) : looksF pp (X0 w os0).abs.heap (X4 w os0).abs = true := by kernel_rfl
theorem seen_ (w : World) : seenQ (PySem.W.view pp [47]) looseH (importedModules pp.main.body) (fun s => xlAt (PySem.W.view pp [47]) [] s && recOk Rw.toRowW.records s) (X4 w os0).abs = openGood (PySem.W.view pp [47]) looseH := by kernel_rfl
theorem obs_ (w : World) : ob (X4 w os0) = (He.valD fnH, true) := by kernel_rfl
end HX
end

/-! ### kinds stay -/
theorem tyX_same {K : PySem.W.Frag} {H H' : Hp} {x : V} {t : Value} (h : TyX K H x t) (s : Same H H') : TyX K H' x t := by
  cases h with
  | base b =>
    refine .base ?_
    cases b with
    | non => exact .non
    | bl x => exact .bl x
    | int i => exact .int i
    | str x => exact .str x
    | flt x => exact .flt x
    | lst e => exact .lst (s _ _ e)
    | frz e => exact .frz (s _ _ e)
    | tup e => exact .tup (s _ _ e)
    | dK e => exact .dK (s _ _ e)
    | dT e => exact .dT (s _ _ e)
    | ins e cl a n k m => exact .ins (s _ _ e) cl a n k m
  | byt b => exact .byt b
  | set e => exact .set (s _ _ e)
  | kList e c => exact .kList e c
  | kTuple e c => exact .kTuple e c
  | kDict e c => exact .kDict e c
  | fTuple e => exact .fTuple (s _ _ e)
  | fDict e => exact .fDict (s _ _ e)

/-! ### new objects leave the old ones -/
theorem same_upd {H : Hp} {p : Addr} {o : HO} (h : H p = none) : Same H (upd H p o) := fun b u e => by rw [upd_ne (ne_of_none e h)]; exact e
theorem same_put {H H' : Hp} {d : Addr} {o : HO} (s : Same H H') (n : H d = none) : Same H (upd H' d o) := fun b u e => by rw [upd_ne (ne_of_none e n)]; exact s _ _ e

/-! ### all but one object stays -/
def Kx (x : Addr) (H H' : Hp) : Prop := ∀ b o, b ≠ x → H b = some o → H' b = some o
theorem Kx.trans {x : Addr} {H H1 H2 : Hp} (a : Kx x H H1) (b : Kx x H1 H2) : Kx x H H2 := fun c o n e => b c o n (a c o n e)
theorem Same.kx {x : Addr} {H H' : Hp} (s : Same H H') : Kx x H H' := fun b o _ e => s b o e
theorem kx_upd {x : Addr} {H : Hp} {o : HO} : Kx x H (upd H x o) := fun b u n e => by rw [upd_ne n]; exact e
theorem putF_none {f : Str} {v : V} : putF f v [] = [(f, v)] := rfl
theorem putF_ne {f g : Str} {u v : V} {r : List (Str × V)} (n : g ≠ f) : putF f v ((g, u) :: r) = (g, u) :: putF f v r := if_neg n
theorem lk_ne {f g : Str} {v : V} {r : List (Str × V)} (h : (f == g) = false) : List.lookup f ((g, v) :: r) = List.lookup f r := by simp [List.lookup, h]
theorem lk_eq {f : Str} {v : V} {r : List (Str × V)} : List.lookup f ((f, v) :: r) = some v := by simp [List.lookup]
theorem d_iTup {K : PySem.W.Frag} {tl : TE} {R : It → Hp → Prop} {σ : L2.St} {H : Hp} (h : tl σ H fun x H1 => ∃ a, x = .ref a ∧ (∃ xs, SqT K H1 a xs) ∧ R (Itt K a) H1) : iTup K tl σ H R := h
theorem kit_selfR {K : PySem.W.Frag} {t : Value} : PySem.W.kitOne K t t = some true := by
  unfold PySem.W.kitOne
  rw [if_pos (by simp)]

/-! ### rows -/
theorem kitA_list {K : PySem.W.Frag} : PySem.W.kitAny K (.type "list") [.type "list", .type "tuple"] = some true := by
  unfold PySem.W.kitAny
  rw [kit_ty (r := true) (by decide +kernel)]
theorem kitA_tuple {K : PySem.W.Frag} : PySem.W.kitAny K (.type "tuple") [.type "list", .type "tuple"] = some true := by
  unfold PySem.W.kitAny
  rw [kit_ty (r := false) (by decide +kernel)]
  unfold PySem.W.kitAny
  rw [kit_ty (r := true) (by decide +kernel)]
def spIsRow (K : PySem.W.Frag) : Sp := fun vs H Q _ => ∃ (x : V) (t : Value) (b : Bool), vs = [x] ∧ TyX K H x t ∧ PySem.W.kitAny K t [.type "list", .type "tuple"] = some b ∧ ∀ H', Same H H' → Q (.bl b) H'
section
variable {P : Program} {w : World} {K : PySem.W.Frag} {mg : Str → Option Value} {base : Heap}
theorem ok_is_row (T : Top K mg) : FnOk P w K mg base CX0 1 T.f_is_row T.fd_is_row ["thing"] (spIsRow K) := by
  refine T.F_is_row.ok sc_is_row (fun vs H Q E h => ?_) (fun cdv A outer s H vs Q E hr h => ?_)
  · obtain ⟨x, t, b, rfl, _⟩ := h; rfl
  · obtain ⟨x, t, b, rfl, ty, e, k⟩ := h
    refine ⟨_, (pss_one (ps_ret (pe_callB call_isiT (by rfl) T.n_isinstance (by decide +kernel) (pa_cons (pv 0) (pa_cons (pe_tup (pa_cons (pe_bltn (v := V.ty "list") (by rfl) T.n_list (by decide +kernel) rfl) (pa_cons (pe_bltn (v := V.ty "tuple") (by rfl) T.n_tuple (by decide +kernel) rfl) pa_nil))) pa_nil))))), ?_⟩
    walk_at "rd"
    refine ⟨by show 2 ≤ sizeLine; decide, fun tp htp => ?_⟩
    walk_at "rd"
    exact ⟨x, tp, _, t, _, b, rfl, upd_same, .cons (.ty _) (.cons (.ty _) .nil), tyX_same ty (same_upd htp), e, k _ (same_upd htp)⟩
end

/-! ### errors with a value -/
def spWE (K : PySem.W.Frag) : Sp := fun vs H Q _ => ∃ (a C : Addr) (v : V), vs = [.ref a, v] ∧ OexC K C ∧ PySem.W.findIn K (.ref C) "value" = some none ∧ H a = some (exo a C none) ∧
  ∀ d, H d = none → d ≠ a → Q .non (upd (upd H d (exd d [("value", v)])) a (exo a C (some d)))
/-- an error's own dict, with its value -/
def ErrD (v : V) : HO := .xd [(("value" : Str), v)]
theorem errD_v (v : V) : List.lookup ("value" : Str) [(("value" : Str), v)] = some v := by simp [List.lookup]
section
variable {P : Program} {w : World} {K : PySem.W.Frag} {mg : Str → Option Value} {base : Heap}
theorem ok_WayError__init (T : Top K mg) : FnOk P w K mg base CX0 1 T.f_WayError__init T.fd_WayError__init ["self", "value"] (spWE K) := by
  refine T.F_WayError__init.ok sc_WayError__init (fun vs H Q E h => ?_) (fun cdv A outer s H vs Q E hr h => ?_)
  · obtain ⟨a, C, v, rfl, _⟩ := h; rfl
  · obtain ⟨a, C, v, rfl, oc, nv, ha, q⟩ := h
    refine ⟨_, (pss_one (ps_ost (pv 0) (pv 1))), ?_⟩
    exact ⟨_, rfl, _, rfl, a, C, rfl, oc, nv, .inl ⟨ha, fun d hd ne => q d hd ne⟩⟩
end
/-- what is asked where such an error is raised -/
theorem d_mkO {K : PySem.W.Frag} {H : Hp} {C : Addr} {v : V} {R : XK} (oc : OexC K C) (nv : PySem.W.findIn K (.ref C) "value" = some none) (k : ∀ d, H d = none → R (.ref C) (some d) (upd H d (ErrD v))) :
    [v].length ≤ 1000 ∧ ∀ a, H a = none → spWE K (.ref a :: ([v] ++ [])) (upd H a (exo a C none))
      (fun u H2 => u = .non ∧ ∃ (d : Addr) (fs : List (Str × V)), H2 a = some (exo a C (some d)) ∧ H2 d = some (exd d fs) ∧ H d = none ∧ R (.ref C) (some d) (upd (del H2 a) d (.xd fs))) (fun _ _ _ => False) := by
  refine ⟨by simp, fun a ha => ⟨a, C, v, rfl, oc, nv, upd_same, fun d hd ne => ⟨rfl, d, [(("value" : Str), v)], upd_same, ?_, ?_, ?_⟩⟩⟩
  · rw [upd_ne ne, upd_same]
  · rw [upd_ne ne] at hd; exact hd
  · have hd0 : H d = none := by rw [upd_ne ne] at hd; exact hd
    have e : upd (del (upd (upd (upd H a (exo a C none)) d (exd d [("value", v)])) a (exo a C (some d))) a) d (.xd [("value", v)]) = upd H d (ErrD v) := by
      funext b
      by_cases hb : b = d
      · subst hb; rw [upd_same, upd_same]; rfl
      · rw [upd_ne hb, upd_ne hb]
        by_cases hba : b = a
        · subst hba; rw [del_same, ha]
        · rw [del_ne hba, upd_ne hba, upd_ne hb, upd_ne hba]
    rw [e]; exact k d hd0
theorem d_raise {K : PySem.W.Frag} {σ : L2.St} {H : Hp} {C : Addr} {ta : TA} {R : XK} (h : ta σ H fun vs H1 => vs.length ≤ 1000 ∧ ∀ a, H1 a = none → spWE K (.ref a :: (vs ++ [])) (upd H1 a (exo a C none))
      (fun u H2 => u = .non ∧ ∃ (d : Addr) (fs : List (Str × V)), H2 a = some (exo a C (some d)) ∧ H2 d = some (exd d fs) ∧ H1 d = none ∧ R (.ref C) (some d) (upd (del H2 a) d (.xd fs))) (fun _ _ _ => False)) :
    tMkO C (spWE K) [] ta σ H R := h

/-! ### integers -/
/-- whether x is an integer (a flag is none) -/
def IsI (K : PySem.W.Frag) (H : Hp) (x : V) (b : Bool) : Prop := ∃ (t : Value) (b1 b2 : Bool), TyX K H x t ∧ PySem.W.kitOne K t (.type "int") = some b1 ∧ PySem.W.kitOne K t (.type "bool") = some b2 ∧ b = (b1 && !b2)
theorem isI_int {K : PySem.W.Frag} {H : Hp} (i : Int) : IsI K H (.int i) true := ⟨.type "int", true, false, .base (.int i), kit_ty (by decide +kernel), kit_ty (by decide +kernel), rfl⟩
theorem isI_bl {K : PySem.W.Frag} {H : Hp} (i : Bool) : IsI K H (.bl i) false := ⟨.type "bool", true, true, .base (.bl i), kit_ty (by decide +kernel), kit_ty (by decide +kernel), rfl⟩
theorem isI_non {K : PySem.W.Frag} {H : Hp} : IsI K H .non false := ⟨.type "NoneType", false, false, .base .non, kit_ty (by decide +kernel), kit_ty (by decide +kernel), rfl⟩
theorem isI_str {K : PySem.W.Frag} {H : Hp} (z : Str) : IsI K H (.str z) false := ⟨.type "str", false, false, .base (.str z), kit_ty (by decide +kernel), kit_ty (by decide +kernel), rfl⟩
theorem isI_lst {K : PySem.W.Frag} {H : Hp} {a : Addr} {xs : List V} (e : H a = some (.lst xs)) : IsI K H (.ref a) false := ⟨.type "list", false, false, .base (.lst e), kit_ty (by decide +kernel), kit_ty (by decide +kernel), rfl⟩
theorem isI_tup {K : PySem.W.Frag} {H : Hp} {a : Addr} {xs : List V} (e : H a = some (.tup xs)) : IsI K H (.ref a) false := ⟨.type "tuple", false, false, .base (.tup e), kit_ty (by decide +kernel), kit_ty (by decide +kernel), rfl⟩
theorem isI_dK {K : PySem.W.Frag} {H : Hp} {a : Addr} {xs : List (Key × V)} (e : H a = some (.dK xs)) : IsI K H (.ref a) false := ⟨.type "dict", false, false, .base (.dK e), kit_ty (by decide +kernel), kit_ty (by decide +kernel), rfl⟩
def spIsInt (K : PySem.W.Frag) : Sp := fun vs H Q _ => ∃ (x : V) (b : Bool), vs = [x] ∧ IsI K H x b ∧ Q (.bl b) H
section
variable {P : Program} {w : World} {K : PySem.W.Frag} {mg : Str → Option Value} {base : Heap}
theorem ok_is_integer (T : Top K mg) : FnOk P w K mg base CX0 1 T.f_is_integer T.fd_is_integer ["thing"] (spIsInt K) := by
  refine T.F_is_integer.ok sc_is_integer (fun vs H Q E h => ?_) (fun cdv A outer s H vs Q E hr h => ?_)
  · obtain ⟨x, b, rfl, _⟩ := h; rfl
  · obtain ⟨x, b, rfl, ⟨t, b1, b2, ty, e1, e2, eb⟩, q⟩ := h
    refine ⟨_, (pss_one (ps_ret (pe_and (pe_callB call_isi (by rfl) T.n_isinstance (by decide +kernel) (pa_cons (pv 0) (pa_cons (pe_bltn (v := V.ty "int") (by rfl) T.n_int (by decide +kernel) rfl) pa_nil))) (pe_one (pe_not (pe_callB call_isi (by rfl) T.n_isinstance (by decide +kernel) (pa_cons (pv 0) (pa_cons (pe_bltn (v := V.ty "bool") (by rfl) T.n_bool (by decide +kernel) rfl) pa_nil)))))))), ?_⟩
    walk_at "rd"
    refine RD.d_isi (.ty _) ty e1 ?_
    walk_at "rd"
    cases b1 with
    | false =>
      walk_at "rd"
      rw [eb] at q; exact q
    | true =>
      walk_at "rd"
      refine RD.d_isi (.ty _) ty e2 ?_
      walk_at "rd"
      rw [eb] at q
      simpa using q
end

/-! ### sizes and places -/
/-- whether v is a number below n -/
def Bl (K : PySem.W.Frag) (H : Hp) (n : Nat) (v : V) (b : Bool) : Prop := ∃ d, OQ.Dqd K H v d ∧ b = RK.belowB n d
theorem Bl.same {K : PySem.W.Frag} {H H' : Hp} {n : Nat} {v : V} {b : Bool} (h : Bl K H n v b) (s : Same H H') : Bl K H' n v b := by
  obtain ⟨d, h1, h2⟩ := h
  exact ⟨d, OQ.Dqd.same s h1, h2⟩
theorem Bl.dq {K : PySem.W.Frag} {H : Hp} {n : Nat} {v : V} {d : PyData} (h : OQ.Dqd K H v d) : Bl K H n v (RK.belowB n d) := ⟨d, h, rfl⟩
theorem Bl.nat {K : PySem.W.Frag} {H : Hp} {n : Nat} {v : V} (h : Bl K H n v true) : ∃ i : Nat, v = .int i ∧ i < n := by
  obtain ⟨d, h1, h2⟩ := h
  have h1 := OQ.dqd_below h1 h2.symm
  cases h1 with
  | int i =>
    have := of_decide_eq_true (h2.symm : decide (0 ≤ i ∧ i < (n : Int)) = true)
    exact ⟨i.toNat, by rw [Int.toNat_of_nonneg this.1], by omega⟩
  | _ => cases h2
theorem Bl.of {K : PySem.W.Frag} {H : Hp} {n i : Nat} (h : i < n) : Bl K H n (.int i) true := ⟨_, .int i, (decide_eq_true (by omega)).symm⟩
def spBelow (K : PySem.W.Frag) : Sp := fun vs H Q _ => ∃ (n : Nat) (x : V) (b : Bool), vs = [.int n, x] ∧ Bl K H n x b ∧ Q (.bl b) H
def spSide (K : PySem.W.Frag) : Sp := fun vs H Q _ => ∃ (n : Nat) (x : V) (d : PyData), vs = [.int n, x] ∧ n ≤ 16 ∧ OQ.Dqd K H x d ∧ ∀ H', Same H H' → Q (.bl (RK.sideB n d)) H'
def spSquare (K : PySem.W.Frag) : Sp := fun vs H Q _ => ∃ (n : Nat) (x : V) (d : PyData), vs = [.int n, x] ∧ n ≤ 16 ∧ OQ.Dqd K H x d ∧ ∀ H', Same H H' → Q (.bl (RK.squareB n d)) H'
section
variable {P : Program} {w : World} {K : PySem.W.Frag} {mg : Str → Option Value} {base : Heap}
theorem ok_is_below (T : Top K mg) : FnOk P w K mg base CX0 2 T.f_is_below T.fd_is_below ["many", "thing"] (spBelow K) := by
  refine T.F_is_below.ok sc_is_below (fun vs H Q E h => ?_) (fun cdv A outer s H vs Q E hr h => ?_)
  · obtain ⟨n, x, d, rfl, _⟩ := h; rfl
  · obtain ⟨n, x, b, rfl, hb, k⟩ := h
    refine ⟨_, (pss_one (ps_ret (pe_and (pe_call (ok_is_integer T) (hr.mono (by decide)) (by rfl) T.g_is_integer T.F_is_integer.kp T.b_is_integer .nil pass0 (pa_cons (pv 1) pa_nil)) (pe_one (pe_chain op_le op_lt pe_int (pv 1) (pv 0)))))), ?_⟩
    walk_at "tx"
    obtain ⟨d, hd, rfl⟩ := hb
    · refine ⟨x, RK.intB d, rfl, OQ.dqd_isInt hd, ?_⟩
      cases hb : RK.intB d with
      | false =>
        refine ⟨false, rfl, RD.d_iteF ?_⟩
        have e : RK.belowB n d = false := by cases d <;> first | rfl | cases hb
        rw [e] at k
        exact k
      | true =>
        refine ⟨true, rfl, RD.d_iteT ?_⟩
        cases hd with
        | int i =>
          refine RD.d_chain ?_
          walk_at "tx"
          have e : RK.belowB n (.int i) = decide (0 ≤ i ∧ i < n) := rfl
          rw [e] at k
          refine RD.iteD (fun c1 => ?_) (fun c1 => ?_)
          · walk_at "tx"
            rw [show decide (i < (n : Int)) = decide (0 ≤ i ∧ i < (n : Int)) from by rw [decide_eq_decide]; exact ⟨fun z => ⟨c1, z⟩, fun z => z.2⟩]
            exact k
          · rw [decide_eq_false (fun z => c1 z.1)] at k
            exact k
        | _ => cases hb
theorem ok_is_side (T : Top K mg) : FnOk P w K mg base CX0 4 T.f_is_side T.fd_is_side ["many", "thing"] (spSide K) := by
  refine T.F_is_side.ok sc_is_side (fun vs H Q E h => ?_) (fun cdv A outer s H vs Q E hr h => ?_)
  · obtain ⟨n, x, d, rfl, _⟩ := h; rfl
  · obtain ⟨n, x, d, rfl, n16, hd, k⟩ := h
    refine ⟨_, (pss_one (ps_ret (pe_and (pe_call (ok_is_row T) (hr.mono (by decide)) (by rfl) T.g_is_row T.F_is_row.kp T.b_is_row .nil pass0 (pa_cons (pv 1) pa_nil)) (pe_and (pe_cmpR op_eq (pe_callB RD.c_len (by rfl) T.n_len (by decide +kernel) (pa_cons (pv 1) pa_nil)) (pv 0) (nomark _)) (pe_one (pe_callB (cr_all rfl) (by rfl) T.n_all (by decide +kernel) (pa_cons (pe_lc (own := [("item", 2)]) (g := (gName 2)) (tt := tYes) rfl sc_is_side.nd (OQ.pi_seq (pv 1)) (blkOk_by (own := [("item", 2)]) (N := ["many", "thing", "item"]) (sc := defScope s_is_side) (by decide +kernel)) (fun _ _ _ _ _ => (pg_name (i := 2) sc_is_side.nd rfl (Or.inl rfl))) (fun _ _ _ _ _ => pts_nil) (fun _ _ _ _ _ => (pe_call (ok_is_below T) (hr.mono (by decide)) (by rfl) T.g_is_below T.F_is_below.kp T.b_is_below .nil pass0 (pa_cons (pv 0) (pa_cons (pv 2) pa_nil))))) pa_nil))))))), ?_⟩
    walk_at "tx"
    obtain ⟨t, ty, ek⟩ := OQ.dqd_isRow hd
    refine ⟨x, t, _, rfl, ty, ek, fun H1 s1 => ?_⟩
    replace hd := OQ.Dqd.same s1 hd
    cases er : RK.rowsOf d with
    | none =>
      have e : RK.sideB n d = false := by unfold RK.sideB; rw [er]
      rw [e] at k
      exact ⟨false, rfl, RD.d_iteF (k H1 s1)⟩
    | some ds =>
      have e : RK.sideB n d = (decide (ds.length = n) && ds.all (RK.belowB n)) := by unfold RK.sideB; rw [er]
      rw [e] at k
      obtain ⟨a, xs, rfl, sa, da⟩ := OQ.dqd_row hd er
      have len := OQ.dqdAll_len da
      refine ⟨true, rfl, RD.d_iteT ?_⟩
      walk_at "tx"
      refine sa.len ?_
      walk_at "tx"
      rw [len]
      refine RD.iteD (fun c => ?_) (fun c => ?_)
      · have c' : ds.length = n := by omega
        rw [decide_eq_true c', Bool.true_and] at k
        walk_at "tx"
        refine OQ.d_seqVar rfl sa (fun J G hw hG => fun D hD => ?_)
        have sD := same_upd (o := HO.lst []) hD
        refine lc_it hw (fun i H' => Same H1 H' ∧ H' D = some (.lst (((ds.take i).map (RK.belowB n)).map V.bl))) ⟨sD, upd_same⟩ (fun i H' _ q => hG _ q.1) ?_ ?_
        · rintro i y H' H'' il ⟨s2, eD⟩ ⟨rfl, e2⟩
          obtain ⟨d', q1, q2⟩ := OQ.dqdAll_get da e2
          walk_at "tx"
          refine ⟨n, y, _, rfl, ⟨d', OQ.Dqd.same s2 q2, rfl⟩, ?_⟩
          have il' : i < ds.length := by rw [← len]; exact il
          refine ⟨_, eD, by rw [List.length_map, List.length_map, List.length_take]; exact Nat.lt_of_le_of_lt (by omega : _ ≤ 16) (by decide), fun b u e => ?_, ?_⟩
          · rw [upd_ne (ne_of_none e hD)]; exact s2 _ _ e
          · rw [upd_same, List.take_succ, q1, List.map_append, List.map_append]; rfl
        · rintro H' ⟨s2, eD⟩
          rw [len, List.take_length] at eD
          walk_at "tx"
          refine ⟨D, _, rfl, SqL.of eD, ?_⟩
          rw [List.all_map]
          exact k _ (s1.trans s2)
      · rw [decide_eq_false (fun z => c (by omega)), Bool.false_and] at k
        exact k H1 s1
theorem ok_is_square (T : Top K mg) : FnOk P w K mg base CX0 6 T.f_is_square T.fd_is_square ["many", "thing"] (spSquare K) := by
  refine T.F_is_square.ok sc_is_square (fun vs H Q E h => ?_) (fun cdv A outer s H vs Q E hr h => ?_)
  · obtain ⟨n, x, d, rfl, _⟩ := h; rfl
  · obtain ⟨n, x, d, rfl, n16, hd, k⟩ := h
    refine ⟨_, (pss_one (ps_ret (pe_and (pe_call (ok_is_row T) (hr.mono (by decide)) (by rfl) T.g_is_row T.F_is_row.kp T.b_is_row .nil pass0 (pa_cons (pv 1) pa_nil)) (pe_and (pe_cmpR op_eq (pe_callB RD.c_len (by rfl) T.n_len (by decide +kernel) (pa_cons (pv 1) pa_nil)) (pv 0) (nomark _)) (pe_one (pe_callB (cr_all rfl) (by rfl) T.n_all (by decide +kernel) (pa_cons (pe_lc (own := [("row", 2)]) (g := (gName 2)) (tt := tYes) rfl sc_is_square.nd (OQ.pi_seq (pv 1)) (blkOk_by (own := [("row", 2)]) (N := ["many", "thing", "row"]) (sc := defScope s_is_square) (by decide +kernel)) (fun _ _ _ _ _ => (pg_name (i := 2) sc_is_square.nd rfl (Or.inl rfl))) (fun _ _ _ _ _ => pts_nil) (fun _ _ _ _ _ => (pe_call (ok_is_side T) (hr.mono (by decide)) (by rfl) T.g_is_side T.F_is_side.kp T.b_is_side .nil pass0 (pa_cons (pv 0) (pa_cons (pv 2) pa_nil))))) pa_nil))))))), ?_⟩
    walk_at "tx"
    obtain ⟨t, ty, ek⟩ := OQ.dqd_isRow hd
    refine ⟨x, t, _, rfl, ty, ek, fun H1 s1 => ?_⟩
    replace hd := OQ.Dqd.same s1 hd
    cases er : RK.rowsOf d with
    | none =>
      have e : RK.squareB n d = false := by unfold RK.squareB; rw [er]
      rw [e] at k
      exact ⟨false, rfl, RD.d_iteF (k H1 s1)⟩
    | some ds =>
      have e : RK.squareB n d = (decide (ds.length = n) && ds.all (RK.sideB n)) := by unfold RK.squareB; rw [er]
      rw [e] at k
      obtain ⟨a, xs, rfl, sa, da⟩ := OQ.dqd_row hd er
      have len := OQ.dqdAll_len da
      refine ⟨true, rfl, RD.d_iteT ?_⟩
      walk_at "tx"
      refine sa.len ?_
      walk_at "tx"
      rw [len]
      refine RD.iteD (fun c => ?_) (fun c => ?_)
      · have c' : ds.length = n := by omega
        rw [decide_eq_true c', Bool.true_and] at k
        walk_at "tx"
        refine OQ.d_seqVar rfl sa (fun J G hw hG => fun D hD => ?_)
        have sD := same_upd (o := HO.lst []) hD
        refine lc_it hw (fun i H' => Same H1 H' ∧ H' D = some (.lst (((ds.take i).map (RK.sideB n)).map V.bl))) ⟨sD, upd_same⟩ (fun i H' _ q => hG _ q.1) ?_ ?_
        · rintro i y H' H'' il ⟨s2, eD⟩ ⟨rfl, e2⟩
          obtain ⟨d', q1, q2⟩ := OQ.dqdAll_get da e2
          walk_at "tx"
          refine ⟨n, y, d', rfl, n16, OQ.Dqd.same s2 q2, fun H3 s3 => ?_⟩
          have il' : i < ds.length := by rw [← len]; exact il
          refine ⟨_, s3 _ _ eD, by rw [List.length_map, List.length_map, List.length_take]; exact Nat.lt_of_le_of_lt (by omega : _ ≤ 16) (by decide), fun b u e => ?_, ?_⟩
          · rw [upd_ne (ne_of_none e hD)]; exact s3 _ _ (s2 _ _ e)
          · rw [upd_same, List.take_succ, q1, List.map_append, List.map_append]; rfl
        · rintro H' ⟨s2, eD⟩
          rw [len, List.take_length] at eD
          walk_at "tx"
          refine ⟨D, _, rfl, SqL.of eD, ?_⟩
          rw [List.all_map]
          exact k _ (s1.trans s2)
      · rw [decide_eq_false (fun z => c (by omega)), Bool.false_and] at k
        exact k H1 s1
end

/-! ### the faults -/
open OQ (TabX RowX)
open RK (Fl FltAt)
/-- what tells a fault F, the objects that were there as they were -/
def spF (C : List V → Hp → Fl → Prop) : Sp := fun vs H Q _ => ∃ F, C vs H F ∧ ∀ v H', Same H H' → FltAt H' v F → Q v H'
theorem ret4 {H0 H : Hp} {Q : VK} {F : Fl} {w : Str} {a b c : Int} (k : ∀ v H', Same H0 H' → FltAt H' v F → Q v H') (s : Same H0 H) (e : F = some (w, a, b, c)) :
    [V.str w, V.int a, V.int b, V.int c].length ≤ sizeLine ∧ ∀ p, H p = none → Q (.ref p) (upd H p (.tup [.str w, .int a, .int b, .int c])) := by
  subst e
  exact ⟨by show 4 ≤ sizeLine; decide, fun p hp => k _ _ (s.trans (same_upd hp)) ⟨p, rfl, upd_same⟩⟩
theorem ret0 {H0 H : Hp} {Q : VK} {F : Fl} (k : ∀ v H', Same H0 H' → FltAt H' v F → Q v H') (s : Same H0 H) (e : F = none) : Q .non H := by
  subst e
  exact k _ _ s rfl
section
variable {P : Program} {w : World} {K : PySem.W.Frag} {mg : Str → Option Value} {base : Heap}
theorem ok_none_fault (T : Top K mg) : FnOk P w K mg base CX0 1 T.f_none_fault T.fd_none_fault ["joins", "products", "none"] (spF fun vs H F => ∃ a b n J M z, vs = [.ref a, .ref b, .int (z : Nat)] ∧ TabX K H a n J ∧ TabX K H b n M ∧ z < n ∧ n ≤ 16 ∧ F = RK.noneF n J M z) := by
  refine T.F_none_fault.ok sc_none_fault (fun vs H Q E h => ?_) (fun cdv A outer s H vs Q E hr h => ?_)
  · obtain ⟨F, ⟨a, b, n, J, M, z, rfl, _⟩, _⟩ := h; rfl
  · obtain ⟨F, ⟨a, b, n, J, M, z, rfl, tj, tp, zn, n16, eF⟩, k⟩ := h
    refine ⟨_, (pss_cons (ps_for PassesOwn.never rfl (pi_range1 (by rfl) T.n_range (pa_cons (pe_callB RD.c_len (by rfl) T.n_len (by decide +kernel) (pa_cons (pv 0) pa_nil)) pa_nil)) (pg_name (i := 3) sc_none_fault.nd rfl (Or.inl rfl))
 (pss_cons (ps_if (PW.pt (pw_or (pt_cmpR op_ne (pe_ix OQ.ix_seq (pe_ix OQ.ix_seq (pv 0) (pv 2) (fun _ _ => rfl)) (pv 3) (fun _ _ => rfl)) (pv 3) (nomark _)) (pw_or1 (pt_cmpR op_ne (pe_ix OQ.ix_seq (pe_ix OQ.ix_seq (pv 0) (pv 3) (fun _ _ => rfl)) (pv 2) (fun _ _ => rfl)) (pv 3) (nomark _)))))
 (pss_one (ps_ret (pe_tup (pa_cons pe_str (pa_cons (pv 3) (pa_cons (pe_un un_neg pe_int) (pa_cons (pe_un un_neg pe_int) pa_nil)))))))
 pss_nil)
 (pss_one (ps_if (PW.pt (pw_or (pt_cmpR op_ne (pe_ix OQ.ix_seq (pe_ix OQ.ix_seq (pv 1) (pv 2) (fun _ _ => rfl)) (pv 3) (fun _ _ => rfl)) (pv 2) (nomark _)) (pw_or1 (pt_cmpR op_ne (pe_ix OQ.ix_seq (pe_ix OQ.ix_seq (pv 1) (pv 3) (fun _ _ => rfl)) (pv 2) (fun _ _ => rfl)) (pv 2) (nomark _)))))
 (pss_one (ps_ret (pe_tup (pa_cons pe_str (pa_cons (pv 3) (pa_cons (pe_un un_neg pe_int) (pa_cons (pe_un un_neg pe_int) pa_nil)))))))
 pss_nil))))
 (pss_one (ps_ret pe_non))), ?_⟩
    walk_at "tx"
    refine tj.len ?_
    refine ⟨n, rfl, by omega, by omega, ?_⟩
    refine RD.f_range (lo := 0) (n := n) (fun t σ' H' => (∀ i, i < t → J z i = i ∧ J i z = i ∧ M z i = z ∧ M i z = z) ∧ ∃ v : Option V, σ' = [some (.ref a), some (.ref b), some (.int z), v] ∧ H' = H) ⟨fun i z => by omega, none, rfl, rfl⟩ ?_ ?_
    · rintro t σ' H' ht ⟨ok, v, rfl, rfl⟩
      have bad : ¬ (J z t = t ∧ J t z = t ∧ M z t = z ∧ M t z = z) → F = some (("none" : Str), 0 + (t : Int), -1, -1) := fun n => by
        rw [eF]
        exact RK.fnd_at (t := t) (fun i hi => if_pos (ok i hi)) ht ((if_neg n).trans (by rw [Int.zero_add]))
      walk_at "tx"
      refine OQ.xT (m := z) tj rfl zn (fun r hr => ?_)
      walk_at "tx"
      refine OQ.xR (m := t) hr (by omega) ht ?_
      walk_at "tx"
      refine RD.iteN (fun c1 => ?_) (fun c1 => ?_)
      · walk_at "tx"
        exact ret4 k (Same.refl _) (bad fun z => c1 (by omega))
      walk_at "tx"
      refine OQ.xT (m := t) tj (by omega) ht (fun r hr => ?_)
      walk_at "tx"
      refine OQ.xR (m := z) hr rfl zn ?_
      walk_at "tx"
      refine RD.iteN (fun c2 => ?_) (fun c2 => ?_)
      · walk_at "tx"
        exact ret4 k (Same.refl _) (bad fun z => c2 (by omega))
      walk_at "tx"
      refine OQ.xT (m := z) tp rfl zn (fun r hr => ?_)
      walk_at "tx"
      refine OQ.xR (m := t) hr (by omega) ht ?_
      walk_at "tx"
      refine RD.iteN (fun c3 => ?_) (fun c3 => ?_)
      · walk_at "tx"
        exact ret4 k (Same.refl _) (bad fun z => c3 (by omega))
      walk_at "tx"
      refine OQ.xT (m := t) tp (by omega) ht (fun r hr => ?_)
      walk_at "tx"
      refine OQ.xR (m := z) hr rfl zn ?_
      walk_at "tx"
      refine RD.iteN (fun c4 => ?_) (fun c4 => ?_)
      · walk_at "tx"
        exact ret4 k (Same.refl _) (bad fun z => c4 (by omega))
      walk_at "tx"
      refine ⟨fun i hi => ?_, _, rfl, rfl⟩
      by_cases e : i = t
      · subst e; omega
      · exact ok i (by omega)
    · rintro σ' H' ⟨ok, v, rfl, rfl⟩
      walk_at "tx"
      exact ret0 k (Same.refl _) (by rw [eF]; exact RK.fnd_none fun i hi => if_pos (ok i hi))
theorem ok_one_fault (T : Top K mg) : FnOk P w K mg base CX0 1 T.f_one_fault T.fd_one_fault ["products", "one"] (spF fun vs H F => ∃ b n M o, vs = [.ref b, .int (o : Nat)] ∧ TabX K H b n M ∧ o < n ∧ n ≤ 16 ∧ F = RK.oneF n M o) := by
  refine T.F_one_fault.ok sc_one_fault (fun vs H Q E h => ?_) (fun cdv A outer s H vs Q E hr h => ?_)
  · obtain ⟨F, ⟨b, n, M, o, rfl, _⟩, _⟩ := h; rfl
  · obtain ⟨F, ⟨b, n, M, o, rfl, tp, on, n16, eF⟩, k⟩ := h
    refine ⟨_, (pss_cons (ps_for PassesOwn.never rfl (pi_range1 (by rfl) T.n_range (pa_cons (pe_callB RD.c_len (by rfl) T.n_len (by decide +kernel) (pa_cons (pv 0) pa_nil)) pa_nil)) (pg_name (i := 2) sc_one_fault.nd rfl (Or.inl rfl))
 (pss_one (ps_if (PW.pt (pw_or (pt_cmpR op_ne (pe_ix OQ.ix_seq (pe_ix OQ.ix_seq (pv 0) (pv 1) (fun _ _ => rfl)) (pv 2) (fun _ _ => rfl)) (pv 2) (nomark _)) (pw_or1 (pt_cmpR op_ne (pe_ix OQ.ix_seq (pe_ix OQ.ix_seq (pv 0) (pv 2) (fun _ _ => rfl)) (pv 1) (fun _ _ => rfl)) (pv 2) (nomark _)))))
 (pss_one (ps_ret (pe_tup (pa_cons pe_str (pa_cons (pv 2) (pa_cons (pe_un un_neg pe_int) (pa_cons (pe_un un_neg pe_int) pa_nil)))))))
 pss_nil)))
 (pss_one (ps_ret pe_non))), ?_⟩
    walk_at "tx"
    refine tp.len ?_
    refine ⟨n, rfl, by omega, by omega, ?_⟩
    refine RD.f_range (lo := 0) (n := n) (fun t σ' H' => (∀ i, i < t → M o i = i ∧ M i o = i) ∧ ∃ v : Option V, σ' = [some (.ref b), some (.int o), v] ∧ H' = H) ⟨fun i z => by omega, none, rfl, rfl⟩ ?_ ?_
    · rintro t σ' H' ht ⟨ok, v, rfl, rfl⟩
      have bad : ¬ (M o t = t ∧ M t o = t) → F = some (("one" : Str), 0 + (t : Int), -1, -1) := fun n => by
        rw [eF]
        exact RK.fnd_at (t := t) (fun i hi => if_pos (ok i hi)) ht ((if_neg n).trans (by rw [Int.zero_add]))
      walk_at "tx"
      refine OQ.xT (m := o) tp rfl on (fun r hr => ?_)
      walk_at "tx"
      refine OQ.xR (m := t) hr (by omega) ht ?_
      walk_at "tx"
      refine RD.iteN (fun c1 => ?_) (fun c1 => ?_)
      · walk_at "tx"
        exact ret4 k (Same.refl _) (bad fun z => c1 (by omega))
      walk_at "tx"
      refine OQ.xT (m := t) tp (by omega) ht (fun r hr => ?_)
      walk_at "tx"
      refine OQ.xR (m := o) hr rfl on ?_
      walk_at "tx"
      refine RD.iteN (fun c2 => ?_) (fun c2 => ?_)
      · walk_at "tx"
        exact ret4 k (Same.refl _) (bad fun z => c2 (by omega))
      walk_at "tx"
      refine ⟨fun i hi => ?_, _, rfl, rfl⟩
      by_cases e : i = t
      · subst e; omega
      · exact ok i (by omega)
    · rintro σ' H' ⟨ok, v, rfl, rfl⟩
      walk_at "tx"
      exact ret0 k (Same.refl _) (by rw [eF]; exact RK.fnd_none fun i hi => if_pos (ok i hi))
theorem ok_idle_fault (T : Top K mg) : FnOk P w K mg base CX0 1 T.f_idle_fault T.fd_idle_fault ["joins"] (spF fun vs H F => ∃ a n J, vs = [.ref a] ∧ TabX K H a n J ∧ n ≤ 16 ∧ F = RK.idleF n J) := by
  refine T.F_idle_fault.ok sc_idle_fault (fun vs H Q E h => ?_) (fun cdv A outer s H vs Q E hr h => ?_)
  · obtain ⟨F, ⟨a, n, J, rfl, _⟩, _⟩ := h; rfl
  · obtain ⟨F, ⟨a, n, J, rfl, tj, n16, eF⟩, k⟩ := h
    refine ⟨_, (pss_cons (ps_for PassesOwn.never rfl (pi_range1 (by rfl) T.n_range (pa_cons (pe_callB RD.c_len (by rfl) T.n_len (by decide +kernel) (pa_cons (pv 0) pa_nil)) pa_nil)) (pg_name (i := 1) sc_idle_fault.nd rfl (Or.inl rfl))
 (pss_one (ps_if (pt_cmpR op_ne (pe_ix OQ.ix_seq (pe_ix OQ.ix_seq (pv 0) (pv 1) (fun _ _ => rfl)) (pv 1) (fun _ _ => rfl)) (pv 1) (nomark _))
 (pss_one (ps_ret (pe_tup (pa_cons pe_str (pa_cons (pv 1) (pa_cons (pe_un un_neg pe_int) (pa_cons (pe_un un_neg pe_int) pa_nil)))))))
 pss_nil)))
 (pss_one (ps_ret pe_non))), ?_⟩
    walk_at "tx"
    refine tj.len ?_
    refine ⟨n, rfl, by omega, by omega, ?_⟩
    refine RD.f_range (lo := 0) (n := n) (fun t σ' H' => (∀ i, i < t → J i i = i) ∧ ∃ v : Option V, σ' = [some (.ref a), v] ∧ H' = H) ⟨fun i z => by omega, none, rfl, rfl⟩ ?_ ?_
    · rintro t σ' H' ht ⟨ok, v, rfl, rfl⟩
      walk_at "tx"
      refine OQ.xT (m := t) tj (by omega) ht (fun r hr => ?_)
      walk_at "tx"
      refine OQ.xR (m := t) hr (by omega) ht ?_
      walk_at "tx"
      refine RD.iteN (fun c1 => ?_) (fun c1 => ?_)
      · walk_at "tx"
        refine ret4 k (Same.refl _) ?_
        rw [eF]
        exact RK.fnd_at (t := t) (fun i hi => if_pos (ok i hi)) ht ((if_neg fun z => c1 (by omega)).trans (by rw [Int.zero_add]))
      walk_at "tx"
      refine ⟨fun i hi => ?_, _, rfl, rfl⟩
      by_cases e : i = t
      · subst e; omega
      · exact ok i (by omega)
    · rintro σ' H' ⟨ok, v, rfl, rfl⟩
      walk_at "tx"
      exact ret0 k (Same.refl _) (by rw [eF]; exact RK.fnd_none fun i hi => if_pos (ok i hi))
theorem ok_swap_fault (T : Top K mg) : FnOk P w K mg base CX0 1 T.f_swap_fault T.fd_swap_fault ["joins"] (spF fun vs H F => ∃ a n J, vs = [.ref a] ∧ TabX K H a n J ∧ n ≤ 16 ∧ F = RK.swapF n J) := by
  refine T.F_swap_fault.ok sc_swap_fault (fun vs H Q E h => ?_) (fun cdv A outer s H vs Q E hr h => ?_)
  · obtain ⟨F, ⟨a, n, J, rfl, _⟩, _⟩ := h; rfl
  · obtain ⟨F, ⟨a, n, J, rfl, tj, n16, eF⟩, k⟩ := h
    refine ⟨_, (pss_cons (ps_for PassesOwn.never rfl (pi_range1 (by rfl) T.n_range (pa_cons (pe_callB RD.c_len (by rfl) T.n_len (by decide +kernel) (pa_cons (pv 0) pa_nil)) pa_nil)) (pg_name (i := 1) sc_swap_fault.nd rfl (Or.inl rfl))
 (pss_one (ps_for PassesOwn.never rfl (pi_range1 (by rfl) T.n_range (pa_cons (pe_callB RD.c_len (by rfl) T.n_len (by decide +kernel) (pa_cons (pv 0) pa_nil)) pa_nil)) (pg_name (i := 2) sc_swap_fault.nd rfl (Or.inl rfl))
 (pss_one (ps_if (pt_cmpR op_ne (pe_ix OQ.ix_seq (pe_ix OQ.ix_seq (pv 0) (pv 1) (fun _ _ => rfl)) (pv 2) (fun _ _ => rfl)) (pe_ix OQ.ix_seq (pe_ix OQ.ix_seq (pv 0) (pv 2) (fun _ _ => rfl)) (pv 1) (fun _ _ => rfl)) (nomark _))
 (pss_one (ps_ret (pe_tup (pa_cons pe_str (pa_cons (pv 1) (pa_cons (pv 2) (pa_cons (pe_un un_neg pe_int) pa_nil)))))))
 pss_nil)))))
 (pss_one (ps_ret pe_non))), ?_⟩
    walk_at "tx"
    refine tj.len ?_
    refine ⟨n, rfl, by omega, by omega, ?_⟩
    refine RD.f_range (lo := 0) (n := n) (fun t σ' H' => (∀ i, i < t → ∀ j, j < n → J i j = J j i) ∧ ∃ v v2 : Option V, σ' = [some (.ref a), v, v2] ∧ H' = H) ⟨fun i z => by omega, none, none, rfl, rfl⟩ ?_ ?_
    · rintro t σ' H' ht ⟨ok, v, v2, rfl, rfl⟩
      walk_at "tx"
      refine tj.len ?_
      refine ⟨n, rfl, by omega, by omega, ?_⟩
      refine RD.f_range (lo := 0) (n := n) (fun u σ' H'' => (∀ j, j < u → J t j = J j t) ∧ ∃ v2 : Option V, σ' = [some (.ref a), some (.int (0 + t)), v2] ∧ H'' = H') ⟨fun i z => by omega, v2, rfl, rfl⟩ ?_ ?_
      · rintro u σ' H'' hu ⟨ok2, v2, rfl, rfl⟩
        walk_at "tx"
        refine OQ.xT (m := t) tj (by omega) ht (fun r hr => ?_)
        walk_at "tx"
        refine OQ.xR (m := u) hr (by omega) hu ?_
        walk_at "tx"
        refine OQ.xT (m := u) tj (by omega) hu (fun r hr => ?_)
        walk_at "tx"
        refine OQ.xR (m := t) hr (by omega) ht ?_
        walk_at "tx"
        refine RD.iteN (fun c1 => ?_) (fun c1 => ?_)
        · walk_at "tx"
          refine ret4 k (Same.refl _) ?_
          rw [eF]
          refine RK.fnd_at (t := t) (fun i hi => RK.fnd_none fun j hj => if_pos (ok i hi j hj)) ht ?_
          exact RK.fnd_at (t := u) (fun j hj => if_pos (ok2 j hj)) hu ((if_neg fun z => c1 (by omega)).trans (by rw [Int.zero_add, Int.zero_add]))
        walk_at "tx"
        refine ⟨fun i hi => ?_, _, rfl, rfl⟩
        by_cases e : i = u
        · subst e; omega
        · exact ok2 i (by omega)
      · rintro σ' H'' ⟨ok2, v2, rfl, rfl⟩
        refine ⟨fun i hi => ?_, _, _, rfl, rfl⟩
        by_cases e : i = t
        · subst e; exact ok2
        · exact ok i (by omega)
    · rintro σ' H' ⟨ok, v, v2, rfl, rfl⟩
      walk_at "tx"
      exact ret0 k (Same.refl _) (by rw [eF]; exact RK.fnd_none fun i hi => RK.fnd_none fun j hj => if_pos (ok i hi j hj))
theorem ok_grouping_fault (T : Top K mg) : FnOk P w K mg base CX0 1 T.f_grouping_fault T.fd_grouping_fault ["word", "table"] (spF fun vs H F => ∃ (q : Str) (a : Addr) (n : Nat) (J : Nat → Nat → Nat), vs = [.str q, .ref a] ∧ TabX K H a n J ∧ n ≤ 16 ∧ (∀ a b, a < n → b < n → J a b < n) ∧ F = RK.groupF q n J) := by
  refine T.F_grouping_fault.ok sc_grouping_fault (fun vs H Q E h => ?_) (fun cdv A outer s H vs Q E hr h => ?_)
  · obtain ⟨F, ⟨q, a, n, J, rfl, _⟩, _⟩ := h; rfl
  · obtain ⟨F, ⟨q, a, n, J, rfl, tj, n16, wj, eF⟩, k⟩ := h
    refine ⟨_, (pss_cons (ps_set (i := 2) sc_grouping_fault.nd rfl (Or.inl rfl) (pe_callTy OQ.cr_range1 (by rfl) T.n_range (by decide +kernel) (pa_cons (pe_callB RD.c_len (by rfl) T.n_len (by decide +kernel) (pa_cons (pv 1) pa_nil)) pa_nil)))
 (pss_cons (ps_for PassesOwn.never rfl (OQ.pi_rngV (pv 2)) (pg_name (i := 3) sc_grouping_fault.nd rfl (Or.inl rfl))
 (pss_one (ps_for PassesOwn.never rfl (OQ.pi_rngV (pv 2)) (pg_name (i := 4) sc_grouping_fault.nd rfl (Or.inl rfl))
 (pss_one (ps_for PassesOwn.never rfl (OQ.pi_rngV (pv 2)) (pg_name (i := 5) sc_grouping_fault.nd rfl (Or.inl rfl))
 (pss_one (ps_if (pt_cmpR op_ne (pe_ix OQ.ix_seq (pe_ix OQ.ix_seq (pv 1) (pe_ix OQ.ix_seq (pe_ix OQ.ix_seq (pv 1) (pv 3) (fun _ _ => rfl)) (pv 4) (fun _ _ => rfl)) (fun _ _ => rfl)) (pv 5) (fun _ _ => rfl)) (pe_ix OQ.ix_seq (pe_ix OQ.ix_seq (pv 1) (pv 3) (fun _ _ => rfl)) (pe_ix OQ.ix_seq (pe_ix OQ.ix_seq (pv 1) (pv 4) (fun _ _ => rfl)) (pv 5) (fun _ _ => rfl)) (fun _ _ => rfl)) (nomark _))
 (pss_one (ps_ret (pe_tup (pa_cons (pv 0) (pa_cons (pv 3) (pa_cons (pv 4) (pa_cons (pv 5) pa_nil)))))))
 pss_nil)))))))
 (pss_one (ps_ret pe_non)))), ?_⟩
    walk_at "tx"
    refine tj.len ?_
    refine ⟨n, rfl, fun p hp => ?_⟩
    have sp := same_upd (o := HO.rng 0 n) hp
    have ep : upd H p (.rng 0 n) p = some (.rng 0 n) := upd_same
    replace tj := tj.same sp
    generalize upd H p (.rng 0 n) = H0 at *
    walk_at "tx"
    refine ⟨p, 0, n, rfl, ep, by omega, ?_⟩
    refine RD.f_range (lo := 0) (n := ((n : Int) - 0).toNat) (fun t σ' H' => (∀ a, a < t → ∀ b, b < n → ∀ c, c < n → J (J a b) c = J a (J b c)) ∧ ∃ v v2 v3 : Option V, σ' = [some (.str q), some (.ref a), some (.ref p), v, v2, v3] ∧ H' = H0) ⟨fun i z => by omega, none, none, none, rfl, rfl⟩ ?_ ?_
    · rintro t σ' H' ht' ⟨ok, v, v2, v3, rfl, rfl⟩
      have ht : t < n := by omega
      walk_at "tx"
      refine ⟨p, 0, n, rfl, ep, by omega, ?_⟩
      refine RD.f_range (lo := 0) (n := ((n : Int) - 0).toNat) (fun u σ' H'' => (∀ b, b < u → ∀ c, c < n → J (J t b) c = J t (J b c)) ∧ ∃ v2 v3 : Option V, σ' = [some (.str q), some (.ref a), some (.ref p), some (.int (0 + t)), v2, v3] ∧ H'' = H') ⟨fun i z => by omega, v2, v3, rfl, rfl⟩ ?_ ?_
      · rintro u σ' H'' hu' ⟨ok2, v2, v3, rfl, rfl⟩
        have hu : u < n := by omega
        walk_at "tx"
        refine ⟨p, 0, n, rfl, ep, by omega, ?_⟩
        refine RD.f_range (lo := 0) (n := ((n : Int) - 0).toNat) (fun c σ' H' => (∀ d, d < c → J (J t u) d = J t (J u d)) ∧ ∃ v3 : Option V, σ' = [some (.str q), some (.ref a), some (.ref p), some (.int (0 + t)), some (.int (0 + u)), v3] ∧ H' = H'') ⟨fun i z => by omega, v3, rfl, rfl⟩ ?_ ?_
        · rintro c σ' H' hc' ⟨ok3, v3, rfl, rfl⟩
          have hc : c < n := by omega
          have w1 := wj t u ht hu
          have w2 := wj u c hu hc
          walk_at "tx"
          refine OQ.xT (m := t) tj (by omega) ht (fun r hr => ?_)
          walk_at "tx"
          refine OQ.xR (m := u) hr (by omega) hu ?_
          walk_at "tx"
          refine OQ.xT (m := J t u) tj rfl w1 (fun r hr => ?_)
          walk_at "tx"
          refine OQ.xR (m := c) hr (by omega) hc ?_
          walk_at "tx"
          refine OQ.xT (m := t) tj (by omega) ht (fun r0 hr0 => ?_)
          walk_at "tx"
          refine OQ.xT (m := u) tj (by omega) hu (fun r hr => ?_)
          walk_at "tx"
          refine OQ.xR (m := c) hr (by omega) hc ?_
          walk_at "tx"
          refine OQ.xR (m := J u c) hr0 rfl w2 ?_
          walk_at "tx"
          refine RD.iteN (fun c1 => ?_) (fun c1 => ?_)
          · walk_at "tx"
            refine ret4 k sp ?_
            rw [eF]
            refine RK.fnd_at (t := t) (fun i hi => RK.fnd_none fun j hj => RK.fnd_none fun l hl => if_pos (ok i hi j hj l hl)) ht ?_
            refine RK.fnd_at (t := u) (fun j hj => RK.fnd_none fun l hl => if_pos (ok2 j hj l hl)) hu ?_
            exact RK.fnd_at (t := c) (fun j hj => if_pos (ok3 j hj)) hc ((if_neg fun z => c1 (by omega)).trans (by rw [Int.zero_add, Int.zero_add, Int.zero_add]))
          walk_at "tx"
          refine ⟨fun i hi => ?_, _, rfl, rfl⟩
          by_cases e : i = c
          · subst e; omega
          · exact ok3 i (by omega)
        · rintro σ' H' ⟨ok3, v3, rfl, rfl⟩
          refine ⟨fun i hi => ?_, _, _, rfl, rfl⟩
          by_cases e : i = u
          · subst e; exact fun c hc => ok3 c (by omega)
          · exact ok2 i (by omega)
      · rintro σ' H'' ⟨ok2, v2, v3, rfl, rfl⟩
        refine ⟨fun i hi => ?_, _, _, _, rfl, rfl⟩
        by_cases e : i = t
        · subst e; exact fun b hb c hc => ok2 b (by omega) c hc
        · exact ok i (by omega)
    · rintro σ' H' ⟨ok, v, v2, v3, rfl, rfl⟩
      walk_at "tx"
      exact ret0 k sp (by rw [eF]; exact RK.fnd_none fun i hi => RK.fnd_none fun j hj => RK.fnd_none fun l hl => if_pos (ok i (by omega) j hj l hl))
theorem ok_same_fault (T : Top K mg) : FnOk P w K mg base CX0 1 T.f_same_fault T.fd_same_fault ["none", "one"] (spF fun vs _ F => ∃ z o : Nat, vs = [.int z, .int o] ∧ F = RK.sameF z o) := by
  refine T.F_same_fault.ok sc_same_fault (fun vs H Q E h => ?_) (fun cdv A outer s H vs Q E hr h => ?_)
  · obtain ⟨F, ⟨z, o, rfl, _⟩, _⟩ := h; rfl
  · obtain ⟨F, ⟨z, o, rfl, eF⟩, k⟩ := h
    refine ⟨_, (pss_one (ps_ret (pe_ifExp (pt_cmpR op_eq (pv 0) (pv 1) (nomark _)) (pe_tup (pa_cons pe_str (pa_cons (pe_un un_neg pe_int) (pa_cons (pe_un un_neg pe_int) (pa_cons (pe_un un_neg pe_int) pa_nil))))) pe_non))), ?_⟩
    walk_at "tx"
    refine RD.iteD (fun c => ?_) (fun c => ?_)
    · walk_at "tx"
      refine ret4 k (Same.refl _) ?_
      rw [eF]
      exact if_pos (by omega)
    · walk_at "tx"
      refine ret0 k (Same.refl _) ?_
      rw [eF]
      exact if_neg (by omega)
end

/-! ### the first fault -/
open OQ (TabX RowX)
open RK (Fl FltAt)
theorem d_orT {K : PySem.W.Frag} {ta tb : TE} {σ : L2.St} {H : Hp} {Q : VK} (h : ta σ H fun x H1 => ∃ k, TruV K x H1 k ∧ if k = true then Q x H1 else tb σ H1 Q) : tOrT K ta tb σ H Q := h
/-- the fault F1, and where it is none what comes next -/
theorem orF {K : PySem.W.Frag} {H : Hp} {v : V} {F1 F2 F : Fl} {X Y : Prop} (f : FltAt H v F1) (e : F = F1.or F2) (h1 : FltAt H v F → X) (h2 : F = F2 → Y) : ∃ k, TruV K v H k ∧ if k = true then X else Y := by
  cases F1 with
  | none => cases f; exact ⟨false, rfl, RD.d_iteF (h2 (by rw [e]; rfl))⟩
  | some q =>
    have e' : F = some q := by rw [e]; rfl
    obtain ⟨w, a, b, c⟩ := q
    obtain ⟨p, rfl, hp⟩ := id f
    exact ⟨true, .inr (.inl ⟨_, SqT.of hp, rfl⟩), RD.d_iteT (h1 (by rw [e']; exact f))⟩
/-- the first fault of what is handed in -/
def sizF (dj dp dz dn : PyData) : Fl := if RK.sizeB dj dp dz dn = true then none else some ("size", -1, -1, -1)
def firstF (dj dp dz dn : PyData) : Fl := (sizF dj dp dz dn).or (RK.restF (RK.cellsOf dj).length (RK.tabf dj) (RK.tabf dp) (RK.natOf dz) (RK.natOf dn))
theorem below_nat {K : PySem.W.Frag} {H : Hp} {n : Nat} {d : PyData} {v : V} (h : OQ.Dqd K H v d) (e : RK.belowB n d = true) : v = .int (RK.natOf d : Nat) ∧ RK.natOf d < n := by
  obtain ⟨i, rfl, h0, h1⟩ := OQ.belowB_int e
  cases h
  have : ((RK.natOf (.int i) : Nat) : Int) = i := by show ((i.toNat : Nat) : Int) = i; omega
  exact ⟨by rw [this], by omega⟩
theorem size_ok {dj dp dz dn : PyData} (h : RK.sizeB dj dp dz dn = true) : 2 ≤ (RK.cellsOf dj).length ∧ (RK.cellsOf dj).length ≤ 16 ∧ RK.squareB (RK.cellsOf dj).length dj = true ∧ RK.squareB (RK.cellsOf dj).length dp = true ∧ RK.belowB (RK.cellsOf dj).length dz = true ∧ RK.belowB (RK.cellsOf dj).length dn = true := by
  unfold RK.sizeB at h
  split at h
  · rename_i ds e
    have ec : RK.cellsOf dj = ds := by unfold RK.cellsOf; rw [e]; rfl
    simp only [Bool.and_eq_true, decide_eq_true_eq] at h
    rw [ec]
    exact ⟨h.1.1, h.1.2, h.2.1, h.2.2.1, h.2.2.2.1, h.2.2.2.2⟩
  · cases h
section
variable {P : Program} {w : World} {K : PySem.W.Frag} {mg : Str → Option Value} {base : Heap}
theorem ok_over_fault (T : Top K mg) : FnOk P w K mg base CX0 1 T.f_over_fault T.fd_over_fault ["joins", "products"] (spF fun vs H F => ∃ (a b : Addr) (n : Nat) (J M : Nat → Nat → Nat), vs = [.ref a, .ref b] ∧ TabX K H a n J ∧ TabX K H b n M ∧ n ≤ 16 ∧ (∀ a b, a < n → b < n → J a b < n) ∧ (∀ a b, a < n → b < n → M a b < n) ∧ F = RK.overF n J M) := by
  refine T.F_over_fault.ok sc_over_fault (fun vs H Q E h => ?_) (fun cdv A outer s H vs Q E hr h => ?_)
  · obtain ⟨F, ⟨a, b, n, J, M, rfl, _⟩, _⟩ := h; rfl
  · obtain ⟨F, ⟨a, b, n, J, M, rfl, tj, tp, n16, wj, wp, eF⟩, k⟩ := h
    refine ⟨_, (pss_cons (ps_set (i := 2) sc_over_fault.nd rfl (Or.inl rfl) (pe_callTy OQ.cr_range1 (by rfl) T.n_range (by decide +kernel) (pa_cons (pe_callB RD.c_len (by rfl) T.n_len (by decide +kernel) (pa_cons (pv 0) pa_nil)) pa_nil)))
 (pss_cons (ps_for PassesOwn.never rfl (OQ.pi_rngV (pv 2)) (pg_name (i := 3) sc_over_fault.nd rfl (Or.inl rfl))
 (pss_one (ps_for PassesOwn.never rfl (OQ.pi_rngV (pv 2)) (pg_name (i := 4) sc_over_fault.nd rfl (Or.inl rfl))
 (pss_one (ps_for PassesOwn.never rfl (OQ.pi_rngV (pv 2)) (pg_name (i := 5) sc_over_fault.nd rfl (Or.inl rfl))
 (pss_cons (ps_set (i := 6) sc_over_fault.nd rfl (Or.inl rfl) (pe_ix OQ.ix_seq (pe_ix OQ.ix_seq (pv 0) (pv 4) (fun _ _ => rfl)) (pv 5) (fun _ _ => rfl)))
 (pss_cons (ps_if (pt_cmpR op_ne (pe_ix OQ.ix_seq (pe_ix OQ.ix_seq (pv 1) (pv 3) (fun _ _ => rfl)) (pv 6) (fun _ _ => rfl)) (pe_ix OQ.ix_seq (pe_ix OQ.ix_seq (pv 0) (pe_ix OQ.ix_seq (pe_ix OQ.ix_seq (pv 1) (pv 3) (fun _ _ => rfl)) (pv 4) (fun _ _ => rfl)) (fun _ _ => rfl)) (pe_ix OQ.ix_seq (pe_ix OQ.ix_seq (pv 1) (pv 3) (fun _ _ => rfl)) (pv 5) (fun _ _ => rfl)) (fun _ _ => rfl)) (nomark _))
 (pss_one (ps_ret (pe_tup (pa_cons pe_str (pa_cons (pv 3) (pa_cons (pv 4) (pa_cons (pv 5) pa_nil)))))))
 pss_nil)
 (pss_one (ps_if (pt_cmpR op_ne (pe_ix OQ.ix_seq (pe_ix OQ.ix_seq (pv 1) (pv 6) (fun _ _ => rfl)) (pv 3) (fun _ _ => rfl)) (pe_ix OQ.ix_seq (pe_ix OQ.ix_seq (pv 0) (pe_ix OQ.ix_seq (pe_ix OQ.ix_seq (pv 1) (pv 4) (fun _ _ => rfl)) (pv 3) (fun _ _ => rfl)) (fun _ _ => rfl)) (pe_ix OQ.ix_seq (pe_ix OQ.ix_seq (pv 1) (pv 5) (fun _ _ => rfl)) (pv 3) (fun _ _ => rfl)) (fun _ _ => rfl)) (nomark _))
 (pss_one (ps_ret (pe_tup (pa_cons pe_str (pa_cons (pv 3) (pa_cons (pv 4) (pa_cons (pv 5) pa_nil)))))))
 pss_nil)))))))))
 (pss_one (ps_ret pe_non)))), ?_⟩
    walk_at "tx"
    refine tj.len ?_
    refine ⟨n, rfl, fun p hp => ?_⟩
    have sp := same_upd (o := HO.rng 0 n) hp
    have ep : upd H p (.rng 0 n) p = some (.rng 0 n) := upd_same
    replace tj := tj.same sp
    replace tp := tp.same sp
    generalize upd H p (.rng 0 n) = H0 at *
    walk_at "tx"
    refine ⟨p, 0, n, rfl, ep, by omega, ?_⟩
    refine RD.f_range (lo := 0) (n := ((n : Int) - 0).toNat) (fun t σ' H' => (∀ a, a < t → ∀ b, b < n → ∀ c, c < n → M a (J b c) = J (M a b) (M a c) ∧ M (J b c) a = J (M b a) (M c a)) ∧ ∃ v v2 v3 v4 : Option V, σ' = [some (.ref a), some (.ref b), some (.ref p), v, v2, v3, v4] ∧ H' = H0) ⟨fun i z => by omega, none, none, none, none, rfl, rfl⟩ ?_ ?_
    · rintro t σ' H' ht' ⟨ok, v, v2, v3, v4, rfl, rfl⟩
      have ht : t < n := by omega
      walk_at "tx"
      refine ⟨p, 0, n, rfl, ep, by omega, ?_⟩
      refine RD.f_range (lo := 0) (n := ((n : Int) - 0).toNat) (fun u σ' H'' => (∀ b, b < u → ∀ c, c < n → M t (J b c) = J (M t b) (M t c) ∧ M (J b c) t = J (M b t) (M c t)) ∧ ∃ v2 v3 v4 : Option V, σ' = [some (.ref a), some (.ref b), some (.ref p), some (.int (0 + t)), v2, v3, v4] ∧ H'' = H') ⟨fun i z => by omega, v2, v3, v4, rfl, rfl⟩ ?_ ?_
      · rintro u σ' H'' hu' ⟨ok2, v2, v3, v4, rfl, rfl⟩
        have hu : u < n := by omega
        walk_at "tx"
        refine ⟨p, 0, n, rfl, ep, by omega, ?_⟩
        refine RD.f_range (lo := 0) (n := ((n : Int) - 0).toNat) (fun c σ' H' => (∀ d, d < c → M t (J u d) = J (M t u) (M t d) ∧ M (J u d) t = J (M u t) (M d t)) ∧ ∃ v3 v4 : Option V, σ' = [some (.ref a), some (.ref b), some (.ref p), some (.int (0 + t)), some (.int (0 + u)), v3, v4] ∧ H' = H'') ⟨fun i z => by omega, v3, v4, rfl, rfl⟩ ?_ ?_
        · rintro c σ' H' hc' ⟨ok3, v3, v4, rfl, rfl⟩
          have hc : c < n := by omega
          have w1 := wj u c hu hc
          have bad : ¬ (M t (J u c) = J (M t u) (M t c) ∧ M (J u c) t = J (M u t) (M c t)) → F = some (("over" : Str), 0 + (t : Int), 0 + (u : Int), 0 + (c : Int)) := fun ng => by
            rw [eF]
            refine RK.fnd_at (t := t) (fun i hi => RK.fnd_none fun j hj => RK.fnd_none fun l hl => if_pos (ok i hi j hj l hl)) ht ?_
            refine RK.fnd_at (t := u) (fun j hj => RK.fnd_none fun l hl => if_pos (ok2 j hj l hl)) hu ?_
            exact RK.fnd_at (t := c) (fun j hj => if_pos (ok3 j hj)) hc ((if_neg ng).trans (by rw [Int.zero_add, Int.zero_add, Int.zero_add]))
          walk_at "tx"
          refine OQ.xT (m := u) tj (by omega) hu (fun r hr => ?_)
          walk_at "tx"
          refine OQ.xR (m := c) hr (by omega) hc ?_
          walk_at "tx"
          refine OQ.xT (m := t) tp (by omega) ht (fun r hr => ?_)
          walk_at "tx"
          refine OQ.xR (m := J u c) hr rfl w1 ?_
          walk_at "tx"
          refine OQ.xT (m := t) tp (by omega) ht (fun r hr => ?_)
          walk_at "tx"
          refine OQ.xR (m := u) hr (by omega) hu ?_
          walk_at "tx"
          refine OQ.xT (m := M t u) tj rfl (wp t u ht hu) (fun r0 hr0 => ?_)
          walk_at "tx"
          refine OQ.xT (m := t) tp (by omega) ht (fun r hr => ?_)
          walk_at "tx"
          refine OQ.xR (m := c) hr (by omega) hc ?_
          walk_at "tx"
          refine OQ.xR (m := M t c) hr0 rfl (wp t c ht hc) ?_
          walk_at "tx"
          refine RD.iteN (fun c1 => ?_) (fun c1 => ?_)
          · walk_at "tx"
            exact ret4 k sp (bad fun z => c1 (by omega))
          walk_at "tx"
          refine OQ.xT (m := J u c) tp rfl w1 (fun r hr => ?_)
          walk_at "tx"
          refine OQ.xR (m := t) hr (by omega) ht ?_
          walk_at "tx"
          refine OQ.xT (m := u) tp (by omega) hu (fun r hr => ?_)
          walk_at "tx"
          refine OQ.xR (m := t) hr (by omega) ht ?_
          walk_at "tx"
          refine OQ.xT (m := M u t) tj rfl (wp u t hu ht) (fun r0 hr0 => ?_)
          walk_at "tx"
          refine OQ.xT (m := c) tp (by omega) hc (fun r hr => ?_)
          walk_at "tx"
          refine OQ.xR (m := t) hr (by omega) ht ?_
          walk_at "tx"
          refine OQ.xR (m := M c t) hr0 rfl (wp c t hc ht) ?_
          walk_at "tx"
          refine RD.iteN (fun c2 => ?_) (fun c2 => ?_)
          · walk_at "tx"
            exact ret4 k sp (bad fun z => c2 (by omega))
          walk_at "tx"
          refine ⟨fun i hi => ?_, _, _, rfl, rfl⟩
          by_cases e : i = c
          · subst e; omega
          · exact ok3 i (by omega)
        · rintro σ' H' ⟨ok3, v3, v4, rfl, rfl⟩
          refine ⟨fun i hi => ?_, _, _, _, rfl, rfl⟩
          by_cases e : i = u
          · subst e; exact fun c hc => ok3 c (by omega)
          · exact ok2 i (by omega)
      · rintro σ' H'' ⟨ok2, v2, v3, v4, rfl, rfl⟩
        refine ⟨fun i hi => ?_, _, _, _, _, rfl, rfl⟩
        by_cases e : i = t
        · subst e; exact fun b hb c hc => ok2 b (by omega) c hc
        · exact ok i (by omega)
    · rintro σ' H' ⟨ok, v, v2, v3, v4, rfl, rfl⟩
      walk_at "tx"
      exact ret0 k sp (by rw [eF]; exact RK.fnd_none fun i hi => RK.fnd_none fun j hj => RK.fnd_none fun l hl => if_pos (ok i (by omega) j hj l hl))
theorem ok_size_fault (T : Top K mg) : FnOk P w K mg base CX0 8 T.f_size_fault T.fd_size_fault ["joins", "products", "none", "one"] (spF fun vs H F => ∃ (vj vp vz vn : V) (dj dp dz dn : PyData), vs = [vj, vp, vz, vn] ∧ OQ.Dqd K H vj dj ∧ OQ.Dqd K H vp dp ∧ OQ.Dqd K H vz dz ∧ OQ.Dqd K H vn dn ∧ F = sizF dj dp dz dn) := by
  refine T.F_size_fault.ok sc_size_fault (fun vs H Q E h => ?_) (fun cdv A outer s H vs Q E hr h => ?_)
  · obtain ⟨F, ⟨vj, vp, vz, vn, dj, dp, dz, dn, rfl, _⟩, _⟩ := h; rfl
  · obtain ⟨F, ⟨vj, vp, vz, vn, dj, dp, dz, dn, rfl, hj, hp, hz, hn, eF⟩, k⟩ := h
    have bad : RK.sizeB dj dp dz dn = false → F = some (("size" : Str), -1, -1, -1) := fun z => by rw [eF]; unfold sizF; rw [if_neg (by rw [z]; decide)]
    refine ⟨_, (pss_cons (ps_if (PW.pt (pw_or (pt_not (pt_val (pe_call (ok_is_row T) (hr.mono (by decide)) (by rfl) T.g_is_row T.F_is_row.kp T.b_is_row .nil pass0 (pa_cons (pv 0) pa_nil)))) (pw_or1 (pt_not (pt_chain op_le op_le (pe_glob (v := V.int 2) (by rfl) T.g_FEWEST_WORTHS ⟨_, rfl⟩) (pe_callB RD.c_len (by rfl) T.n_len (by decide +kernel) (pa_cons (pv 0) pa_nil)) (pe_glob (v := V.int 16) (by rfl) T.g_MOST_WORTHS ⟨_, rfl⟩))))))
 (pss_one (ps_ret (pe_tup (pa_cons pe_str (pa_cons (pe_un un_neg pe_int) (pa_cons (pe_un un_neg pe_int) (pa_cons (pe_un un_neg pe_int) pa_nil)))))))
 pss_nil)
 (pss_cons (ps_set (i := 4) sc_size_fault.nd rfl (Or.inl rfl) (pe_callB RD.c_len (by rfl) T.n_len (by decide +kernel) (pa_cons (pv 0) pa_nil)))
 (pss_cons (ps_if (PW.pt (pw_or (pt_not (pt_val (pe_call (ok_is_square T) (hr.mono (by decide)) (by rfl) T.g_is_square T.F_is_square.kp T.b_is_square .nil pass0 (pa_cons (pv 4) (pa_cons (pv 0) pa_nil))))) (pw_or1 (pt_not (pt_val (pe_call (ok_is_square T) (hr.mono (by decide)) (by rfl) T.g_is_square T.F_is_square.kp T.b_is_square .nil pass0 (pa_cons (pv 4) (pa_cons (pv 1) pa_nil))))))))
 (pss_one (ps_ret (pe_tup (pa_cons pe_str (pa_cons (pe_un un_neg pe_int) (pa_cons (pe_un un_neg pe_int) (pa_cons (pe_un un_neg pe_int) pa_nil)))))))
 pss_nil)
 (pss_cons (ps_if (PW.pt (pw_or (pt_not (pt_val (pe_call (ok_is_below T) (hr.mono (by decide)) (by rfl) T.g_is_below T.F_is_below.kp T.b_is_below .nil pass0 (pa_cons (pv 4) (pa_cons (pv 2) pa_nil))))) (pw_or1 (pt_not (pt_val (pe_call (ok_is_below T) (hr.mono (by decide)) (by rfl) T.g_is_below T.F_is_below.kp T.b_is_below .nil pass0 (pa_cons (pv 4) (pa_cons (pv 3) pa_nil))))))))
 (pss_one (ps_ret (pe_tup (pa_cons pe_str (pa_cons (pe_un un_neg pe_int) (pa_cons (pe_un un_neg pe_int) (pa_cons (pe_un un_neg pe_int) pa_nil)))))))
 pss_nil)
 (pss_one (ps_ret pe_non)))))), ?_⟩
    walk_at "tx"
    obtain ⟨t, ty, ek⟩ := OQ.dqd_isRow hj
    refine ⟨vj, t, _, rfl, ty, ek, fun H1 s1 => ?_⟩
    replace hj := OQ.Dqd.same s1 hj
    replace hp := OQ.Dqd.same s1 hp
    replace hz := OQ.Dqd.same s1 hz
    replace hn := OQ.Dqd.same s1 hn
    cases er : RK.rowsOf dj with
    | none =>
      refine ⟨false, rfl, RD.d_iteNF ?_⟩
      walk_at "tx"
      exact ret4 k s1 (bad (by unfold RK.sizeB; rw [er]))
    | some ds =>
      have eB : RK.sizeB dj dp dz dn = (decide (2 ≤ ds.length ∧ ds.length ≤ 16) && (RK.squareB ds.length dj && (RK.squareB ds.length dp && (RK.belowB ds.length dz && RK.belowB ds.length dn)))) := by unfold RK.sizeB; rw [er]
      rw [eB] at bad
      refine ⟨true, rfl, RD.d_iteNT ?_⟩
      obtain ⟨a, xs, rfl, sa, da⟩ := OQ.dqd_row hj er
      have len := OQ.dqdAll_len da
      walk_at "tx"
      refine sa.len ?_
      walk_at "tx"
      rw [len]
      refine RD.iteD (fun c1 => ?_) (fun c1 => ?_)
      · walk_at "tx"
        refine RD.iteN (fun c2 => ?_) (fun c2 => ?_)
        · walk_at "tx"
          exact ret4 k s1 (bad (by rw [decide_eq_false (by omega), Bool.false_and]))
        rw [decide_eq_true (by omega : 2 ≤ ds.length ∧ ds.length ≤ 16), Bool.true_and] at bad eB
        walk_at "tx"
        refine sa.len ?_
        walk_at "tx"
        rw [len]
        refine ⟨ds.length, _, dj, rfl, by omega, hj, fun H2 s2 => ?_⟩
        have s12 := s1.trans s2
        replace hp := OQ.Dqd.same s2 hp
        replace hz := OQ.Dqd.same s2 hz
        replace hn := OQ.Dqd.same s2 hn
        cases e1 : RK.squareB ds.length dj with
        | false =>
          refine ⟨false, rfl, RD.d_iteNF ?_⟩
          walk_at "tx"
          exact ret4 k s12 (bad (by rw [e1, Bool.false_and]))
        | true =>
          rw [e1, Bool.true_and] at bad eB
          refine ⟨true, rfl, RD.d_iteNT ?_⟩
          walk_at "tx"
          refine ⟨ds.length, _, dp, rfl, by omega, hp, fun H3 s3 => ?_⟩
          have s13 := s12.trans s3
          replace hz := OQ.Dqd.same s3 hz
          replace hn := OQ.Dqd.same s3 hn
          cases e2 : RK.squareB ds.length dp with
          | false =>
            refine ⟨false, rfl, RD.d_iteNF ?_⟩
            walk_at "tx"
            exact ret4 k s13 (bad (by rw [e2, Bool.false_and]))
          | true =>
            rw [e2, Bool.true_and] at bad eB
            refine ⟨true, rfl, RD.d_iteNT ?_⟩
            walk_at "tx"
            refine ⟨ds.length, _, _, rfl, Bl.dq hz, ?_⟩
            cases e3 : RK.belowB ds.length dz with
            | false =>
              refine ⟨false, rfl, RD.d_iteNF ?_⟩
              walk_at "tx"
              exact ret4 k s13 (bad (by rw [e3, Bool.false_and]))
            | true =>
              rw [e3, Bool.true_and] at bad eB
              refine ⟨true, rfl, RD.d_iteNT ?_⟩
              walk_at "tx"
              refine ⟨ds.length, _, _, rfl, Bl.dq hn, ?_⟩
              cases e4 : RK.belowB ds.length dn with
              | false =>
                refine ⟨false, rfl, RD.d_iteNF ?_⟩
                walk_at "tx"
                exact ret4 k s13 (bad e4)
              | true =>
                refine ⟨true, rfl, RD.d_iteNT ?_⟩
                walk_at "tx"
                exact ret0 k s13 (by rw [eF]; unfold sizF; rw [if_pos (eB.trans e4)])
      · walk_at "tx"
        exact ret4 k s1 (bad (by rw [decide_eq_false (by omega), Bool.false_and]))
theorem ok_first_fault (T : Top K mg) : FnOk P w K mg base CX0 10 T.f_first_fault T.fd_first_fault ["joins", "products", "none", "one"] (spF fun vs H F => ∃ (vj vp vz vn : V) (dj dp dz dn : PyData), vs = [vj, vp, vz, vn] ∧ OQ.Dqd K H vj dj ∧ OQ.Dqd K H vp dp ∧ OQ.Dqd K H vz dz ∧ OQ.Dqd K H vn dn ∧ F = firstF dj dp dz dn) := by
  refine T.F_first_fault.ok sc_first_fault (fun vs H Q E h => ?_) (fun cdv A outer s H vs Q E hr h => ?_)
  · obtain ⟨F, ⟨vj, vp, vz, vn, dj, dp, dz, dn, rfl, _⟩, _⟩ := h; rfl
  · obtain ⟨F, ⟨vj, vp, vz, vn, dj, dp, dz, dn, rfl, hj, hp, hz, hn, eF⟩, k⟩ := h
    refine ⟨_, (pss_one (ps_ret (pe_orT (pe_call (ok_size_fault T) (hr.mono (by decide)) (by rfl) T.g_size_fault T.F_size_fault.kp T.b_size_fault .nil pass0 (pa_cons (pv 0) (pa_cons (pv 1) (pa_cons (pv 2) (pa_cons (pv 3) pa_nil))))) (pe_orT (pe_call (ok_none_fault T) (hr.mono (by decide)) (by rfl) T.g_none_fault T.F_none_fault.kp T.b_none_fault .nil pass0 (pa_cons (pv 0) (pa_cons (pv 1) (pa_cons (pv 2) pa_nil)))) (pe_orT (pe_call (ok_one_fault T) (hr.mono (by decide)) (by rfl) T.g_one_fault T.F_one_fault.kp T.b_one_fault .nil pass0 (pa_cons (pv 1) (pa_cons (pv 3) pa_nil))) (pe_orT (pe_call (ok_idle_fault T) (hr.mono (by decide)) (by rfl) T.g_idle_fault T.F_idle_fault.kp T.b_idle_fault .nil pass0 (pa_cons (pv 0) pa_nil)) (pe_orT (pe_call (ok_swap_fault T) (hr.mono (by decide)) (by rfl) T.g_swap_fault T.F_swap_fault.kp T.b_swap_fault .nil pass0 (pa_cons (pv 0) pa_nil)) (pe_orT (pe_call (ok_grouping_fault T) (hr.mono (by decide)) (by rfl) T.g_grouping_fault T.F_grouping_fault.kp T.b_grouping_fault .nil pass0 (pa_cons pe_str (pa_cons (pv 0) pa_nil))) (pe_orT (pe_call (ok_grouping_fault T) (hr.mono (by decide)) (by rfl) T.g_grouping_fault T.F_grouping_fault.kp T.b_grouping_fault .nil pass0 (pa_cons pe_str (pa_cons (pv 1) pa_nil))) (pe_orT (pe_call (ok_over_fault T) (hr.mono (by decide)) (by rfl) T.g_over_fault T.F_over_fault.kp T.b_over_fault .nil pass0 (pa_cons (pv 0) (pa_cons (pv 1) pa_nil))) (pe_one (pe_call (ok_same_fault T) (hr.mono (by decide)) (by rfl) T.g_same_fault T.F_same_fault.kp T.b_same_fault .nil pass0 (pa_cons (pv 2) (pa_cons (pv 3) pa_nil)))))))))))))), ?_⟩
    walk_at "tx"
    refine d_orT ?_
    walk_at "tx"
    refine ⟨_, ⟨vj, vp, vz, vn, dj, dp, dz, dn, rfl, hj, hp, hz, hn, rfl⟩, fun v1 H1 s1 f1 => ?_⟩
    by_cases eS : RK.sizeB dj dp dz dn = true
    · have e0 : sizF dj dp dz dn = none := if_pos eS
      rw [e0] at f1
      have eF : F = RK.restF (RK.cellsOf dj).length (RK.tabf dj) (RK.tabf dp) (RK.natOf dz) (RK.natOf dn) := by rw [eF]; unfold firstF; rw [e0]; rfl
      obtain ⟨n2, n16, qj, qp, qz, qn⟩ := size_ok eS
      generalize (RK.cellsOf dj).length = n at *
      obtain ⟨a, rfl, tj, wj⟩ := OQ.dqd_tab hj qj
      obtain ⟨b, rfl, tp, wp⟩ := OQ.dqd_tab hp qp
      obtain ⟨rfl, zn⟩ := below_nat hz qz
      obtain ⟨rfl, on⟩ := below_nat hn qn
      clear hj hp hz hn qj qp qz qn e0 eS
      generalize RK.tabf dj = J at *
      generalize RK.tabf dp = M at *
      generalize RK.natOf dz = z at *
      generalize RK.natOf dn = o at *
      unfold RK.restF at eF
      replace tj := tj.same s1
      replace tp := tp.same s1
      cases f1
      refine ⟨false, rfl, ?_⟩
      walk_at "tx"
      try refine d_orT ?_
      walk_at "tx"
      refine ⟨_, ⟨a, b, n, J, M, z, rfl, tj, tp, zn, n16, rfl⟩, fun v2 H2 s2 f2 => orF f2 eF (fun f => k _ _ (s1.trans s2) f) (fun eF => ?_)⟩
      replace tj := tj.same s2
      replace tp := tp.same s2
      replace s1 := s1.trans s2
      clear f2 s2
      walk_at "tx"
      try refine d_orT ?_
      walk_at "tx"
      refine ⟨_, ⟨b, n, M, o, rfl, tp, on, n16, rfl⟩, fun v3 H3 s3 f3 => orF f3 eF (fun f => k _ _ (s1.trans s3) f) (fun eF => ?_)⟩
      replace tj := tj.same s3
      replace tp := tp.same s3
      replace s1 := s1.trans s3
      clear f3 s3
      walk_at "tx"
      try refine d_orT ?_
      walk_at "tx"
      refine ⟨_, ⟨a, n, J, rfl, tj, n16, rfl⟩, fun v4 H4 s4 f4 => orF f4 eF (fun f => k _ _ (s1.trans s4) f) (fun eF => ?_)⟩
      replace tj := tj.same s4
      replace tp := tp.same s4
      replace s1 := s1.trans s4
      clear f4 s4
      walk_at "tx"
      try refine d_orT ?_
      walk_at "tx"
      refine ⟨_, ⟨a, n, J, rfl, tj, n16, rfl⟩, fun v5 H5 s5 f5 => orF f5 eF (fun f => k _ _ (s1.trans s5) f) (fun eF => ?_)⟩
      replace tj := tj.same s5
      replace tp := tp.same s5
      replace s1 := s1.trans s5
      clear f5 s5
      walk_at "tx"
      try refine d_orT ?_
      walk_at "tx"
      refine ⟨_, ⟨_, a, n, J, rfl, tj, n16, wj, rfl⟩, fun v6 H6 s6 f6 => orF f6 eF (fun f => k _ _ (s1.trans s6) f) (fun eF => ?_)⟩
      replace tj := tj.same s6
      replace tp := tp.same s6
      replace s1 := s1.trans s6
      clear f6 s6
      walk_at "tx"
      try refine d_orT ?_
      walk_at "tx"
      refine ⟨_, ⟨_, b, n, M, rfl, tp, n16, wp, rfl⟩, fun v7 H7 s7 f7 => orF f7 eF (fun f => k _ _ (s1.trans s7) f) (fun eF => ?_)⟩
      replace tj := tj.same s7
      replace tp := tp.same s7
      replace s1 := s1.trans s7
      clear f7 s7
      walk_at "tx"
      try refine d_orT ?_
      walk_at "tx"
      refine ⟨_, ⟨a, b, n, J, M, rfl, tj, tp, n16, wj, wp, rfl⟩, fun v8 H8 s8 f8 => orF f8 eF (fun f => k _ _ (s1.trans s8) f) (fun eF => ?_)⟩
      replace tj := tj.same s8
      replace tp := tp.same s8
      replace s1 := s1.trans s8
      clear f8 s8
      walk_at "tx"
      try refine d_orT ?_
      walk_at "tx"
      exact ⟨_, ⟨z, o, rfl, rfl⟩, fun v H' s' f => k _ _ (s1.trans s') (by rw [eF]; exact f)⟩
    · have e0 : sizF dj dp dz dn = some (("size" : Str), -1, -1, -1) := if_neg eS
      rw [e0] at f1
      have eF : F = some (("size" : Str), -1, -1, -1) := by rw [eF]; unfold firstF; rw [e0]; rfl
      obtain ⟨p, rfl, hp'⟩ := id f1
      refine ⟨true, .inr (.inl ⟨_, SqT.of hp', rfl⟩), RD.d_iteT ?_⟩
      exact k _ _ s1 (by rw [eF]; exact f1)
end

/-! ### a reckoning's own tables, its inner methods -/
open OQ (TabX RowX)
def jall (J : Nat → Nat → Nat) (z : Nat) (ws : List Nat) : Nat := ws.foldl (fun f w => J f w) z
def meetF (n : Nat) (J : Nat → Nat → Nat) (z a b : Nat) : Nat := jall J z (((List.range n).filter fun w => decide (J w a = a)).filter fun w => decide (J w b = b))
def leftF (n : Nat) (J M : Nat → Nat → Nat) (z a c : Nat) : Nat := jall J z ((List.range n).filter fun b => decide (J (M a b) c = c))
def rightF (n : Nat) (J M : Nat → Nat → Nat) (z c a : Nat) : Nat := jall J z ((List.range n).filter fun b => decide (J (M b a) c = c))
theorem jall_lt {n : Nat} {J : Nat → Nat → Nat} {z : Nat} (zn : z < n) (wj : ∀ a b, a < n → b < n → J a b < n) : ∀ ws : List Nat, (∀ j ∈ ws, j < n) → jall J z ws < n := by
  intro ws
  induction ws generalizing z with
  | nil => intro _; exact zn
  | cons w ws ih =>
    intro h
    show jall J (J z w) ws < n
    exact ih (wj _ _ zn (h w (List.mem_cons_self ..))) fun j m => h j (List.mem_cons_of_mem _ m)
theorem jall_snoc {J : Nat → Nat → Nat} {z w : Nat} {ws : List Nat} : jall J z (ws ++ [w]) = J (jall J z ws) w := by
  unfold jall
  rw [List.foldl_append]; rfl
theorem filt_succ {p : Nat → Bool} {i : Nat} : (List.range (i + 1)).filter p = (List.range i).filter p ++ (if p i = true then [i] else []) := by
  rw [List.range_succ, List.filter_append]
  congr 1
  by_cases c : p i = true
  · rw [if_pos c]; simp [c]
  · rw [if_neg c]; simp [c]
theorem filt_take {p : Nat → Bool} {ws : List Nat} {i j : Nat} (e : ws[i]? = some j) : (ws.take (i + 1)).filter p = (ws.take i).filter p ++ (if p j = true then [j] else []) := by
  rw [List.take_succ, e, List.filter_append]
  congr 1
  by_cases c : p j = true
  · rw [if_pos c]; simp [c]
  · rw [if_neg c]; simp [c]
/-- one more number of a list of ours -/
theorem lput {H H' : Hp} {D : Addr} {us : List Nat} {j : Nat} {v : V} (hD : H D = none) (s : Same H H') (eD : H' D = some (.lst (WW.Ns us))) (l : us.length ≤ 100) (ev : v = .int (j : Nat)) :
    ∃ acc, H' D = some (.lst acc) ∧ acc.length < sizeLine ∧ Same H (upd H' D (.lst (acc ++ [v]))) ∧ upd H' D (.lst (acc ++ [v])) D = some (.lst (WW.Ns (us ++ [j]))) := by
  subst ev
  exact ⟨_, eD, by rw [WW.Ns_len]; exact Nat.lt_of_le_of_lt l (by decide), same_put s hD, by rw [upd_same, WW.Ns_app]⟩
/-- the object at x has these tables, and none -/
structure Rek (K : PySem.W.Frag) (C : Addr) (H : Hp) (x : Addr) (n : Nat) (J M : Nat → Nat → Nat) (z : Nat) : Prop where
  zn : z < n
  n16 : n ≤ 16
  wj : ∀ a b, a < n → b < n → J a b < n
  wp : ∀ a b, a < n → b < n → M a b < n
  has : ∃ (dx jt pt : Addr) (fs : List (Str × V)), H x = some (.ins C dx fs) ∧ fs.lookup ("joins" : Str) = some (.ref jt) ∧ TabX K H jt n J ∧ fs.lookup ("products" : Str) = some (.ref pt) ∧ TabX K H pt n M ∧ fs.lookup ("none" : Str) = some (.int z) ∧
    ∀ m ∈ ([("_joined" : Str), ("_meet" : Str), ("_left" : Str), ("_right" : Str), ("is_worth" : Str), ("beneath" : Str), ("join" : Str), ("times" : Str), ("meet" : Str), ("greatest" : Str), ("left" : Str), ("right" : Str)] : List Str), fs.lookup m = none
theorem Rek.same {K : PySem.W.Frag} {C : Addr} {H H' : Hp} {x : Addr} {n : Nat} {J M : Nat → Nat → Nat} {z : Nat} (h : Rek K C H x n J M z) (s : Same H H') : Rek K C H' x n J M z := by
  obtain ⟨dx, jt, pt, fs, e, l1, t1, l2, t2, r⟩ := h.has
  exact ⟨h.zn, h.n16, h.wj, h.wp, dx, jt, pt, fs, s _ _ e, l1, t1.same s, l2, t2.same s, r⟩
def spJoined (K : PySem.W.Frag) (C : Addr) : Sp := fun vs H Q _ => ∃ (x l : Addr) (n : Nat) (J M : Nat → Nat → Nat) (z : Nat) (ws : List Nat), vs = [.ref x, .ref l] ∧ Rek K C H x n J M z ∧ H l = some (.lst (WW.Ns ws)) ∧ (∀ j ∈ ws, j < n) ∧ Q (.int (jall J z ws : Nat)) H
def spTwoW (K : PySem.W.Frag) (C : Addr) (f : Nat → (Nat → Nat → Nat) → (Nat → Nat → Nat) → Nat → Nat → Nat → Nat) : Sp := fun vs H Q _ => ∃ (x : Addr) (n : Nat) (J M : Nat → Nat → Nat) (z a b : Nat), vs = [.ref x, .int a, .int b] ∧ Rek K C H x n J M z ∧ a < n ∧ b < n ∧ ∀ H', Same H H' → Q (.int (f n J M z a b : Nat)) H'
section
variable {P : Program} {w : World} {K : PySem.W.Frag} {mg : Str → Option Value} {base : Heap} {H : Hp} {R : V → Prop}
theorem rekJ (T : Top K mg) {x : Addr} {n : Nat} {J M : Nat → Nat → Nat} {z : Nat} (h : Rek K T.C_Reckoning H x n J M z) (k : ∀ jt, TabX K H jt n J → R (.ref jt)) : ∃ a' C dx fs v, V.ref x = .ref a' ∧ H a' = some (.ins C dx fs) ∧ Cls K C ∧ NoAttr K C "joins" ∧ fs.lookup ("joins" : Str) = some v ∧ R v := by
  obtain ⟨dx, jt, pt, fs, e, l1, t1, _⟩ := h.has
  exact ⟨x, _, dx, fs, _, rfl, e, T.cl_Reckoning, T.na_Reckoning_joins, l1, k jt t1⟩
theorem rekP (T : Top K mg) {x : Addr} {n : Nat} {J M : Nat → Nat → Nat} {z : Nat} (h : Rek K T.C_Reckoning H x n J M z) (k : ∀ pt, TabX K H pt n M → R (.ref pt)) : ∃ a' C dx fs v, V.ref x = .ref a' ∧ H a' = some (.ins C dx fs) ∧ Cls K C ∧ NoAttr K C "products" ∧ fs.lookup ("products" : Str) = some v ∧ R v := by
  obtain ⟨dx, jt, pt, fs, e, l1, t1, l2, t2, _⟩ := h.has
  exact ⟨x, _, dx, fs, _, rfl, e, T.cl_Reckoning, T.na_Reckoning_products, l2, k pt t2⟩
theorem rekN (T : Top K mg) {x : Addr} {n : Nat} {J M : Nat → Nat → Nat} {z : Nat} (h : Rek K T.C_Reckoning H x n J M z) (k : R (.int z)) : ∃ a' C dx fs v, V.ref x = .ref a' ∧ H a' = some (.ins C dx fs) ∧ Cls K C ∧ NoAttr K C "none" ∧ fs.lookup ("none" : Str) = some v ∧ R v := by
  obtain ⟨dx, jt, pt, fs, e, l1, t1, l2, t2, l3, _⟩ := h.has
  exact ⟨x, _, dx, fs, _, rfl, e, T.cl_Reckoning, T.na_Reckoning_none, l3, k⟩
theorem rekM {C : Addr} {x : Addr} {n : Nat} {J M : Nat → Nat → Nat} {z : Nat} {m : Str} {R : Prop} (h : Rek K C H x n J M z) (hm : m ∈ ([("_joined" : Str), ("_meet" : Str), ("_left" : Str), ("_right" : Str), ("is_worth" : Str), ("beneath" : Str), ("join" : Str), ("times" : Str), ("meet" : Str), ("greatest" : Str), ("left" : Str), ("right" : Str)] : List Str)) (k : R) : ∃ a' dx fs, V.ref x = .ref a' ∧ H a' = some (.ins C dx fs) ∧ fs.lookup m = none ∧ R := by
  obtain ⟨dx, jt, pt, fs, e, l1, t1, l2, t2, l3, ms⟩ := h.has
  exact ⟨x, dx, fs, rfl, e, ms m hm, k⟩
theorem ok_Reckoning_Ujoined (T : Top K mg) : FnOk P w K mg base CX0 1 T.f_Reckoning_Ujoined T.fd_Reckoning_Ujoined ["self", "worths"] (spJoined K T.C_Reckoning) := by
  refine T.F_Reckoning_Ujoined.ok sc_Reckoning_Ujoined (fun vs H Q E h => ?_) (fun cdv A outer s H vs Q E hr h => ?_)
  · obtain ⟨x, l, n, J, M, z, ws, rfl, _⟩ := h; rfl
  · obtain ⟨x, l, n, J, M, z, ws, rfl, re, el, all, k⟩ := h
    refine ⟨_, (pss_cons (ps_set (i := 2) sc_Reckoning_Ujoined.nd rfl (Or.inl rfl) (pe_fld (pv 0) (by rfl)))
 (pss_cons (ps_for PassesOwn.never rfl (pi_list (pv 1)) (pg_name (i := 3) sc_Reckoning_Ujoined.nd rfl (Or.inl rfl))
 (pss_one (ps_set (i := 2) sc_Reckoning_Ujoined.nd rfl (Or.inl rfl) (pe_ix OQ.ix_seq (pe_ix OQ.ix_seq (pe_fld (pv 0) (by rfl)) (pv 2) (fun _ _ => rfl)) (pv 3) (fun _ _ => rfl)))))
 (pss_one (ps_ret (pv 2))))), ?_⟩
    walk_at "tx"
    refine rekN T re ?_
    walk_at "tx"
    refine RD.f_list (K := K) (a := l) (xs := WW.Ns ws) (fun i σ' H' => ∃ v : Option V, σ' = [some (.ref x), some (.ref l), some (.int (jall J z (ws.take i) : Nat)), v] ∧ H' = H) ⟨none, rfl, rfl⟩ ?_ ?_ ?_
    · rintro i σ' H' _ ⟨v, _, rfl⟩
      exact SqL.of el
    · rintro i y σ' H' hy ⟨v, rfl, rfl⟩
      obtain ⟨j, hj, rfl⟩ := WW.Ns_get hy
      have jn := all j (List.mem_of_getElem? hj)
      have fn := jall_lt re.zn re.wj (ws.take i) fun q m => all q (List.mem_of_mem_take m)
      walk_at "tx"
      refine rekJ T re (fun jt tj => ?_)
      walk_at "tx"
      refine OQ.xT (m := jall J z (ws.take i)) tj rfl fn (fun r hr => ?_)
      walk_at "tx"
      refine OQ.xR (m := j) hr rfl jn ?_
      refine ⟨some (.int (j : Nat)), ?_, rfl⟩
      have e : jall J z (ws.take (i + 1)) = J (jall J z (ws.take i)) j := by
        rw [List.take_succ, hj]
        exact jall_snoc
      rw [e]
      rfl
    · rintro σ' H' ⟨v, rfl, rfl⟩
      rw [WW.Ns_len, List.take_length]
      walk_at "tx"
      exact k
theorem ok_Reckoning_Umeet (T : Top K mg) : FnOk P w K mg base CX0 3 T.f_Reckoning_Umeet T.fd_Reckoning_Umeet ["self", "a", "b"] (spTwoW K T.C_Reckoning fun n J _ z a b => meetF n J z a b) := by
  refine T.F_Reckoning_Umeet.ok sc_Reckoning_Umeet (fun vs H Q E h => ?_) (fun cdv A outer s H vs Q E hr h => ?_)
  · obtain ⟨x, n, J, M, z, a, b, rfl, _⟩ := h; rfl
  · obtain ⟨x, n, J, M, z, a, b, rfl, re, ha, hb, k⟩ := h
    refine ⟨_, (pss_cons (ps_setLc (i := 3) (own := [("worth", 4)]) (g := (gName 4)) (tt := _) rfl sc_Reckoning_Umeet.nd rfl rfl (sw_true rfl rfl rfl (by decide +kernel)) (pi_range1 (by rfl) T.n_range (pa_cons (pe_callB RD.c_len (by rfl) T.n_len (by decide +kernel) (pa_cons (pe_fld (pv 0) (by rfl)) pa_nil)) pa_nil)) (blkOk_by (own := [("worth", 4)]) (N := ["self", "a", "b", "below", "worth"]) (sc := defScope s_Reckoning_Umeet) (by decide +kernel)) (fun _ _ _ _ _ => (pg_name (i := 4) sc_Reckoning_Umeet.nd rfl (Or.inl rfl))) (fun _ _ _ _ _ => (pts_one (pt_cmpR op_eq (pe_ix (OQ.ixA K) (pe_ix (OQ.ixA K) (OQ.fldK K (pv 0)) (pv 4) (fun _ _ => rfl)) (pv 1) (fun _ _ => rfl)) (pv 1) (nomark _)))) (fun _ _ _ _ _ => (pv 4)))
 (pss_one (ps_ret (pe_meth (pv 0) T.cl_Reckoning T.m_Reckoning_Ujoined (ok_Reckoning_Ujoined T) (hr.mono (by decide)) T.b_Reckoning_Ujoined .nil pass0 (pa_cons (pe_lc (own := [("worth", 4)]) (g := (gName 4)) (tt := _) rfl sc_Reckoning_Umeet.nd (pi_list (pv 3)) (blkOk_by (own := [("worth", 4)]) (N := ["self", "a", "b", "below", "worth"]) (sc := defScope s_Reckoning_Umeet) (by decide +kernel)) (fun _ _ _ _ _ => (pg_name (i := 4) sc_Reckoning_Umeet.nd rfl (Or.inl rfl))) (fun _ _ _ _ _ => (pts_one (pt_cmpR op_eq (pe_ix (OQ.ixA K) (pe_ix (OQ.ixA K) (OQ.fldK K (pv 0)) (pv 4) (fun _ _ => rfl)) (pv 2) (fun _ _ => rfl)) (pv 2) (nomark _)))) (fun _ _ _ _ _ => (pv 4))) pa_nil))))), ?_⟩
    have n16 := re.n16
    walk_at "tx"
    refine rekJ T re (fun jt tt => ?_)
    walk_at "tx"
    refine tt.len ?_
    refine ⟨n, rfl, by omega, by omega, ?_⟩
    intro D hD
    refine lc_range (lo := 0) (n := n) (fun i H' => Same H H' ∧ H' D = some (.lst (WW.Ns ((List.range i).filter fun w => decide (J w a = a))))) ⟨same_upd hD, upd_same⟩ ?_ ?_
    · rintro i H' hi ⟨s1, eD⟩
      have re1 := re.same s1
      walk_at "tx"
      refine rekJ T re1 (fun jt1 tt1 => ?_)
      walk_at "tx"
      refine OQ.xT (m := i) tt1 (by omega) hi (fun q hq => ?_)
      walk_at "tx"
      refine OQ.xR (m := a) hq rfl ha ?_
      walk_at "tx"
      rw [filt_succ]
      refine RD.iteD (fun c => ?_) (fun c => ?_)
      · rw [if_pos (decide_eq_true (by omega))]
        walk_at "tx"
        exact lput hD s1 eD (Nat.le_trans (List.length_filter_le ..) (by rw [List.length_range]; omega)) (by rw [Int.zero_add])
      · rw [if_neg (by rw [decide_eq_true_eq]; omega), List.append_nil]
        exact ⟨s1, eD⟩
    · rintro H' ⟨s1, eD⟩
      generalize hws : ((List.range n).filter fun w => decide (J w a = a)) = ws at *
      have all : ∀ j ∈ ws, j < n := fun j m => by rw [← hws] at m; exact List.mem_range.mp ((List.mem_filter.mp m).1)
      have wl : ws.length ≤ 16 := by rw [← hws]; exact Nat.le_trans (List.length_filter_le ..) (by rw [List.length_range]; omega)
      have re1 := re.same s1
      walk_at "tx"
      refine rekM re1 (by simp) ?_
      walk_at "tx"
      intro D2 hD2
      refine lc_list (K := K) (a := D) (xs := WW.Ns ws) (fun i H'' => Same H' H'' ∧ H'' D2 = some (.lst (WW.Ns ((ws.take i).filter fun w => decide (J w b = b))))) ⟨same_upd hD2, upd_same⟩ ?_ ?_ ?_
      · rintro i H'' _ ⟨s2, _⟩
        exact SqL.of (s2 _ _ eD)
      · rintro i y H'' hi ⟨s2, eD2⟩
        obtain ⟨j, hj, rfl⟩ := WW.Ns_get hi
        have jn := all j (List.mem_of_getElem? hj)
        walk_at "tx"
        refine rekJ T (re1.same s2) (fun jt1 tt1 => ?_)
        walk_at "tx"
        refine OQ.xT (m := j) tt1 rfl jn (fun q hq => ?_)
        walk_at "tx"
        refine OQ.xR (m := b) hq rfl hb ?_
        walk_at "tx"
        rw [filt_take hj]
        refine RD.iteD (fun c => ?_) (fun c => ?_)
        · rw [if_pos (decide_eq_true (by omega))]
          walk_at "tx"
          exact lput hD2 s2 eD2 (Nat.le_trans (List.length_filter_le ..) (by rw [List.length_take]; omega)) rfl
        · rw [if_neg (by rw [decide_eq_true_eq]; omega), List.append_nil]
          exact ⟨s2, eD2⟩
      · rintro H'' ⟨s2, eD2⟩
        rw [WW.Ns_len, List.take_length] at eD2
        walk_at "tx"
        refine ⟨x, D2, n, J, M, z, _, rfl, re1.same s2, eD2, fun j m => all j ((List.mem_filter.mp m).1), ?_⟩
        have q : Q (.int (meetF n J z a b : Nat)) H'' := k _ (s1.trans s2)
        unfold meetF at q
        rw [hws] at q
        exact q
theorem ok_Reckoning_Uleft (T : Top K mg) : FnOk P w K mg base CX0 3 T.f_Reckoning_Uleft T.fd_Reckoning_Uleft ["self", "a", "c"] (spTwoW K T.C_Reckoning leftF) := by
  refine T.F_Reckoning_Uleft.ok sc_Reckoning_Uleft (fun vs H Q E h => ?_) (fun cdv A outer s H vs Q E hr h => ?_)
  · obtain ⟨x, n, J, M, z, a, b, rfl, _⟩ := h; rfl
  · obtain ⟨x, n, J, M, z, a, c, rfl, re, ha, hc, k⟩ := h
    refine ⟨_, (pss_cons (ps_set (i := 3) sc_Reckoning_Uleft.nd rfl (Or.inr rfl) (pe_ix OQ.ix_seq (pe_fld (pv 0) (by rfl)) (pv 1) (fun _ _ => rfl)))
 (pss_one (ps_ret (pe_meth (pv 0) T.cl_Reckoning T.m_Reckoning_Ujoined (ok_Reckoning_Ujoined T) (hr.mono (by decide)) T.b_Reckoning_Ujoined .nil pass0 (pa_cons (pe_lc (own := [("b", 4)]) (g := (gName 4)) (tt := _) rfl sc_Reckoning_Uleft.nd (pi_range1 (by rfl) T.n_range (pa_cons (pe_callB RD.c_len (by rfl) T.n_len (by decide +kernel) (pa_cons (pv 3) pa_nil)) pa_nil)) (blkOk_by (own := [("b", 4)]) (N := ["self", "a", "c", "row", "b"]) (sc := defScope s_Reckoning_Uleft) (by decide +kernel)) (fun _ _ _ _ _ => (pg_name (i := 4) sc_Reckoning_Uleft.nd rfl (Or.inl rfl))) (fun _ _ _ _ _ => (pts_one (pt_cmpR op_eq (pe_ix (OQ.ixA K) (pe_ix (OQ.ixA K) (OQ.fldK K (pv 0)) (pe_ix (OQ.ixA K) (pv 3) (pv 4) (fun _ _ => rfl)) (fun _ _ => rfl)) (pv 2) (fun _ _ => rfl)) (pv 2) (nomark _)))) (fun _ _ _ _ _ => (pv 4))) pa_nil))))), ?_⟩
    have n16 := re.n16
    walk_at "tx"
    refine rekP T re (fun pt tp => ?_)
    walk_at "tx"
    refine OQ.xT (m := a) tp rfl ha (fun r hr => ?_)
    walk_at "tx"
    refine rekM re (by simp) ?_
    walk_at "tx"
    refine hr.len ?_
    refine ⟨n, rfl, by omega, by omega, ?_⟩
    intro D hD
    refine lc_range (lo := 0) (n := n) (fun i H' => Same H H' ∧ H' D = some (.lst (WW.Ns ((List.range i).filter fun b => decide (J (M a b) c = c))))) ⟨same_upd hD, upd_same⟩ ?_ ?_
    · rintro i H' hi ⟨s1, eD⟩
      have re1 := re.same s1
      walk_at "tx"
      refine rekJ T re1 (fun jt1 tt1 => ?_)
      walk_at "tx"
      refine OQ.xR (m := i) (OQ.SeqAt.same hr s1) (by omega) hi ?_
      walk_at "tx"
      refine OQ.xT (m := M a i) tt1 rfl (re.wp a i ha hi) (fun q hq => ?_)
      walk_at "tx"
      refine OQ.xR (m := c) hq rfl hc ?_
      walk_at "tx"
      rw [filt_succ]
      refine RD.iteD (fun c1 => ?_) (fun c1 => ?_)
      · rw [if_pos (decide_eq_true (by omega))]
        walk_at "tx"
        exact lput hD s1 eD (Nat.le_trans (List.length_filter_le ..) (by rw [List.length_range]; omega)) (by rw [Int.zero_add])
      · rw [if_neg (by rw [decide_eq_true_eq]; omega), List.append_nil]
        exact ⟨s1, eD⟩
    · rintro H' ⟨s1, eD⟩
      walk_at "tx"
      exact ⟨x, D, n, J, M, z, _, rfl, re.same s1, eD, fun j m => List.mem_range.mp ((List.mem_filter.mp m).1), k _ s1⟩
theorem ok_Reckoning_Uright (T : Top K mg) : FnOk P w K mg base CX0 3 T.f_Reckoning_Uright T.fd_Reckoning_Uright ["self", "c", "a"] (spTwoW K T.C_Reckoning rightF) := by
  refine T.F_Reckoning_Uright.ok sc_Reckoning_Uright (fun vs H Q E h => ?_) (fun cdv A outer s H vs Q E hr h => ?_)
  · obtain ⟨x, n, J, M, z, a, b, rfl, _⟩ := h; rfl
  · obtain ⟨x, n, J, M, z, c, a, rfl, re, hc, ha, k⟩ := h
    refine ⟨_, (pss_cons (ps_set (i := 3) sc_Reckoning_Uright.nd rfl (Or.inr rfl) (pe_lc (own := [("row", 4)]) (g := (gName 4)) (tt := tYes) rfl sc_Reckoning_Uright.nd (OQ.pi_seq (pe_fld (pv 0) (by rfl))) (blkOk_by (own := [("row", 4)]) (N := ["self", "c", "a", "column", "row", "b"]) (sc := defScope s_Reckoning_Uright) (by decide +kernel)) (fun _ _ _ _ _ => (pg_name (i := 4) sc_Reckoning_Uright.nd rfl (Or.inl rfl))) (fun _ _ _ _ _ => pts_nil) (fun _ _ _ _ _ => (pe_ix (OQ.ixA K) (pv 4) (pv 2) (fun _ _ => rfl)))))
 (pss_one (ps_ret (pe_meth (pv 0) T.cl_Reckoning T.m_Reckoning_Ujoined (ok_Reckoning_Ujoined T) (hr.mono (by decide)) T.b_Reckoning_Ujoined .nil pass0 (pa_cons (pe_lc (own := [("b", 5)]) (g := (gName 5)) (tt := _) rfl sc_Reckoning_Uright.nd (pi_range1 (by rfl) T.n_range (pa_cons (pe_callB RD.c_len (by rfl) T.n_len (by decide +kernel) (pa_cons (pv 3) pa_nil)) pa_nil)) (blkOk_by (own := [("b", 5)]) (N := ["self", "c", "a", "column", "row", "b"]) (sc := defScope s_Reckoning_Uright) (by decide +kernel)) (fun _ _ _ _ _ => (pg_name (i := 5) sc_Reckoning_Uright.nd rfl (Or.inl rfl))) (fun _ _ _ _ _ => (pts_one (pt_cmpR op_eq (pe_ix (OQ.ixA K) (pe_ix (OQ.ixA K) (OQ.fldK K (pv 0)) (pe_ix (OQ.ixL K) (pv 3) (pv 5) (fun _ _ => rfl)) (fun _ _ => rfl)) (pv 1) (fun _ _ => rfl)) (pv 1) (nomark _)))) (fun _ _ _ _ _ => (pv 5))) pa_nil))))), ?_⟩
    have n16 := re.n16
    walk_at "tx"
    obtain ⟨dx, jt, pt, fs, ex, l1, tj0, l2, tp0, l3, ms⟩ := id re.has
    obtain ⟨rs, len, sa, rows⟩ := id tp0
    refine OQ.d_seqFld rfl ex T.cl_Reckoning T.na_Reckoning_products l2 sa (fun W G hw hG => fun D hD => ?_)
    rw [List.length_map, len] at hw
    refine lc_it hw (fun i H' => Same H H' ∧ H' D = some (.lst (WW.Ns ((List.range i).map fun b => M b a)))) ⟨same_upd hD, upd_same⟩ (fun i H' _ q => hG _ q.1) ?_ ?_
    · rintro i y H' H'' il ⟨s1, eD⟩ ⟨rfl, e2⟩
      have ir : i < rs.length := by rw [len]; exact il
      rw [List.getElem?_map, List.getElem?_eq_getElem ir] at e2
      cases e2
      have hr := OQ.SeqAt.same (rows i _ (List.getElem?_eq_getElem ir)) s1
      walk_at "tx"
      refine OQ.xR (m := a) hr rfl ha ?_
      have := lput (j := M i a) hD s1 eD (by rw [List.length_map, List.length_range]; omega) rfl
      rwa [show ((List.range i).map fun b => M b a) ++ [M i a] = (List.range (i + 1)).map fun b => M b a from by rw [List.range_succ, List.map_append]; rfl] at this
    · rintro H' ⟨s1, eD⟩
      have re1 := re.same s1
      walk_at "tx"
      refine rekM re1 (by simp) ?_
      walk_at "tx"
      rw [WW.Ns_len, List.length_map, List.length_range]
      refine ⟨n, rfl, by omega, by omega, ?_⟩
      intro D2 hD2
      refine lc_range (lo := 0) (n := n) (fun i H'' => Same H' H'' ∧ H'' D2 = some (.lst (WW.Ns ((List.range i).filter fun b => decide (J (M b a) c = c))))) ⟨same_upd hD2, upd_same⟩ ?_ ?_
      · rintro i H'' hi ⟨s2, eD2⟩
        walk_at "tx"
        refine rekJ T (re1.same s2) (fun jt1 tt1 => ?_)
        walk_at "tx"
        refine RD.d_ixL (SqL.of (s2 _ _ eD)) (v := .int (M i a : Nat)) (by rw [Int.zero_add]; exact atI_nat (by unfold WW.Ns; rw [List.map_map, List.getElem?_map, List.getElem?_range hi]; rfl)) ?_
        walk_at "tx"
        refine OQ.xT (m := M i a) tt1 rfl (re.wp i a hi ha) (fun q hq => ?_)
        walk_at "tx"
        refine OQ.xR (m := c) hq rfl hc ?_
        walk_at "tx"
        rw [filt_succ]
        refine RD.iteD (fun c1 => ?_) (fun c1 => ?_)
        · rw [if_pos (decide_eq_true (by omega))]
          walk_at "tx"
          exact lput hD2 s2 eD2 (Nat.le_trans (List.length_filter_le ..) (by rw [List.length_range]; omega)) (by rw [Int.zero_add])
        · rw [if_neg (by rw [decide_eq_true_eq]; omega), List.append_nil]
          exact ⟨s2, eD2⟩
      · rintro H'' ⟨s2, eD2⟩
        walk_at "tx"
        exact ⟨x, D2, n, J, M, z, _, rfl, re1.same s2, eD2, fun j m => List.mem_range.mp (List.mem_filter.mp m).1, k _ (s1.trans s2)⟩
end

/-! ### a reckoning made -/
open OQ (TabX RowX SeqAt)
open RK (Fl FltAt)
/-- rows as tuples -/
def TabXT (K : PySem.W.Frag) (H : Hp) (a : Addr) (n : Nat) (f : Nat → Nat → Nat) : Prop := ∃ rs : List Addr, rs.length = n ∧ SqT K H a (rs.map V.ref) ∧ ∀ (i : Nat) (r : Addr), rs[i]? = some r → SqT K H r ((List.range n).map fun j => V.int (f i j : Nat))
/-- rows as lists -/
def TabXL (H : Hp) (a : Addr) (n : Nat) (f : Nat → Nat → Nat) : Prop := ∃ rs : List Addr, rs.length = n ∧ H a = some (.lst (rs.map V.ref)) ∧ ∀ (i : Nat) (r : Addr), rs[i]? = some r → H r = some (.lst ((List.range n).map fun j => V.int (f i j : Nat)))
theorem TabXT.x {K : PySem.W.Frag} {H : Hp} {a : Addr} {n : Nat} {f : Nat → Nat → Nat} (h : TabXT K H a n f) : TabX K H a n f := by
  obtain ⟨rs, l, e, q⟩ := h
  exact ⟨rs, l, .inr e, fun i r z => .inr (q i r z)⟩
theorem TabXL.x {K : PySem.W.Frag} {H : Hp} {a : Addr} {n : Nat} {f : Nat → Nat → Nat} (h : TabXL H a n f) : TabX K H a n f := by
  obtain ⟨rs, l, e, q⟩ := h
  exact ⟨rs, l, .inl (SqL.of e), fun i r z => .inl (SqL.of (q i r z))⟩
theorem sqT_kx {K : PySem.W.Frag} {H H' : Hp} {x C dx a : Addr} {fs : List (Str × V)} {xs : List V} (h : SqT K H a xs) (ex : H x = some (.ins C dx fs)) (k : Kx x H H') : SqT K H' a xs := by
  rcases h with (h | ⟨o, h⟩) | h
  · exact .inl (.inl (k _ _ (fun z => by subst z; rw [ex] at h; cases h) h))
  · exact .inl (.inr ⟨o, k _ _ (fun z => by subst z; rw [ex] at h; cases h) h⟩)
  · exact .inr h
theorem sqL_kx {K : PySem.W.Frag} {H H' : Hp} {x C dx a : Addr} {fs : List (Str × V)} {xs : List V} (h : SqL K H a xs) (ex : H x = some (.ins C dx fs)) (k : Kx x H H') : SqL K H' a xs := by
  rcases h with (h | ⟨o, h⟩) | h
  · exact .inl (.inl (k _ _ (fun z => by subst z; rw [ex] at h; cases h) h))
  · exact .inl (.inr ⟨o, k _ _ (fun z => by subst z; rw [ex] at h; cases h) h⟩)
  · exact .inr h
theorem sqT_lst {K : PySem.W.Frag} {H : Hp} {D a : Addr} {ys xs : List V} {o : HO} (h : SqT K H a xs) (eD : H D = some (.lst ys)) : SqT K (upd H D o) a xs := by
  rcases h with (h | ⟨o', h⟩) | h
  · exact .inl (.inl (by rw [upd_ne (fun z => by subst z; rw [eD] at h; cases h)]; exact h))
  · exact .inl (.inr ⟨o', by rw [upd_ne (fun z => by subst z; rw [eD] at h; cases h)]; exact h⟩)
  · exact .inr h
theorem SeqAt_kx {K : PySem.W.Frag} {H H' : Hp} {x C dx a : Addr} {fs : List (Str × V)} {xs : List V} (h : SeqAt K H a xs) (ex : H x = some (.ins C dx fs)) (k : Kx x H H') : SeqAt K H' a xs :=
  h.imp (fun h => sqL_kx h ex k) fun h => sqT_kx h ex k
theorem TabX.kx {K : PySem.W.Frag} {H H' : Hp} {x C dx a : Addr} {fs : List (Str × V)} {n : Nat} {f : Nat → Nat → Nat} (h : TabX K H a n f) (ex : H x = some (.ins C dx fs)) (k : Kx x H H') : TabX K H' a n f := by
  obtain ⟨rs, l, e, q⟩ := h
  exact ⟨rs, l, SeqAt_kx e ex k, fun i r z => SeqAt_kx (q i r z) ex k⟩
theorem TabXT.kx {K : PySem.W.Frag} {H H' : Hp} {x C dx a : Addr} {fs : List (Str × V)} {n : Nat} {f : Nat → Nat → Nat} (h : TabXT K H a n f) (ex : H x = some (.ins C dx fs)) (k : Kx x H H') : TabXT K H' a n f := by
  obtain ⟨rs, l, e, q⟩ := h
  exact ⟨rs, l, sqT_kx e ex k, fun i r z => sqT_kx (q i r z) ex k⟩
theorem TabXT.same {K : PySem.W.Frag} {H H' : Hp} {a : Addr} {n : Nat} {f : Nat → Nat → Nat} (h : TabXT K H a n f) (s : Same H H') : TabXT K H' a n f := by
  obtain ⟨rs, l, e, q⟩ := h
  exact ⟨rs, l, OQ.sqT_same e s, fun i r z => OQ.sqT_same (q i r z) s⟩
theorem TabXL.same {H H' : Hp} {a : Addr} {n : Nat} {f : Nat → Nat → Nat} (h : TabXL H a n f) (s : Same H H') : TabXL H' a n f := by
  obtain ⟨rs, l, e, q⟩ := h
  exact ⟨rs, l, s _ _ e, fun i r z => s _ _ (q i r z)⟩
theorem TabXL.kx {H H' : Hp} {x C dx a : Addr} {fs : List (Str × V)} {n : Nat} {f : Nat → Nat → Nat} (h : TabXL H a n f) (ex : H x = some (.ins C dx fs)) (k : Kx x H H') : TabXL H' a n f := by
  obtain ⟨rs, l, e, q⟩ := h
  exact ⟨rs, l, k _ _ (fun z => by subst z; rw [ex] at e; cases e) e, fun i r z => k _ _ (fun y => by subst y; have := q i _ z; rw [ex] at this; cases this) (q i r z)⟩
/-- the first i rows of a table stand in the list at D -/
def RowsN (H : Hp) (D : Addr) (n i : Nat) (f : Nat → Nat → Nat) : Prop := ∃ us : List Addr, us.length = i ∧ H D = some (.lst (us.map V.ref)) ∧ ∀ (j : Nat) (u : Addr), us[j]? = some u → u ≠ D ∧ H u = some (.lst ((List.range n).map fun c => V.int (f j c : Nat)))
theorem rowsN_zero {H : Hp} {D : Addr} {n : Nat} {f : Nat → Nat → Nat} : RowsN (upd H D (.lst [])) D n 0 f := ⟨[], rfl, upd_same, (fun _ _ e => nomatch e)⟩
theorem rowsN_step {H H' H'' : Hp} {D D2 : Addr} {n i : Nat} {f : Nat → Nat → Nat} (hD : H D = none) (s1 : Same H H') (r : RowsN H' D n i f) (hD2 : H' D2 = none) (s2 : Same H' H'') (hi : i ≤ 100) (e2 : H'' D2 = some (.lst ((List.range n).map fun c => V.int (f i c : Nat)))) :
    ∃ acc, H'' D = some (.lst acc) ∧ acc.length < sizeLine ∧ Same H (upd H'' D (.lst (acc ++ [V.ref D2]))) ∧ RowsN (upd H'' D (.lst (acc ++ [V.ref D2]))) D n (i + 1) f := by
  obtain ⟨us, lu, eD, all⟩ := r
  have nD : D2 ≠ D := fun z => by rw [z, eD] at hD2; cases hD2
  refine ⟨_, s2 _ _ eD, by rw [List.length_map, lu]; exact Nat.lt_of_le_of_lt hi (by decide), fun b u e => ?_, us ++ [D2], by rw [List.length_append, lu]; rfl, by rw [upd_same, List.map_append]; rfl, fun j u e => ?_⟩
  · rw [upd_ne (ne_of_none e hD)]; exact s2 _ _ (s1 _ _ e)
  · by_cases lj : j < us.length
    · rw [List.getElem?_append_left lj] at e
      obtain ⟨n1, r1⟩ := all j u e
      exact ⟨n1, by rw [upd_ne n1]; exact s2 _ _ r1⟩
    · have q : j = i := by
        have := (List.getElem?_eq_some_iff.mp e).1
        rw [List.length_append, lu] at this
        simp at this
        omega
      subst q
      rw [List.getElem?_append_right (by omega), lu, Nat.sub_self] at e
      cases e
      exact ⟨nD, by rw [upd_ne nD]; exact e2⟩
theorem rowsN_end {H : Hp} {D : Addr} {n : Nat} {f : Nat → Nat → Nat} (r : RowsN H D n n f) : TabXL H D n f := by
  obtain ⟨us, lu, eD, all⟩ := r
  exact ⟨us, lu, eD, fun j u e => (all j u e).2⟩
/-- one more item of a row -/
theorem rowPutN {H H' : Hp} {D : Addr} {j : Nat} {g : Nat → Nat} {v : V} (hD : H D = none) (s : Same H H') (hj : j ≤ 100) (eD : H' D = some (.lst ((List.range j).map fun c => V.int (g c : Nat)))) (ev : v = .int (g j : Nat)) :
    ∃ acc, H' D = some (.lst acc) ∧ acc.length < sizeLine ∧ Same H (upd H' D (.lst (acc ++ [v]))) ∧ upd H' D (.lst (acc ++ [v])) D = some (.lst ((List.range (j + 1)).map fun c => V.int (g c : Nat))) := by
  refine ⟨_, eD, by rw [List.length_map, List.length_range]; exact Nat.lt_of_le_of_lt hj (by decide), same_put s hD, ?_⟩
  rw [upd_same, List.range_succ, List.map_append, ev]; rfl
/-- a reckoning at x, whole -/
def RekF (K : PySem.W.Frag) (C : Addr) (H : Hp) (x : Addr) (n : Nat) (J M : Nat → Nat → Nat) (z o : Nat) : Prop := ∃ (dx jt pt mt lt rt : Addr), H x = some (.ins C dx [("joins", .ref jt), ("products", .ref pt), ("none", .int z), ("one", .int o), ("_meets", .ref mt), ("_lefts", .ref lt), ("_rights", .ref rt)]) ∧
  TabXT K H jt n J ∧ TabXT K H pt n M ∧ TabXL H mt n (meetF n J z) ∧ TabXL H lt n (leftF n J M z) ∧ TabXL H rt n (rightF n J M z) ∧ RK.restF n J M z o = none ∧ 2 ≤ n ∧ n ≤ 16 ∧ z < n ∧ o < n ∧ (∀ a b, a < n → b < n → J a b < n) ∧ (∀ a b, a < n → b < n → M a b < n)
theorem RekF.same {K : PySem.W.Frag} {C : Addr} {H H' : Hp} {x : Addr} {n : Nat} {J M : Nat → Nat → Nat} {z o : Nat} (h : RekF K C H x n J M z o) (s : Same H H') : RekF K C H' x n J M z o := by
  obtain ⟨dx, jt, pt, mt, lt, rt, e, t1, t2, t3, t4, t5, r⟩ := h
  exact ⟨dx, jt, pt, mt, lt, rt, s _ _ e, t1.same s, t2.same s, t3.same s, t4.same s, t5.same s, r⟩
theorem no12 {fs : List (Str × V)} (h : ∀ p ∈ fs, p.1 ∈ ([("joins" : Str), ("products" : Str), ("none" : Str), ("one" : Str), ("_meets" : Str), ("_lefts" : Str), ("_rights" : Str)] : List Str)) :
    ∀ m ∈ ([("_joined" : Str), ("_meet" : Str), ("_left" : Str), ("_right" : Str), ("is_worth" : Str), ("beneath" : Str), ("join" : Str), ("times" : Str), ("meet" : Str), ("greatest" : Str), ("left" : Str), ("right" : Str)] : List Str), fs.lookup m = none := by
  intro m hm
  have key : ∀ m ∈ ([("_joined" : Str), ("_meet" : Str), ("_left" : Str), ("_right" : Str), ("is_worth" : Str), ("beneath" : Str), ("join" : Str), ("times" : Str), ("meet" : Str), ("greatest" : Str), ("left" : Str), ("right" : Str)] : List Str), ∀ q ∈ ([("joins" : Str), ("products" : Str), ("none" : Str), ("one" : Str), ("_meets" : Str), ("_lefts" : Str), ("_rights" : Str)] : List Str), (m == q) = false := by decide +kernel
  induction fs with
  | nil => rfl
  | cons p fs ih =>
    obtain ⟨q, v⟩ := p
    rw [lk_ne (key m hm q (h _ (List.mem_cons_self ..)))]
    exact ih fun p hp => h p (List.mem_cons_of_mem _ hp)
theorem RekF.rek {K : PySem.W.Frag} {C : Addr} {H : Hp} {x : Addr} {n : Nat} {J M : Nat → Nat → Nat} {z o : Nat} (h : RekF K C H x n J M z o) : Rek K C H x n J M z := by
  obtain ⟨dx, jt, pt, mt, lt, rt, e, t1, t2, t3, t4, t5, rf, n2, n16, zn, on, wj, wp⟩ := h
  exact ⟨zn, n16, wj, wp, dx, jt, pt, _, e, lk_eq, t1.x, (lk_ne (by decide +kernel)).trans lk_eq, t2.x, (lk_ne (by decide +kernel)).trans ((lk_ne (by decide +kernel)).trans lk_eq), no12 (by simp)⟩
def spReck (K : PySem.W.Frag) (C CB : Addr) : Sp := fun vs H Q E => ∃ (x dx : Addr) (vj vp vz vn : V) (dj dp dz dn : PyData), vs = [.ref x, vj, vp, vz, vn] ∧ H x = some (.ins C dx []) ∧ OQ.Dqd K H vj dj ∧ OQ.Dqd K H vp dp ∧ OQ.Dqd K H vz dz ∧ OQ.Dqd K H vn dn ∧
  (firstF dj dp dz dn = none → ∀ H', Kx x H H' → RekF K C H' x (RK.cellsOf dj).length (RK.tabf dj) (RK.tabf dp) (RK.natOf dz) (RK.natOf dn) → Q .non H') ∧
  (∀ f, firstF dj dp dz dn = some f → ∀ v d H', Same H H' → FltAt H' v (some f) → H' d = none → E (.ref CB) (some d) (upd H' d (ErrD v)))
section
variable {P : Program} {w : World} {K : PySem.W.Frag} {mg : Str → Option Value} {base : Heap} {H : Hp} {R : V → Prop}
theorem ok_Reckoning__init (T : Top K mg) : FnOk P w K mg base (L2.CX P w) 12 T.f_Reckoning__init T.fd_Reckoning__init ["self", "joins", "products", "none", "one"] (spReck K T.C_Reckoning T.C_BadReckoning) := by
  refine T.F_Reckoning__init.okX sc_Reckoning__init (fun vs H Q E h => ?_) (fun cdv A outer s H vs Q E hr h => ?_)
  · obtain ⟨x, dx, vj, vp, vz, vn, dj, dp, dz, dn, rfl, _⟩ := h; rfl
  · obtain ⟨x, dx, vj, vp, vz, vn, dj, dp, dz, dn, rfl, ex, hj, hp, hz, hn, k, kE⟩ := h
    refine ⟨_, (C8.pss_cut (ps_set (i := 5) sc_Reckoning__init.nd rfl (Or.inl rfl) (pe_call (ok_first_fault T) (hr.mono (by decide)) (by rfl) T.g_first_fault T.F_first_fault.kp T.b_first_fault .nil pass0 (pa_cons (pv 1) (pa_cons (pv 2) (pa_cons (pv 3) (pa_cons (pv 4) pa_nil))))))
 (C8.pss_cut (ps_if (pt_cmpR RD.o_notN (pv 5) pe_non (nomark _))
 (pss_one (ps_raise rfl (takes_of rfl rfl rfl rfl) (pmk_oex T.oex_BadReckoning T.i_BadReckoning T.tI (ok_WayError__init T) (hr.mono (by decide)) T.b_WayError__init .nil pass0 (by rfl) T.g_BadReckoning (pa_cons (pv 5) pa_nil))))
 pss_nil)
 (C8.pss_cut (ps_fld (pv 0) (pe_callTy (OQ.tupK K) (by rfl) T.n_tuple (by decide +kernel) (pa_cons (pe_lc (own := [("row", 6)]) (g := (gName 6)) (tt := tYes) rfl sc_Reckoning__init.nd (OQ.pi_seq (pv 1)) (blkOk_by (own := [("row", 6)]) (N := ["self", "joins", "products", "none", "one", "fault", "row", "worths", "a", "b", "c"]) (sc := defScope s_Reckoning__init) (by decide +kernel)) (fun _ _ _ _ _ => (pg_name (i := 6) sc_Reckoning__init.nd rfl (Or.inl rfl))) (fun _ _ _ _ _ => pts_nil) (fun _ _ _ _ _ => (pe_callTy (OQ.tupK K) (by rfl) T.n_tuple (by decide +kernel) (pa_cons (pv 6) pa_nil)))) pa_nil)) rfl)
 (C8.pss_cut (ps_fld (pv 0) (pe_callTy (OQ.tupK K) (by rfl) T.n_tuple (by decide +kernel) (pa_cons (pe_lc (own := [("row", 6)]) (g := (gName 6)) (tt := tYes) rfl sc_Reckoning__init.nd (OQ.pi_seq (pv 2)) (blkOk_by (own := [("row", 6)]) (N := ["self", "joins", "products", "none", "one", "fault", "row", "worths", "a", "b", "c"]) (sc := defScope s_Reckoning__init) (by decide +kernel)) (fun _ _ _ _ _ => (pg_name (i := 6) sc_Reckoning__init.nd rfl (Or.inl rfl))) (fun _ _ _ _ _ => pts_nil) (fun _ _ _ _ _ => (pe_callTy (OQ.tupK K) (by rfl) T.n_tuple (by decide +kernel) (pa_cons (pv 6) pa_nil)))) pa_nil)) rfl)
 (C8.pss_cut (ps_fld (pv 0) (pv 3) rfl)
 (C8.pss_cut (ps_fld (pv 0) (pv 4) rfl)
 (C8.pss_cut (ps_set (i := 7) sc_Reckoning__init.nd rfl (Or.inr rfl) (pe_callTy OQ.cr_range1 (by rfl) T.n_range (by decide +kernel) (pa_cons (pe_callB RD.c_len (by rfl) T.n_len (by decide +kernel) (pa_cons (pv 1) pa_nil)) pa_nil)))
 (C8.pss_cut (ps_fld (pv 0) (pe_lc (own := [("a", 8)]) (g := (gName 8)) (tt := tYes) rfl sc_Reckoning__init.nd (OQ.pi_rngV (pv 7)) (blkOk_by (own := [("a", 8)]) (N := ["self", "joins", "products", "none", "one", "fault", "row", "worths", "a", "b", "c"]) (sc := defScope s_Reckoning__init) (by decide +kernel)) (fun _ _ _ _ _ => (pg_name (i := 8) sc_Reckoning__init.nd rfl (by first | exact Or.inl rfl | exact Or.inr rfl))) (fun _ _ _ _ _ => pts_nil) (fun _ _ _ _ _ => (pe_lc (own := [("b", 9)]) (g := (gName 9)) (tt := tYes) rfl sc_Reckoning__init.nd (OQ.pi_rngV (pv 7)) (blkOk_by (own := [("b", 9)]) (N := ["self", "joins", "products", "none", "one", "fault", "row", "worths", "a", "b", "c"]) (sc := _) (by kernel_rfl)) (fun _ _ _ _ _ => (pg_name (i := 9) sc_Reckoning__init.nd rfl (by first | exact Or.inl rfl | exact Or.inr rfl))) (fun _ _ _ _ _ => pts_nil) (fun _ _ _ _ _ => (pe_meth (pv 0) T.cl_Reckoning T.m_Reckoning_Umeet (ok_Reckoning_Umeet T) (hr.mono (by decide)) T.b_Reckoning_Umeet .nil pass0 (pa_cons (pv 8) (pa_cons (pv 9) pa_nil))))))) rfl)
 (C8.pss_cut (ps_fld (pv 0) (pe_lc (own := [("a", 8)]) (g := (gName 8)) (tt := tYes) rfl sc_Reckoning__init.nd (OQ.pi_rngV (pv 7)) (blkOk_by (own := [("a", 8)]) (N := ["self", "joins", "products", "none", "one", "fault", "row", "worths", "a", "b", "c"]) (sc := defScope s_Reckoning__init) (by decide +kernel)) (fun _ _ _ _ _ => (pg_name (i := 8) sc_Reckoning__init.nd rfl (by first | exact Or.inl rfl | exact Or.inr rfl))) (fun _ _ _ _ _ => pts_nil) (fun _ _ _ _ _ => (pe_lc (own := [("c", 10)]) (g := (gName 10)) (tt := tYes) rfl sc_Reckoning__init.nd (OQ.pi_rngV (pv 7)) (blkOk_by (own := [("c", 10)]) (N := ["self", "joins", "products", "none", "one", "fault", "row", "worths", "a", "b", "c"]) (sc := _) (by kernel_rfl)) (fun _ _ _ _ _ => (pg_name (i := 10) sc_Reckoning__init.nd rfl (by first | exact Or.inl rfl | exact Or.inr rfl))) (fun _ _ _ _ _ => pts_nil) (fun _ _ _ _ _ => (pe_meth (pv 0) T.cl_Reckoning T.m_Reckoning_Uleft (ok_Reckoning_Uleft T) (hr.mono (by decide)) T.b_Reckoning_Uleft .nil pass0 (pa_cons (pv 8) (pa_cons (pv 10) pa_nil))))))) rfl)
 (pss_one (ps_fld (pv 0) (pe_lc (own := [("c", 10)]) (g := (gName 10)) (tt := tYes) rfl sc_Reckoning__init.nd (OQ.pi_rngV (pv 7)) (blkOk_by (own := [("c", 10)]) (N := ["self", "joins", "products", "none", "one", "fault", "row", "worths", "a", "b", "c"]) (sc := defScope s_Reckoning__init) (by decide +kernel)) (fun _ _ _ _ _ => (pg_name (i := 10) sc_Reckoning__init.nd rfl (by first | exact Or.inl rfl | exact Or.inr rfl))) (fun _ _ _ _ _ => pts_nil) (fun _ _ _ _ _ => (pe_lc (own := [("a", 8)]) (g := (gName 8)) (tt := tYes) rfl sc_Reckoning__init.nd (OQ.pi_rngV (pv 7)) (blkOk_by (own := [("a", 8)]) (N := ["self", "joins", "products", "none", "one", "fault", "row", "worths", "a", "b", "c"]) (sc := _) (by kernel_rfl)) (fun _ _ _ _ _ => (pg_name (i := 8) sc_Reckoning__init.nd rfl (by first | exact Or.inl rfl | exact Or.inr rfl))) (fun _ _ _ _ _ => pts_nil) (fun _ _ _ _ _ => (pe_meth (pv 0) T.cl_Reckoning T.m_Reckoning_Uright (ok_Reckoning_Uright T) (hr.mono (by decide)) T.b_Reckoning_Uright .nil pass0 (pa_cons (pv 10) (pa_cons (pv 8) pa_nil))))))) rfl))))))))))), ?_⟩
    refine RD.d_cut (fun σ' H' => ∃ v, σ' = [some (.ref x), some vj, some vp, some vz, some vn, some v, none, none, none, none, none] ∧ Same H H' ∧ FltAt H' v (firstF dj dp dz dn)) ?_ ?_
    · walk_at "tx"
      refine ⟨_, ⟨vj, vp, vz, vn, dj, dp, dz, dn, rfl, hj, hp, hz, hn, rfl⟩, fun v H1 s1 f1 => ?_⟩
      walk_at "tx"
      exact ⟨v, rfl, s1, f1⟩
    rintro σ' H1 ⟨v, rfl, s1, f1⟩
    cases eF : firstF dj dp dz dn with
    | some f =>
      rw [eF] at f1
      refine RD.d_cut (fun _ _ => False) ?_ (fun _ _ z => z.elim)
      walk_at "tx"
      obtain ⟨w, a, b, c⟩ := f
      obtain ⟨p, rfl, hp'⟩ := id f1
      rw [decide_eq_false (by simp)]
      walk_at "tx"
      exact d_mkO T.oex_BadReckoning T.v_BadReckoning fun d hd => kE _ eF _ d H1 s1 f1 hd
    | none =>
      rw [eF] at f1
      cases f1
      refine RD.d_cut (fun σ' H' => σ' = [some (.ref x), some vj, some vp, some vz, some vn, some .non, none, none, none, none, none] ∧ H' = H1) ?_ ?_
      · walk_at "tx"
        rw [decide_eq_true rfl]
        walk_at "tx"
        exact ⟨rfl, rfl⟩
      rintro σ' H2 ⟨rfl, rfl⟩
      replace k := k eF
      have eS : RK.sizeB dj dp dz dn = true := by
        cases e : RK.sizeB dj dp dz dn with
        | true => rfl
        | false =>
          have : firstF dj dp dz dn = some (("size" : Str), -1, -1, -1) := by
            unfold firstF sizF
            rw [if_neg (by rw [e]; decide)]; rfl
          rw [eF] at this; cases this
      have eR : RK.restF (RK.cellsOf dj).length (RK.tabf dj) (RK.tabf dp) (RK.natOf dz) (RK.natOf dn) = none := by
        unfold firstF sizF at eF
        rw [if_pos eS] at eF
        exact eF
      obtain ⟨n2, n16, qj, qp, qz, qn⟩ := size_ok eS
      replace hj := OQ.Dqd.same s1 hj
      replace hp := OQ.Dqd.same s1 hp
      generalize (RK.cellsOf dj).length = n at *
      obtain ⟨a, rfl, tj, wj⟩ := OQ.dqd_tab hj qj
      obtain ⟨b, rfl, tp, wp⟩ := OQ.dqd_tab hp qp
      obtain ⟨rfl, zn⟩ := below_nat hz qz
      obtain ⟨rfl, on⟩ := below_nat hn qn
      clear hj hp hz hn qj qp qz qn eS kE eF
      generalize RK.tabf dj = J at *
      generalize RK.tabf dp = M at *
      generalize RK.natOf dz = z at *
      generalize RK.natOf dn = o at *
      replace ex := s1 _ _ ex
      have kx1 : Kx x H H2 := Same.kx s1
      clear s1
      refine RD.d_cut (fun σ' H' => ∃ q, σ' = [some (.ref x), some (.ref a), some (.ref b), some (.int z), some (.int o), some .non, none, none, none, none, none] ∧ H' x = some (.ins T.C_Reckoning dx [("joins", .ref q)]) ∧ Kx x H2 H' ∧ TabXT K H' q n J) ?_ ?_
      · obtain ⟨rs, len, sa, rows⟩ := id tj
        walk_at "tx"
        refine OQ.d_seqVar rfl sa (fun W G hw hG => fun D hD => ?_)
        rw [List.length_map, len] at hw
        refine lc_it hw (fun i H' => Same H2 H' ∧ ∃ us : List Addr, us.length = i ∧ H' D = some (.lst (us.map V.ref)) ∧ ∀ (j : Nat) (u : Addr), us[j]? = some u → SqT K H' u ((List.range n).map fun c => V.int (J j c : Nat))) ⟨same_upd hD, [], rfl, upd_same, (fun j u e => nomatch e)⟩ (fun i H' _ q => hG _ q.1) ?_ ?_
        · rintro i y H' H'' il ⟨s1, us, lu, eD, all⟩ ⟨rfl, e2⟩
          have ir : i < rs.length := by rw [len]; exact il
          rw [List.getElem?_map, List.getElem?_eq_getElem ir] at e2
          cases e2
          walk_at "tx"
          refine OQ.d_tupSeq (OQ.SeqAt.same (rows i _ (List.getElem?_eq_getElem ir)) s1) (fun H3 t s3 sq => ?_)
          have eD3 := s3 _ _ eD
          refine ⟨_, eD3, by rw [List.length_map, lu]; exact Nat.lt_of_lt_of_le il (Nat.le_trans n16 (by decide)), same_put (s1.trans s3) hD, us ++ [t], by rw [List.length_append, lu]; rfl, by rw [upd_same, List.map_append]; rfl, fun j u e => ?_⟩
          by_cases lj : j < us.length
          · rw [List.getElem?_append_left lj] at e
            exact sqT_lst (OQ.sqT_same (all j u e) s3) eD3
          · have q : j = i := by
              have := (List.getElem?_eq_some_iff.mp e).1
              rw [List.length_append, lu] at this
              simp at this
              omega
            subst q
            rw [List.getElem?_append_right (by omega), lu, Nat.sub_self] at e
            cases e
            exact sqT_lst sq eD3
        · rintro H' ⟨s1, us, lu, eD, all⟩
          walk_at "tx"
          refine OQ.d_tupSeq (.inl (SqL.of eD)) (fun H3 q s3 sq => ?_)
          have s13 := s1.trans s3
          have ex3 := s13 _ _ ex
          walk_at "tx"
          refine ⟨x, T.C_Reckoning, dx, _, rfl, ex3, T.cl_Reckoning, T.na_Reckoning_joins, by show 0 < 1000; decide, ?_⟩
          refine ⟨q, rfl, ?_, Kx.trans (Same.kx s13) kx_upd, TabXT.kx ⟨us, lu, sq, fun j u e => OQ.sqT_same (all j u e) s3⟩ ex3 kx_upd⟩
          rw [upd_same]; rfl
      rintro σ' H3 ⟨jt, rfl, ex3, kx3, tjt⟩
      replace tj := TabX.kx tj ex kx3
      replace tp := TabX.kx tp ex kx3
      replace kx1 := kx1.trans kx3
      replace ex := ex3
      clear ex3 kx3
      refine RD.d_cut (fun σ' H' => ∃ q, σ' = [some (.ref x), some (.ref a), some (.ref b), some (.int z), some (.int o), some .non, none, none, none, none, none] ∧ H' x = some (.ins T.C_Reckoning dx [("joins", .ref jt), ("products", .ref q)]) ∧ Kx x H3 H' ∧ TabXT K H' q n M) ?_ ?_
      · obtain ⟨rs, len, sa, rows⟩ := id tp
        walk_at "tx"
        refine OQ.d_seqVar rfl sa (fun W G hw hG => fun D hD => ?_)
        rw [List.length_map, len] at hw
        refine lc_it hw (fun i H' => Same H3 H' ∧ ∃ us : List Addr, us.length = i ∧ H' D = some (.lst (us.map V.ref)) ∧ ∀ (j : Nat) (u : Addr), us[j]? = some u → SqT K H' u ((List.range n).map fun c => V.int (M j c : Nat))) ⟨same_upd hD, [], rfl, upd_same, (fun j u e => nomatch e)⟩ (fun i H' _ q => hG _ q.1) ?_ ?_
        · rintro i y H' H'' il ⟨s1, us, lu, eD, all⟩ ⟨rfl, e2⟩
          have ir : i < rs.length := by rw [len]; exact il
          rw [List.getElem?_map, List.getElem?_eq_getElem ir] at e2
          cases e2
          walk_at "tx"
          refine OQ.d_tupSeq (OQ.SeqAt.same (rows i _ (List.getElem?_eq_getElem ir)) s1) (fun H3 t s3 sq => ?_)
          have eD3 := s3 _ _ eD
          refine ⟨_, eD3, by rw [List.length_map, lu]; exact Nat.lt_of_lt_of_le il (Nat.le_trans n16 (by decide)), same_put (s1.trans s3) hD, us ++ [t], by rw [List.length_append, lu]; rfl, by rw [upd_same, List.map_append]; rfl, fun j u e => ?_⟩
          by_cases lj : j < us.length
          · rw [List.getElem?_append_left lj] at e
            exact sqT_lst (OQ.sqT_same (all j u e) s3) eD3
          · have q : j = i := by
              have := (List.getElem?_eq_some_iff.mp e).1
              rw [List.length_append, lu] at this
              simp at this
              omega
            subst q
            rw [List.getElem?_append_right (by omega), lu, Nat.sub_self] at e
            cases e
            exact sqT_lst sq eD3
        · rintro H' ⟨s1, us, lu, eD, all⟩
          walk_at "tx"
          refine OQ.d_tupSeq (.inl (SqL.of eD)) (fun H3 q s3 sq => ?_)
          have s13 := s1.trans s3
          have ex3 := s13 _ _ ex
          walk_at "tx"
          refine ⟨x, T.C_Reckoning, dx, _, rfl, ex3, T.cl_Reckoning, T.na_Reckoning_products, by show 1 < 1000; decide, ?_⟩
          refine ⟨q, rfl, ?_, Kx.trans (Same.kx s13) kx_upd, TabXT.kx ⟨us, lu, sq, fun j u e => OQ.sqT_same (all j u e) s3⟩ ex3 kx_upd⟩
          rw [upd_same, putF_ne (by decide +kernel)]; rfl
      rintro σ' H4 ⟨pt, rfl, ex4, kx4, tpt⟩
      replace tjt := tjt.kx ex kx4
      replace tj := TabX.kx tj ex kx4
      replace kx1 := kx1.trans kx4
      replace ex := ex4
      clear ex4 kx4 tp
      refine RD.d_cut (fun σ' H' => σ' = [some (.ref x), some (.ref a), some (.ref b), some (.int z), some (.int o), some .non, none, none, none, none, none] ∧ H' x = some (.ins T.C_Reckoning dx [("joins", .ref jt), ("products", .ref pt), ("none", .int z)]) ∧ Kx x H4 H') ?_ ?_
      · walk_at "tx"
        refine ⟨x, T.C_Reckoning, dx, _, rfl, ex, T.cl_Reckoning, T.na_Reckoning_none, by show 2 < 1000; decide, rfl, ?_, kx_upd⟩
        rw [upd_same, putF_ne (by decide +kernel), putF_ne (by decide +kernel)]; rfl
      rintro σ' H5 ⟨rfl, ex5, kx5⟩
      replace tjt := tjt.kx ex kx5
      replace tpt := tpt.kx ex kx5
      replace tj := TabX.kx tj ex kx5
      replace kx1 := kx1.trans kx5
      replace ex := ex5
      clear ex5 kx5
      refine RD.d_cut (fun σ' H' => σ' = [some (.ref x), some (.ref a), some (.ref b), some (.int z), some (.int o), some .non, none, none, none, none, none] ∧ H' x = some (.ins T.C_Reckoning dx [("joins", .ref jt), ("products", .ref pt), ("none", .int z), ("one", .int o)]) ∧ Kx x H5 H') ?_ ?_
      · walk_at "tx"
        refine ⟨x, T.C_Reckoning, dx, _, rfl, ex, T.cl_Reckoning, T.na_Reckoning_one, by show 3 < 1000; decide, rfl, ?_, kx_upd⟩
        rw [upd_same, putF_ne (by decide +kernel), putF_ne (by decide +kernel), putF_ne (by decide +kernel)]; rfl
      rintro σ' H6 ⟨rfl, ex6, kx6⟩
      replace tjt := tjt.kx ex kx6
      replace tpt := tpt.kx ex kx6
      replace tj := TabX.kx tj ex kx6
      replace kx1 := kx1.trans kx6
      replace ex := ex6
      clear ex6 kx6
      refine RD.d_cut (fun σ' H' => ∃ rg, σ' = [some (.ref x), some (.ref a), some (.ref b), some (.int z), some (.int o), some .non, none, some (.ref rg), none, none, none] ∧ Same H6 H' ∧ H' rg = some (.rng 0 n)) ?_ ?_
      · walk_at "tx"
        refine tj.len ?_
        refine ⟨n, rfl, fun rg hg => ?_⟩
        walk_at "tx"
        exact ⟨rg, rfl, same_upd hg, upd_same⟩
      rintro σ' H7 ⟨rg, rfl, s7, eg⟩
      replace tjt := tjt.same s7
      replace tpt := tpt.same s7
      replace kx1 := kx1.trans (Same.kx s7)
      replace ex := s7 _ _ ex
      clear tj s7
      have re : Rek K T.C_Reckoning H7 x n J M z := ⟨zn, n16, wj, wp, dx, jt, pt, _, ex, lk_eq, tjt.x, (lk_ne (by decide +kernel)).trans lk_eq, tpt.x, (lk_ne (by decide +kernel)).trans ((lk_ne (by decide +kernel)).trans lk_eq), no12 (by simp)⟩
      refine RD.d_cut (fun σ' H' => ∃ q v8 v9 v10, σ' = [some (.ref x), some (.ref a), some (.ref b), some (.int z), some (.int o), some .non, none, some (.ref rg), v8, v9, v10] ∧ H' x = some (.ins T.C_Reckoning dx [("joins", .ref jt), ("products", .ref pt), ("none", .int z), ("one", .int o), ("_meets", .ref q)]) ∧ Kx x H7 H' ∧ TabXL H' q n (meetF n J z)) ?_ ?_
      · walk_at "tx"
        refine ⟨rg, 0, n, rfl, eg, by omega, ?_⟩
        intro D hD
        refine lc_range (lo := 0) (n := ((n : Int) - 0).toNat) (fun i H' => Same H7 H' ∧ RowsN H' D n i (meetF n J z)) ⟨same_upd hD, rowsN_zero⟩ ?_ ?_
        · rintro i H' hi' ⟨s1, r1⟩
          have hi : i < n := by omega
          walk_at "tx"
          refine ⟨rg, 0, n, rfl, s1 _ _ eg, by omega, ?_⟩
          intro D2 hD2
          refine lc_range (lo := 0) (n := ((n : Int) - 0).toNat) (fun j H'' => Same H' H'' ∧ H'' D2 = some (.lst ((List.range j).map fun c => V.int (meetF n J z i c : Nat)))) ⟨same_upd hD2, upd_same⟩ ?_ ?_
          · rintro j H'' hj' ⟨s2, eD2⟩
            have hj : j < n := by omega
            have re2 := (re.same s1).same s2
            walk_at "tx"
            refine rekM re2 (by simp) ?_
            walk_at "tx"
            refine ⟨x, n, J, M, z, i, j, by rw [Int.zero_add, Int.zero_add]; rfl, re2, hi, hj, fun H3 s3 => ?_⟩
            exact rowPutN (g := fun c => meetF n J z i c) hD2 (s2.trans s3) (by omega) (s3 _ _ eD2) rfl
          · rintro H'' ⟨s2, eD2⟩
            rw [show ((n : Int) - 0).toNat = n from by omega] at eD2
            exact rowsN_step hD s1 r1 hD2 s2 (by omega) eD2
        · rintro H' ⟨s1, r1⟩
          rw [show ((n : Int) - 0).toNat = n from by omega] at r1
          have tt := rowsN_end r1
          walk_at "tx"
          have ex1 := s1 _ _ ex
          refine ⟨x, T.C_Reckoning, dx, _, rfl, ex1, T.cl_Reckoning, T.na_Reckoning__meets, by show 4 < 1000; decide, ?_⟩
          refine ⟨D, _, _, _, rfl, ?_, Kx.trans (Same.kx s1) kx_upd, tt.kx ex1 kx_upd⟩
          rw [upd_same, putF_ne (by decide +kernel), putF_ne (by decide +kernel), putF_ne (by decide +kernel), putF_ne (by decide +kernel)]; rfl
      rintro σ' H8 ⟨mt, v8, v9, v10, rfl, exn, kxn, tmt⟩
      clear re
      have egn : H8 rg = some (.rng 0 n) := kxn _ _ (fun zz => by rw [zz, ex] at eg; cases eg) eg
      replace tjt := tjt.kx ex kxn
      replace tpt := tpt.kx ex kxn
      replace kx1 := kx1.trans kxn
      replace ex := exn
      replace eg := egn
      clear exn kxn egn
      have re : Rek K T.C_Reckoning H8 x n J M z := ⟨zn, n16, wj, wp, dx, jt, pt, _, ex, lk_eq, tjt.x, (lk_ne (by decide +kernel)).trans lk_eq, tpt.x, (lk_ne (by decide +kernel)).trans ((lk_ne (by decide +kernel)).trans lk_eq), no12 (by simp)⟩
      refine RD.d_cut (fun σ' H' => ∃ q v8 v9 v10, σ' = [some (.ref x), some (.ref a), some (.ref b), some (.int z), some (.int o), some .non, none, some (.ref rg), v8, v9, v10] ∧ H' x = some (.ins T.C_Reckoning dx [("joins", .ref jt), ("products", .ref pt), ("none", .int z), ("one", .int o), ("_meets", .ref mt), ("_lefts", .ref q)]) ∧ Kx x H8 H' ∧ TabXL H' q n (leftF n J M z)) ?_ ?_
      · walk_at "tx"
        refine ⟨rg, 0, n, rfl, eg, by omega, ?_⟩
        intro D hD
        refine lc_range (lo := 0) (n := ((n : Int) - 0).toNat) (fun i H' => Same H8 H' ∧ RowsN H' D n i (leftF n J M z)) ⟨same_upd hD, rowsN_zero⟩ ?_ ?_
        · rintro i H' hi' ⟨s1, r1⟩
          have hi : i < n := by omega
          walk_at "tx"
          refine ⟨rg, 0, n, rfl, s1 _ _ eg, by omega, ?_⟩
          intro D2 hD2
          refine lc_range (lo := 0) (n := ((n : Int) - 0).toNat) (fun j H'' => Same H' H'' ∧ H'' D2 = some (.lst ((List.range j).map fun c => V.int (leftF n J M z i c : Nat)))) ⟨same_upd hD2, upd_same⟩ ?_ ?_
          · rintro j H'' hj' ⟨s2, eD2⟩
            have hj : j < n := by omega
            have re2 := (re.same s1).same s2
            walk_at "tx"
            refine rekM re2 (by simp) ?_
            walk_at "tx"
            refine ⟨x, n, J, M, z, i, j, by rw [Int.zero_add, Int.zero_add]; rfl, re2, hi, hj, fun H3 s3 => ?_⟩
            exact rowPutN (g := fun c => leftF n J M z i c) hD2 (s2.trans s3) (by omega) (s3 _ _ eD2) rfl
          · rintro H'' ⟨s2, eD2⟩
            rw [show ((n : Int) - 0).toNat = n from by omega] at eD2
            exact rowsN_step hD s1 r1 hD2 s2 (by omega) eD2
        · rintro H' ⟨s1, r1⟩
          rw [show ((n : Int) - 0).toNat = n from by omega] at r1
          have tt := rowsN_end r1
          walk_at "tx"
          have ex1 := s1 _ _ ex
          refine ⟨x, T.C_Reckoning, dx, _, rfl, ex1, T.cl_Reckoning, T.na_Reckoning__lefts, by show 5 < 1000; decide, ?_⟩
          refine ⟨D, _, _, _, rfl, ?_, Kx.trans (Same.kx s1) kx_upd, tt.kx ex1 kx_upd⟩
          rw [upd_same, putF_ne (by decide +kernel), putF_ne (by decide +kernel), putF_ne (by decide +kernel), putF_ne (by decide +kernel), putF_ne (by decide +kernel)]; rfl
      rintro σ' H9 ⟨lt, v8, v9, v10, rfl, exn, kxn, tlt⟩
      clear re
      have egn : H9 rg = some (.rng 0 n) := kxn _ _ (fun zz => by rw [zz, ex] at eg; cases eg) eg
      replace tjt := tjt.kx ex kxn
      replace tpt := tpt.kx ex kxn
      replace tmt := tmt.kx ex kxn
      replace kx1 := kx1.trans kxn
      replace ex := exn
      replace eg := egn
      clear exn kxn egn
      have re : Rek K T.C_Reckoning H9 x n J M z := ⟨zn, n16, wj, wp, dx, jt, pt, _, ex, lk_eq, tjt.x, (lk_ne (by decide +kernel)).trans lk_eq, tpt.x, (lk_ne (by decide +kernel)).trans ((lk_ne (by decide +kernel)).trans lk_eq), no12 (by simp)⟩
      walk_at "tx"
      refine ⟨rg, 0, n, rfl, eg, by omega, ?_⟩
      intro D hD
      refine lc_range (lo := 0) (n := ((n : Int) - 0).toNat) (fun i H' => Same H9 H' ∧ RowsN H' D n i (rightF n J M z)) ⟨same_upd hD, rowsN_zero⟩ ?_ ?_
      · rintro i H' hi' ⟨s1, r1⟩
        have hi : i < n := by omega
        walk_at "tx"
        refine ⟨rg, 0, n, rfl, s1 _ _ eg, by omega, ?_⟩
        intro D2 hD2
        refine lc_range (lo := 0) (n := ((n : Int) - 0).toNat) (fun j H'' => Same H' H'' ∧ H'' D2 = some (.lst ((List.range j).map fun c => V.int (rightF n J M z i c : Nat)))) ⟨same_upd hD2, upd_same⟩ ?_ ?_
        · rintro j H'' hj' ⟨s2, eD2⟩
          have hj : j < n := by omega
          have re2 := (re.same s1).same s2
          walk_at "tx"
          refine rekM re2 (by simp) ?_
          walk_at "tx"
          refine ⟨x, n, J, M, z, i, j, by rw [Int.zero_add, Int.zero_add]; rfl, re2, hi, hj, fun H3 s3 => ?_⟩
          exact rowPutN (g := fun c => rightF n J M z i c) hD2 (s2.trans s3) (by omega) (s3 _ _ eD2) rfl
        · rintro H'' ⟨s2, eD2⟩
          rw [show ((n : Int) - 0).toNat = n from by omega] at eD2
          exact rowsN_step hD s1 r1 hD2 s2 (by omega) eD2
      · rintro H' ⟨s1, r1⟩
        rw [show ((n : Int) - 0).toNat = n from by omega] at r1
        have tt := rowsN_end r1
        walk_at "tx"
        have ex1 := s1 _ _ ex
        refine ⟨x, T.C_Reckoning, dx, _, rfl, ex1, T.cl_Reckoning, T.na_Reckoning__rights, by show 6 < 1000; decide, ?_⟩
        refine k _ ((kx1.trans (Same.kx s1)).trans kx_upd) ⟨dx, jt, pt, mt, lt, D, ?_, (tjt.same s1).kx ex1 kx_upd, (tpt.same s1).kx ex1 kx_upd, (tmt.same s1).kx ex1 kx_upd, (tlt.same s1).kx ex1 kx_upd, tt.kx ex1 kx_upd, eR, n2, n16, zn, on, wj, wp⟩
        rw [upd_same, putF_ne (by decide +kernel), putF_ne (by decide +kernel), putF_ne (by decide +kernel), putF_ne (by decide +kernel), putF_ne (by decide +kernel), putF_ne (by decide +kernel)]; rfl
end

/-! ### what a reckoning tells -/
open OQ (TabX RowX SeqAt)
def spIsWo (K : PySem.W.Frag) (C : Addr) : Sp := fun vs H Q _ => ∃ (x : Addr) (n : Nat) (J M : Nat → Nat → Nat) (z : Nat) (v : V) (b : Bool), vs = [.ref x, v] ∧ Rek K C H x n J M z ∧ Bl K H n v b ∧ Q (.bl b) H
/-- what comes of two things that are not both worths -/
def NoWo (CB : Addr) (H : Hp) (va vb : V) (a b : Bool) (E : XK) : Prop := (a = false → ∀ d H', Same H H' → H' d = none → E (.ref CB) (some d) (upd H' d (ErrD va))) ∧ (a = true → b = false → ∀ d H', Same H H' → H' d = none → E (.ref CB) (some d) (upd H' d (ErrD vb)))
def spChkWo (K : PySem.W.Frag) (C CB : Addr) : Sp := fun vs H Q E => ∃ (x : Addr) (n : Nat) (J M : Nat → Nat → Nat) (z : Nat) (va vb : V) (a b : Bool), vs = [.ref x, va, vb] ∧ Rek K C H x n J M z ∧ Bl K H n va a ∧ Bl K H n vb b ∧
  (a = true → b = true → ∀ H', Same H H' → Q .non H') ∧ NoWo CB H va vb a b E
/-- an operation on two worths -/
def spOp (K : PySem.W.Frag) (C CB : Addr) (g : Nat → (Nat → Nat → Nat) → (Nat → Nat → Nat) → Nat → Nat → Nat → V) : Sp := fun vs H Q E => ∃ (x : Addr) (n : Nat) (J M : Nat → Nat → Nat) (z o : Nat) (va vb : V) (a b : Bool), vs = [.ref x, va, vb] ∧ RekF K C H x n J M z o ∧ Bl K H n va a ∧ Bl K H n vb b ∧
  (a = true → b = true → ∀ i j : Nat, va = .int i → vb = .int j → i < n → j < n → ∀ H', Same H H' → Q (g n J M z i j) H') ∧ NoWo CB H va vb a b E
section
variable {P : Program} {w : World} {K : PySem.W.Frag} {mg : Str → Option Value} {base : Heap} {H : Hp} {R : V → Prop}
theorem ok_Reckoning_is_worth (T : Top K mg) : FnOk P w K mg base CX0 4 T.f_Reckoning_is_worth T.fd_Reckoning_is_worth ["self", "thing"] (spIsWo K T.C_Reckoning) := by
  refine T.F_Reckoning_is_worth.ok sc_Reckoning_is_worth (fun vs H Q E h => ?_) (fun cdv A outer s H vs Q E hr h => ?_)
  · obtain ⟨x, n, J, M, z, v, b, rfl, _⟩ := h; rfl
  · obtain ⟨x, n, J, M, z, v, b, rfl, re, hb, k⟩ := h
    refine ⟨_, (pss_one (ps_ret (pe_call (ok_is_below T) (hr.mono (by decide)) (by rfl) T.g_is_below T.F_is_below.kp T.b_is_below .nil pass0 (pa_cons (pe_callB RD.c_len (by rfl) T.n_len (by decide +kernel) (pa_cons (pe_fld (pv 0) (by rfl)) pa_nil)) (pa_cons (pv 1) pa_nil))))), ?_⟩
    walk_at "tx"
    refine rekJ T re (fun jt tj => ?_)
    walk_at "tx"
    refine tj.len ?_
    walk_at "tx"
    exact ⟨n, v, b, rfl, hb, k⟩
theorem ok_check_worths (T : Top K mg) : FnOk P w K mg base (L2.CX P w) 6 T.f_check_worths T.fd_check_worths ["reckoning", "first", "second"] (spChkWo K T.C_Reckoning T.C_BadWorth) := by
  refine T.F_check_worths.okX sc_check_worths (fun vs H Q E h => ?_) (fun cdv A outer s H vs Q E hr h => ?_)
  · obtain ⟨x, n, J, M, z, va, vb, a, b, rfl, _⟩ := h; rfl
  · obtain ⟨x, n, J, M, z, va, vb, a, b, rfl, re, ha, hb, k, kE1, kE2⟩ := h
    refine ⟨_, (pss_one (ps_for (passes_of rfl) rfl (pi_tup (pe_tup (pa_cons (pv 1) (pa_cons (pv 2) pa_nil)))) (pg_name (i := 3) sc_check_worths.nd rfl (Or.inl rfl))
 (pss_one (ps_if (pt_not (pt_val (pe_meth (pv 0) T.cl_Reckoning T.m_Reckoning_is_worth (ok_Reckoning_is_worth T) (hr.mono (by decide)) T.b_Reckoning_is_worth .nil pass0 (pa_cons (pv 3) pa_nil))))
 (pss_one (ps_raise rfl (takes_of rfl rfl rfl rfl) (pmk_oex T.oex_BadWorth T.i_BadWorth T.tI (ok_WayError__init T) (hr.mono (by decide)) T.b_WayError__init .nil pass0 (by rfl) T.g_BadWorth (pa_cons (pv 3) pa_nil))))
 pss_nil)))), ?_⟩
    walk_at "tx"
    refine d_iTup ?_
    walk_at "tx"
    refine ⟨by show 2 ≤ sizeLine; decide, fun tp htp => ?_⟩
    have s1 := same_upd (o := HO.tup [va, vb]) htp
    have et : upd H tp (.tup [va, vb]) tp = some (.tup [va, vb]) := upd_same
    replace re := re.same s1
    replace ha := ha.same s1
    replace hb := hb.same s1
    refine ⟨tp, rfl, ⟨_, SqT.of et⟩, ?_⟩
    generalize upd H tp (.tup [va, vb]) = H1 at *
    refine RD.f_tup (K := K) (a := tp) (xs := [va, vb]) (fun i σ' H' => H' = H1 ∧ (∃ v, σ' = [some (.ref x), some va, some vb, v]) ∧ (1 ≤ i → a = true) ∧ (2 ≤ i → b = true)) ⟨rfl, ⟨none, rfl⟩, fun z => by omega, fun z => by omega⟩ ?_ ?_ ?_
    · rintro i σ' H' _ ⟨rfl, _⟩
      exact SqT.of et
    · rintro i y σ' H' hi ⟨rfl, ⟨v, rfl⟩, q1, q2⟩
      have il : i < 2 := (List.getElem?_eq_some_iff.mp hi).1
      rcases i with _ | i
      · cases hi
        walk_at "tx"
        refine rekM re (by simp) ?_
        walk_at "tx"
        refine ⟨x, n, J, M, z, va, a, rfl, re, ha, ?_⟩
        cases a with
        | true =>
          refine ⟨true, rfl, RD.d_iteNT ?_⟩
          walk_at "tx"
          exact ⟨rfl, ⟨_, rfl⟩, fun _ => rfl, fun z => by omega⟩
        | false =>
          refine ⟨false, rfl, RD.d_iteNF ?_⟩
          walk_at "tx"
          exact d_mkO T.oex_BadWorth T.v_BadWorth fun d hd => kE1 rfl d _ s1 hd
      · obtain rfl : i = 0 := by omega
        cases hi
        have a1 := q1 (by omega)
        walk_at "tx"
        refine rekM re (by simp) ?_
        walk_at "tx"
        refine ⟨x, n, J, M, z, vb, b, rfl, re, hb, ?_⟩
        cases b with
        | true =>
          refine ⟨true, rfl, RD.d_iteNT ?_⟩
          walk_at "tx"
          exact ⟨rfl, ⟨_, rfl⟩, fun _ => a1, fun _ => rfl⟩
        | false =>
          refine ⟨false, rfl, RD.d_iteNF ?_⟩
          walk_at "tx"
          exact d_mkO T.oex_BadWorth T.v_BadWorth fun d hd => kE2 a1 rfl d _ s1 hd
    · rintro σ' H' ⟨rfl, ⟨v, rfl⟩, q1, q2⟩
      walk_at "tx"
      exact k (q1 (by show 1 ≤ 2; omega)) (q2 (Nat.le_refl _)) _ s1
theorem ok_Reckoning_join (T : Top K mg) : FnOk P w K mg base (L2.CX P w) 8 T.f_Reckoning_join T.fd_Reckoning_join ["self", "a", "b"] (spOp K T.C_Reckoning T.C_BadWorth fun _ J _ _ i j => .int (J i j : Nat)) := by
  refine T.F_Reckoning_join.okX sc_Reckoning_join (fun vs H Q E h => ?_) (fun cdv A outer s H vs Q E hr h => ?_)
  · obtain ⟨x, n, J, M, z, o, va, vb, a, b, rfl, _⟩ := h; rfl
  · obtain ⟨x, n, J, M, z, o, va, vb, a, b, rfl, rf, ha, hb, k, kE⟩ := h
    refine ⟨_, (pss_cons (ps_expr (pe_call (ok_check_worths T) (hr.mono (by decide)) (by rfl) T.g_check_worths T.F_check_worths.kp T.b_check_worths .nil (passes_call (takes_of rfl rfl rfl rfl) (fun _ _ _ _ h => h)) (pa_cons (pv 0) (pa_cons (pv 1) (pa_cons (pv 2) pa_nil)))))
 (pss_one (ps_ret (pe_ix OQ.ix_seq (pe_ix OQ.ix_seq (pe_fld (pv 0) (by rfl)) (pv 1) (fun _ _ => rfl)) (pv 2) (fun _ _ => rfl))))), ?_⟩
    walk_at "tx"
    refine ⟨x, n, J, M, z, va, vb, a, b, rfl, rf.rek, ha, hb, fun a1 b1 H1 s1 => ?_, kE⟩
    subst a1; subst b1
    obtain ⟨i, rfl, hi⟩ := ha.nat
    obtain ⟨j, rfl, hj⟩ := hb.nat
    walk_at "tx"
    refine rekJ T (rf.rek.same s1) (fun jt tj => ?_)
    walk_at "tx"
    refine OQ.xT (m := i) tj rfl hi (fun r hr => ?_)
    walk_at "tx"
    refine OQ.xR (m := j) hr rfl hj ?_
    exact k rfl rfl i j rfl rfl hi hj H1 s1
theorem ok_Reckoning_times (T : Top K mg) : FnOk P w K mg base (L2.CX P w) 8 T.f_Reckoning_times T.fd_Reckoning_times ["self", "a", "b"] (spOp K T.C_Reckoning T.C_BadWorth fun _ _ M _ i j => .int (M i j : Nat)) := by
  refine T.F_Reckoning_times.okX sc_Reckoning_times (fun vs H Q E h => ?_) (fun cdv A outer s H vs Q E hr h => ?_)
  · obtain ⟨x, n, J, M, z, o, va, vb, a, b, rfl, _⟩ := h; rfl
  · obtain ⟨x, n, J, M, z, o, va, vb, a, b, rfl, rf, ha, hb, k, kE⟩ := h
    refine ⟨_, (pss_cons (ps_expr (pe_call (ok_check_worths T) (hr.mono (by decide)) (by rfl) T.g_check_worths T.F_check_worths.kp T.b_check_worths .nil (passes_call (takes_of rfl rfl rfl rfl) (fun _ _ _ _ h => h)) (pa_cons (pv 0) (pa_cons (pv 1) (pa_cons (pv 2) pa_nil)))))
 (pss_one (ps_ret (pe_ix OQ.ix_seq (pe_ix OQ.ix_seq (pe_fld (pv 0) (by rfl)) (pv 1) (fun _ _ => rfl)) (pv 2) (fun _ _ => rfl))))), ?_⟩
    walk_at "tx"
    refine ⟨x, n, J, M, z, va, vb, a, b, rfl, rf.rek, ha, hb, fun a1 b1 H1 s1 => ?_, kE⟩
    subst a1; subst b1
    obtain ⟨i, rfl, hi⟩ := ha.nat
    obtain ⟨j, rfl, hj⟩ := hb.nat
    walk_at "tx"
    refine rekP T (rf.rek.same s1) (fun jt tj => ?_)
    walk_at "tx"
    refine OQ.xT (m := i) tj rfl hi (fun r hr => ?_)
    walk_at "tx"
    refine OQ.xR (m := j) hr rfl hj ?_
    exact k rfl rfl i j rfl rfl hi hj H1 s1
theorem ok_Reckoning_meet (T : Top K mg) : FnOk P w K mg base (L2.CX P w) 8 T.f_Reckoning_meet T.fd_Reckoning_meet ["self", "a", "b"] (spOp K T.C_Reckoning T.C_BadWorth fun n J M z i j => .int (meetF n J z i j : Nat)) := by
  refine T.F_Reckoning_meet.okX sc_Reckoning_meet (fun vs H Q E h => ?_) (fun cdv A outer s H vs Q E hr h => ?_)
  · obtain ⟨x, n, J, M, z, o, va, vb, a, b, rfl, _⟩ := h; rfl
  · obtain ⟨x, n, J, M, z, o, va, vb, a, b, rfl, rf, ha, hb, k, kE⟩ := h
    refine ⟨_, (pss_cons (ps_expr (pe_call (ok_check_worths T) (hr.mono (by decide)) (by rfl) T.g_check_worths T.F_check_worths.kp T.b_check_worths .nil (passes_call (takes_of rfl rfl rfl rfl) (fun _ _ _ _ h => h)) (pa_cons (pv 0) (pa_cons (pv 1) (pa_cons (pv 2) pa_nil)))))
 (pss_one (ps_ret (pe_ix ix_list (pe_ix ix_list (pe_fld (pv 0) (by rfl)) (pv 1) (fun _ _ => rfl)) (pv 2) (fun _ _ => rfl))))), ?_⟩
    walk_at "tx"
    refine ⟨x, n, J, M, z, va, vb, a, b, rfl, rf.rek, ha, hb, fun a1 b1 H1 s1 => ?_, kE⟩
    subst a1; subst b1
    obtain ⟨i, rfl, hi⟩ := ha.nat
    obtain ⟨j, rfl, hj⟩ := hb.nat
    obtain ⟨dx, jt, pt, mt, lt, rt, ex, t1, t2, t3, t4, t5, _⟩ := rf.same s1
    obtain ⟨rs, len, et, rows⟩ := t3
    have il : i < rs.length := by rw [len]; exact hi
    walk_at "tx"
    refine ⟨x, T.C_Reckoning, dx, _, _, rfl, ex, T.cl_Reckoning, T.na_Reckoning__meets, ((lk_ne (by decide +kernel)).trans ((lk_ne (by decide +kernel)).trans ((lk_ne (by decide +kernel)).trans ((lk_ne (by decide +kernel)).trans lk_eq)))), ?_⟩
    walk_at "tx"
    refine RD.d_ixL (SqL.of et) (v := .ref rs[i]) (atI_nat (by rw [List.getElem?_map, List.getElem?_eq_getElem il]; rfl)) ?_
    walk_at "tx"
    refine RD.d_ixL (SqL.of (rows i _ (List.getElem?_eq_getElem il))) (v := .int (meetF n J z i j : Nat)) (atI_nat (by rw [List.getElem?_map, List.getElem?_range hj]; rfl)) ?_
    exact k rfl rfl i j rfl rfl hi hj H1 s1
theorem ok_Reckoning_left (T : Top K mg) : FnOk P w K mg base (L2.CX P w) 8 T.f_Reckoning_left T.fd_Reckoning_left ["self", "a", "c"] (spOp K T.C_Reckoning T.C_BadWorth fun n J M z i j => .int (leftF n J M z i j : Nat)) := by
  refine T.F_Reckoning_left.okX sc_Reckoning_left (fun vs H Q E h => ?_) (fun cdv A outer s H vs Q E hr h => ?_)
  · obtain ⟨x, n, J, M, z, o, va, vb, a, b, rfl, _⟩ := h; rfl
  · obtain ⟨x, n, J, M, z, o, va, vb, a, b, rfl, rf, ha, hb, k, kE⟩ := h
    refine ⟨_, (pss_cons (ps_expr (pe_call (ok_check_worths T) (hr.mono (by decide)) (by rfl) T.g_check_worths T.F_check_worths.kp T.b_check_worths .nil (passes_call (takes_of rfl rfl rfl rfl) (fun _ _ _ _ h => h)) (pa_cons (pv 0) (pa_cons (pv 1) (pa_cons (pv 2) pa_nil)))))
 (pss_one (ps_ret (pe_ix ix_list (pe_ix ix_list (pe_fld (pv 0) (by rfl)) (pv 1) (fun _ _ => rfl)) (pv 2) (fun _ _ => rfl))))), ?_⟩
    walk_at "tx"
    refine ⟨x, n, J, M, z, va, vb, a, b, rfl, rf.rek, ha, hb, fun a1 b1 H1 s1 => ?_, kE⟩
    subst a1; subst b1
    obtain ⟨i, rfl, hi⟩ := ha.nat
    obtain ⟨j, rfl, hj⟩ := hb.nat
    obtain ⟨dx, jt, pt, mt, lt, rt, ex, t1, t2, t3, t4, t5, _⟩ := rf.same s1
    obtain ⟨rs, len, et, rows⟩ := t4
    have il : i < rs.length := by rw [len]; exact hi
    walk_at "tx"
    refine ⟨x, T.C_Reckoning, dx, _, _, rfl, ex, T.cl_Reckoning, T.na_Reckoning__lefts, ((lk_ne (by decide +kernel)).trans ((lk_ne (by decide +kernel)).trans ((lk_ne (by decide +kernel)).trans ((lk_ne (by decide +kernel)).trans ((lk_ne (by decide +kernel)).trans lk_eq))))), ?_⟩
    walk_at "tx"
    refine RD.d_ixL (SqL.of et) (v := .ref rs[i]) (atI_nat (by rw [List.getElem?_map, List.getElem?_eq_getElem il]; rfl)) ?_
    walk_at "tx"
    refine RD.d_ixL (SqL.of (rows i _ (List.getElem?_eq_getElem il))) (v := .int (leftF n J M z i j : Nat)) (atI_nat (by rw [List.getElem?_map, List.getElem?_range hj]; rfl)) ?_
    exact k rfl rfl i j rfl rfl hi hj H1 s1
theorem ok_Reckoning_right (T : Top K mg) : FnOk P w K mg base (L2.CX P w) 8 T.f_Reckoning_right T.fd_Reckoning_right ["self", "c", "a"] (spOp K T.C_Reckoning T.C_BadWorth fun n J M z i j => .int (rightF n J M z i j : Nat)) := by
  refine T.F_Reckoning_right.okX sc_Reckoning_right (fun vs H Q E h => ?_) (fun cdv A outer s H vs Q E hr h => ?_)
  · obtain ⟨x, n, J, M, z, o, va, vb, a, b, rfl, _⟩ := h; rfl
  · obtain ⟨x, n, J, M, z, o, va, vb, a, b, rfl, rf, ha, hb, k, kE⟩ := h
    refine ⟨_, (pss_cons (ps_expr (pe_call (ok_check_worths T) (hr.mono (by decide)) (by rfl) T.g_check_worths T.F_check_worths.kp T.b_check_worths .nil (passes_call (takes_of rfl rfl rfl rfl) (fun _ _ _ _ h => h)) (pa_cons (pv 0) (pa_cons (pv 1) (pa_cons (pv 2) pa_nil)))))
 (pss_one (ps_ret (pe_ix ix_list (pe_ix ix_list (pe_fld (pv 0) (by rfl)) (pv 1) (fun _ _ => rfl)) (pv 2) (fun _ _ => rfl))))), ?_⟩
    walk_at "tx"
    refine ⟨x, n, J, M, z, va, vb, a, b, rfl, rf.rek, ha, hb, fun a1 b1 H1 s1 => ?_, kE⟩
    subst a1; subst b1
    obtain ⟨i, rfl, hi⟩ := ha.nat
    obtain ⟨j, rfl, hj⟩ := hb.nat
    obtain ⟨dx, jt, pt, mt, lt, rt, ex, t1, t2, t3, t4, t5, _⟩ := rf.same s1
    obtain ⟨rs, len, et, rows⟩ := t5
    have il : i < rs.length := by rw [len]; exact hi
    walk_at "tx"
    refine ⟨x, T.C_Reckoning, dx, _, _, rfl, ex, T.cl_Reckoning, T.na_Reckoning__rights, ((lk_ne (by decide +kernel)).trans ((lk_ne (by decide +kernel)).trans ((lk_ne (by decide +kernel)).trans ((lk_ne (by decide +kernel)).trans ((lk_ne (by decide +kernel)).trans ((lk_ne (by decide +kernel)).trans lk_eq)))))), ?_⟩
    walk_at "tx"
    refine RD.d_ixL (SqL.of et) (v := .ref rs[i]) (atI_nat (by rw [List.getElem?_map, List.getElem?_eq_getElem il]; rfl)) ?_
    walk_at "tx"
    refine RD.d_ixL (SqL.of (rows i _ (List.getElem?_eq_getElem il))) (v := .int (rightF n J M z i j : Nat)) (atI_nat (by rw [List.getElem?_map, List.getElem?_range hj]; rfl)) ?_
    exact k rfl rfl i j rfl rfl hi hj H1 s1
end

/-! ### a reckoning made of tables, told by what they are below n -/
open OQ (TabX RowX SeqAt)
open RK (Fl FltAt)
/-- the same below n -/
def Eqn (n : Nat) (f g : Nat → Nat → Nat) : Prop := ∀ i j, i < n → j < n → f i j = g i j
theorem restF_congr {n : Nat} {J J' M M' : Nat → Nat → Nat} {z o : Nat} (ej : Eqn n J J') (em : Eqn n M M') (zn : z < n) (on : o < n) (wj : ∀ a b, a < n → b < n → J a b < n) (wm : ∀ a b, a < n → b < n → M a b < n) : RK.restF n J M z o = RK.restF n J' M' z o := by
  have h1 : RK.noneF n J M z = RK.noneF n J' M' z := RK.fnd_congr fun a ha => by rw [ej z a zn ha, ej a z ha zn, em z a zn ha, em a z ha zn]
  have h2 : RK.oneF n M o = RK.oneF n M' o := RK.fnd_congr fun a ha => by rw [em o a on ha, em a o ha on]
  have h3 : RK.idleF n J = RK.idleF n J' := RK.fnd_congr fun a ha => by rw [ej a a ha ha]
  have h4 : RK.swapF n J = RK.swapF n J' := RK.fnd_congr fun a ha => RK.fnd_congr fun b hb => by rw [ej a b ha hb, ej b a hb ha]
  have g : ∀ (w : Str) {F G : Nat → Nat → Nat}, Eqn n F G → (∀ a b, a < n → b < n → F a b < n) → RK.groupF w n F = RK.groupF w n G := fun w F G e wF =>
    RK.fnd_congr fun a ha => RK.fnd_congr fun b hb => RK.fnd_congr fun c hc => by
      have w1 := wF a b ha hb
      have w2 := wF b c hb hc
      rw [e (F a b) c w1 hc, e a (F b c) ha w2, e a b ha hb, e b c hb hc]
  have h5 : RK.overF n J M = RK.overF n J' M' := RK.fnd_congr fun a ha => RK.fnd_congr fun b hb => RK.fnd_congr fun c hc => by
    have w1 := wj b c hb hc
    rw [em a (J b c) ha w1, em (J b c) a w1 ha, ej (M a b) (M a c) (wm a b ha hb) (wm a c ha hc), ej (M b a) (M c a) (wm b a hb ha) (wm c a hc ha), ej b c hb hc, em a b ha hb, em a c ha hc, em b a hb ha, em c a hc ha]
  unfold RK.restF
  rw [h1, h2, h3, h4, h5, g _ ej wj, g _ em wm]
theorem jall_congr {n : Nat} {J J' : Nat → Nat → Nat} (e : Eqn n J J') (wj : ∀ a b, a < n → b < n → J a b < n) : ∀ {ws : List Nat} {z : Nat}, z < n → (∀ w ∈ ws, w < n) → jall J z ws = jall J' z ws
  | [], _, _, _ => rfl
  | w :: ws, z, zn, h => by
    have hw := h w (List.mem_cons_self ..)
    show jall J (J z w) ws = jall J' (J' z w) ws
    rw [← e z w zn hw]
    exact jall_congr e wj (wj z w zn hw) fun q m => h q (List.mem_cons_of_mem _ m)
theorem filt_congr {n : Nat} {p q : Nat → Bool} (h : ∀ i, i < n → p i = q i) : (List.range n).filter p = (List.range n).filter q :=
  List.filter_congr fun i m => h i (List.mem_range.mp m)
theorem meetF_congr {n : Nat} {J J' : Nat → Nat → Nat} {z : Nat} (e : Eqn n J J') (zn : z < n) (wj : ∀ a b, a < n → b < n → J a b < n) : Eqn n (meetF n J z) (meetF n J' z) := fun a b ha hb => by
  unfold meetF
  have h1 : ((List.range n).filter fun w => decide (J w a = a)) = (List.range n).filter fun w => decide (J' w a = a) := filt_congr fun i hi => by rw [e i a hi ha]
  have h2 : (((List.range n).filter fun w => decide (J' w a = a)).filter fun w => decide (J w b = b)) = ((List.range n).filter fun w => decide (J' w a = a)).filter fun w => decide (J' w b = b) :=
    List.filter_congr fun i m => by rw [e i b (List.mem_range.mp (List.mem_filter.mp m).1) hb]
  rw [h1, h2]
  exact jall_congr e wj zn fun w m => List.mem_range.mp (List.mem_filter.mp (List.mem_filter.mp m).1).1
theorem leftF_congr {n : Nat} {J J' M M' : Nat → Nat → Nat} {z : Nat} (e : Eqn n J J') (em : Eqn n M M') (zn : z < n) (wj : ∀ a b, a < n → b < n → J a b < n) (wm : ∀ a b, a < n → b < n → M a b < n) : Eqn n (leftF n J M z) (leftF n J' M' z) := fun a c ha hc => by
  unfold leftF
  have h1 : ((List.range n).filter fun b => decide (J (M a b) c = c)) = (List.range n).filter fun b => decide (J' (M' a b) c = c) := filt_congr fun i hi => by rw [e (M a i) c (wm a i ha hi) hc, em a i ha hi]
  rw [h1]
  exact jall_congr e wj zn fun w m => List.mem_range.mp (List.mem_filter.mp m).1
theorem rightF_congr {n : Nat} {J J' M M' : Nat → Nat → Nat} {z : Nat} (e : Eqn n J J') (em : Eqn n M M') (zn : z < n) (wj : ∀ a b, a < n → b < n → J a b < n) (wm : ∀ a b, a < n → b < n → M a b < n) : Eqn n (rightF n J M z) (rightF n J' M' z) := fun c a hc ha => by
  unfold rightF
  have h1 : ((List.range n).filter fun b => decide (J (M b a) c = c)) = (List.range n).filter fun b => decide (J' (M' b a) c = c) := filt_congr fun i hi => by rw [e (M i a) c (wm i a hi ha) hc, em i a hi ha]
  rw [h1]
  exact jall_congr e wj zn fun w m => List.mem_range.mp (List.mem_filter.mp m).1
theorem row_congr {n : Nat} {g h : Nat → Nat} (e : ∀ j, j < n → g j = h j) : ((List.range n).map fun j => V.int (g j : Nat)) = (List.range n).map fun j => V.int (h j : Nat) :=
  List.map_congr_left fun j m => by rw [e j (List.mem_range.mp m)]
theorem TabXT.congr {K : PySem.W.Frag} {H : Hp} {a : Addr} {n : Nat} {f g : Nat → Nat → Nat} (h : TabXT K H a n f) (e : Eqn n f g) : TabXT K H a n g := by
  obtain ⟨rs, l, sa, q⟩ := h
  refine ⟨rs, l, sa, fun i r z => ?_⟩
  have il : i < n := by have := (List.getElem?_eq_some_iff.mp z).1; omega
  rw [← row_congr fun j hj => e i j il hj]
  exact q i r z
theorem TabXL.congr {H : Hp} {a : Addr} {n : Nat} {f g : Nat → Nat → Nat} (h : TabXL H a n f) (e : Eqn n f g) : TabXL H a n g := by
  obtain ⟨rs, l, sa, q⟩ := h
  refine ⟨rs, l, sa, fun i r z => ?_⟩
  have il : i < n := by have := (List.getElem?_eq_some_iff.mp z).1; omega
  rw [← row_congr fun j hj => e i j il hj]
  exact q i r z
theorem RekF.congr {K : PySem.W.Frag} {C : Addr} {H : Hp} {x : Addr} {n : Nat} {J J' M M' : Nat → Nat → Nat} {z o : Nat} (h : RekF K C H x n J M z o) (ej : Eqn n J J') (em : Eqn n M M') : RekF K C H x n J' M' z o := by
  obtain ⟨dx, jt, pt, mt, lt, rt, e, t1, t2, t3, t4, t5, rf, n2, n16, zn, on, wj, wp⟩ := h
  exact ⟨dx, jt, pt, mt, lt, rt, e, t1.congr ej, t2.congr em, t3.congr (meetF_congr ej zn wj), t4.congr (leftF_congr ej em zn wj wp), t5.congr (rightF_congr ej em zn wj wp),
    (restF_congr ej em zn on wj wp).symm.trans rf, n2, n16, zn, on, fun a b ha hb => by rw [← ej a b ha hb]; exact wj a b ha hb, fun a b ha hb => by rw [← em a b ha hb]; exact wp a b ha hb⟩
theorem spReck_good {K : PySem.W.Frag} {C CB : Addr} {H : Hp} {x dx a b : Addr} {n : Nat} {J M : Nat → Nat → Nat} {z o : Nat} {Q : VK} {E : XK} (ex : H x = some (.ins C dx [])) (tj : TabX K H a n J) (tp : TabX K H b n M) (n2 : 2 ≤ n) (n16 : n ≤ 16) (zn : z < n) (on : o < n)
    (wj : ∀ a b, a < n → b < n → J a b < n) (wp : ∀ a b, a < n → b < n → M a b < n) (k : RK.restF n J M z o = none → ∀ H', Kx x H H' → RekF K C H' x n J M z o → Q .non H')
    (kE : ∀ f, RK.restF n J M z o = some f → ∀ v d H', Same H H' → FltAt H' v (some f) → H' d = none → E (.ref CB) (some d) (upd H' d (ErrD v))) : spReck K C CB [.ref x, .ref a, .ref b, .int z, .int o] H Q E := by
  obtain ⟨dj, hj, qj, ej, ds, er, el⟩ := OQ.tab_dp tj wj
  obtain ⟨dp, hp, qp, ep, _⟩ := OQ.tab_dp tp wp
  have ec : RK.cellsOf dj = ds := by unfold RK.cellsOf; rw [er]; rfl
  have ez : ∀ i : Nat, RK.natOf (.int i) = i := fun i => by show (i : Int).toNat = i; omega
  have bz : ∀ i : Nat, i < n → RK.belowB n (.int i) = true := fun i hi => decide_eq_true (by omega)
  have eS : RK.sizeB dj dp (.int z) (.int o) = true := by
    unfold RK.sizeB
    rw [er]
    show (decide (2 ≤ ds.length ∧ ds.length ≤ 16) && (RK.squareB ds.length dj && (RK.squareB ds.length dp && (RK.belowB ds.length (.int z) && RK.belowB ds.length (.int o))))) = true
    rw [el, qj, qp, bz z zn, bz o on, decide_eq_true ⟨n2, n16⟩]; rfl
  have eF : firstF dj dp (.int z) (.int o) = RK.restF n J M z o := by
    unfold firstF sizF
    rw [if_pos eS, ec, el, ez, ez]
    exact restF_congr ej ep zn on (fun a b ha hb => by rw [ej a b ha hb]; exact wj a b ha hb) (fun a b ha hb => by rw [ep a b ha hb]; exact wp a b ha hb)
  refine ⟨x, dx, _, _, _, _, dj, dp, .int z, .int o, rfl, ex, OQ.dqd_of hj, OQ.dqd_of hp, .int _, .int _, fun e H' kx rf => ?_, fun f e => kE f (eF ▸ e)⟩
  rw [ec, el, ez, ez] at rf
  exact k (eF ▸ e) H' kx (rf.congr ej ep)

/-! ### the law's draws -/
def handV (c : Addr) (p q m n : Int) : List V := [.ref c, .int p, .int q, .int m, .int n]
/-- the hand at h -/
def HandAt (H : Hp) (h c : Addr) : Prop := ∃ (cs : List Int) (p q m n : Int), H h = some (.lst (handV c p q m n)) ∧ H c = some (.lst (cs.map V.int)) ∧ c ≠ h ∧ 0 ≤ p
/-- all but what stands at h is as it was -/
def But (h : Addr) (H H' : Hp) : Prop := ∀ b, b ≠ h → H' b = H b
def spDraw : Sp := fun vs H Q _ => ∃ (h c : Addr) (many : Int), vs = [.ref h, .int many] ∧ HandAt H h c ∧ 0 < many ∧ many.natAbs.log2 < 9000 ∧
  ∀ (r : Int) (H' : Hp), 0 ≤ r → r < many → HandAt H' h c → But h H H' → Q (.int r) H'
def spHand (K : PySem.W.Frag) : Sp := fun vs H Q _ => ∃ (a : Addr) (ns : List Int), vs = [.ref a] ∧ SqL K H a (ns.map V.int) ∧ ns.length ≤ 63 ∧
  ∀ (h c : Addr) (H' : Hp), HandAt H' h c → Same H H' → H h = none → Q (.ref h) H'
theorem upd_upd {H : Hp} {p : Addr} {o u : HO} : upd (upd H p o) p u = upd H p u := by
  funext b
  by_cases e : b = p
  · subst e; rw [upd_same, upd_same]
  · rw [upd_ne e, upd_ne e, upd_ne e]
theorem upd_id {H : Hp} {p : Addr} {o : HO} (e : H p = some o) : upd H p o = H := by
  funext b
  by_cases h : b = p
  · subst h; rw [upd_same, e]
  · rw [upd_ne h]
theorem upd_none {H : Hp} {p q : Addr} {o : HO} (e : upd H p o q = none) : q ≠ p ∧ H q = none := by
  by_cases h : q = p
  · subst h; rw [upd_same] at e; cases e
  · rw [upd_ne h] at e; exact ⟨h, e⟩
theorem ne_of_free {H : Hp} {p q : Addr} {o : HO} (e : upd H p o q = none) : q ≠ p := (upd_none e).1

/-! ### what a draw leaves -/
theorem HandAt.same {H H' : Hp} {h c : Addr} (x : HandAt H h c) (s : Same H H') : HandAt H' h c := by
  obtain ⟨cs, p, q, m, n, e1, e2, ne, hp⟩ := x
  exact ⟨cs, p, q, m, n, s _ _ e1, s _ _ e2, ne, hp⟩
theorem log2_lt {i : Int} (k : i.natAbs < 2 ^ 64) : i.natAbs.log2 < 9000 := by
  by_cases z : i.natAbs = 0
  · rw [z]; decide
  · exact Nat.lt_trans ((Nat.log2_lt z).mpr k) (by decide)
theorem But.sqT {K : PySem.W.Frag} {H H' : Hp} {h c a : Addr} {xs : List V} (b : But h H H') (x : HandAt H h c) (s : SqT K H a xs) : SqT K H' a xs := by
  obtain ⟨cs, p, q, m, n, e1, _⟩ := x
  rcases s with (s | ⟨o, s⟩) | s
  · exact .inl (.inl (by rw [b a (fun z => by subst z; rw [s] at e1; cases e1)]; exact s))
  · exact .inl (.inr ⟨o, by rw [b a (fun z => by subst z; rw [s] at e1; cases e1)]; exact s⟩)
  · exact .inr s
theorem But.tabT {K : PySem.W.Frag} {H H' : Hp} {h c a : Addr} {n : Nat} {f : Nat → Nat → Nat} (b : But h H H') (x : HandAt H h c) (s : TabXT K H a n f) : TabXT K H' a n f := by
  obtain ⟨rs, l, e, q⟩ := s
  exact ⟨rs, l, b.sqT x e, fun i r z => b.sqT x (q i r z)⟩
theorem But.tabL {H H' : Hp} {h c a : Addr} {n : Nat} {f : Nat → Nat → Nat} (b : But h H H') (x : HandAt H h c) (n2 : 2 ≤ n) (s : TabXL H a n f) : TabXL H' a n f := by
  obtain ⟨rs, l, e, q⟩ := s
  obtain ⟨cs, p, q', m, k, e1, _⟩ := x
  refine ⟨rs, l, ?_, fun i r z => ?_⟩
  · rw [b a (fun z => ?_)]; exact e
    subst z
    rw [e] at e1
    have := HO.lst.inj (Option.some.inj e1)
    match rs, l with
    | [], l => simp at l; omega
    | [_], l => simp at l; omega
    | _ :: _ :: _, _ => simp [handV] at this
  · have qr := q i r z
    rw [b r (fun y => ?_)]; exact qr
    subst y
    rw [qr] at e1
    have := HO.lst.inj (Option.some.inj e1)
    match n, n2 with
    | n + 1, _ =>
      rw [List.range_succ_eq_map] at this
      simp [handV] at this
theorem But.ins {H H' : Hp} {h c a C dx : Addr} {fs : List (Str × V)} (b : But h H H') (x : HandAt H h c) (s : H a = some (.ins C dx fs)) : H' a = some (.ins C dx fs) := by
  obtain ⟨cs, p, q, m, n, e1, _⟩ := x
  rw [b a (fun z => by subst z; rw [s] at e1; cases e1)]; exact s
theorem RekF.but {K : PySem.W.Frag} {C : Addr} {H H' : Hp} {x h c : Addr} {n : Nat} {J M : Nat → Nat → Nat} {z o : Nat} (r : RekF K C H x n J M z o) (b : But h H H') (hd : HandAt H h c) : RekF K C H' x n J M z o := by
  obtain ⟨dx, jt, pt, mt, lt, rt, e, t1, t2, t3, t4, t5, rf, n2, rest⟩ := r
  exact ⟨dx, jt, pt, mt, lt, rt, b.ins hd e, b.tabT hd t1, b.tabT hd t2, b.tabL hd n2 t3, b.tabL hd n2 t4, b.tabL hd n2 t5, rf, n2, rest⟩

section
variable {P : Program} {w : World} {K : PySem.W.Frag} {mg : Str → Option Value} {base : Heap}
theorem ok_law_draw (T : Top K mg) : FnOk P w K mg base CX0 1 T.f_law_draw T.fd_law_draw ["hand", "many"] spDraw := by
  refine T.F_law_draw.ok sc_law_draw (fun vs H Q E h => ?_) (fun cdv A outer s H vs Q E hr h => ?_)
  · obtain ⟨h, c, many, rfl, _⟩ := h; rfl
  · obtain ⟨h, c, many, rfl, ⟨cs, p, q, m, n, e1, e2, ne, hp⟩, m0, ml, k⟩ := h
    refine ⟨_, (C8.pss_cut (ps_if (PW.pt (pw_and (pt_cmpR op_eq (pe_ix ix_list (pv 0) pe_int (fun _ _ => rfl)) pe_int (nomark _)) (pw_and1 (pt_cmpR op_lt (pe_ix ix_list (pv 0) pe_int (fun _ _ => rfl)) (pe_callB RD.c_len (by rfl) T.n_len (by decide +kernel) (pa_cons (pe_ix ix_list (pv 0) pe_int (fun _ _ => rfl)) pa_nil)) (nomark _)))))
 (pss_cons (ps_set (i := 2) sc_law_draw.nd rfl (Or.inl rfl) (pe_ix ix_list (pe_ix ix_list (pv 0) pe_int (fun _ _ => rfl)) (pe_ix ix_list (pv 0) pe_int (fun _ _ => rfl)) (fun _ _ => rfl)))
 (pss_cons (ps_asg (pe_op op_add (pe_ix ix_list (pv 0) pe_int (fun _ _ => rfl)) pe_int) (pg_sub (pv 0) pe_int set_list))
 (pss_cons (ps_asg (pe_op op_mod (pe_callTy RD.c_int (by rfl) T.n_int (by decide +kernel) (pa_cons (pe_op op_add (pe_op op_add (pe_op op_mul (pe_ix ix_list (pv 0) pe_int (fun _ _ => rfl)) pe_int) (pv 2)) pe_int) pa_nil)) pe_int) (pg_sub (pv 0) pe_int set_list))
 (pss_one (ps_if (pt_cmpR op_ge (pv 2) (pe_op op_pow pe_int pe_int) (nomark _))
 (pss_one (ps_asg (pv 2) (pg_sub (pv 0) pe_int set_list)))
 pss_nil)))))
 pss_nil)
 (pss_cons (ps_if (pt_cmpR op_gt (pe_ix ix_list (pv 0) pe_int (fun _ _ => rfl)) pe_int (nomark _))
 (pss_cons (ps_set (i := 3) sc_law_draw.nd rfl (Or.inl rfl) (pe_op op_mod (pe_callTy RD.c_int (by rfl) T.n_int (by decide +kernel) (pa_cons (pe_ix ix_list (pv 0) pe_int (fun _ _ => rfl)) pa_nil)) (pv 1)))
 (pss_cons (ps_asg (pe_op op_fdivW (pe_ix ix_list (pv 0) pe_int (fun _ _ => rfl)) (pv 1)) (pg_sub (pv 0) pe_int set_list))
 (pss_one (ps_ret (pv 3)))))
 pss_nil)
 (pss_cons (ps_asg (pe_op op_add (pe_ix ix_list (pv 0) pe_int (fun _ _ => rfl)) pe_int) (pg_sub (pv 0) pe_int set_list))
 (pss_cons (ps_set (i := 4) sc_law_draw.nd rfl (Or.inl rfl) (pe_op op_mod (pe_callTy RD.c_int (by rfl) T.n_int (by decide +kernel) (pa_cons (pe_op op_mul (pe_callTy RD.c_int (by rfl) T.n_int (by decide +kernel) (pa_cons (pe_op op_add (pe_ix ix_list (pv 0) pe_int (fun _ _ => rfl)) (pe_op op_mul pe_int (pe_ix ix_list (pv 0) pe_int (fun _ _ => rfl)))) pa_nil)) pe_int) pa_nil)) pe_int))
 (pss_cons (ps_set (i := 4) sc_law_draw.nd rfl (Or.inl rfl) (pe_op op_mod (pe_callTy RD.c_int (by rfl) T.n_int (by decide +kernel) (pa_cons (pe_op op_mul (pv 4) (pe_op op_add (pe_op op_fdivW (pv 4) pe_int) pe_int)) pa_nil)) pe_int))
 (pss_cons (ps_set (i := 4) sc_law_draw.nd rfl (Or.inl rfl) (pe_op op_mod (pe_callTy RD.c_int (by rfl) T.n_int (by decide +kernel) (pa_cons (pe_op op_mul (pv 4) (pe_op op_add (pe_op op_fdivW (pv 4) pe_int) pe_int)) pa_nil)) pe_int))
 (pss_one (ps_ret (pe_op op_mod (pe_callTy RD.c_int (by rfl) T.n_int (by decide +kernel) (pa_cons (pe_op op_fdivW (pv 4) pe_int) pa_nil)) (pv 1)))))))))), ?_⟩
    unfold handV at e1
    refine RD.d_cut (fun σ' H' => ∃ x p' q' m', σ' = [some (.ref h), some (.int many), x, none, none] ∧ H' = upd H h (.lst [.ref c, .int p', .int q', .int m', .int n]) ∧ 0 ≤ p') ?_ ?_
    · walk_at "rd"
      refine RD.iteD (fun c1 => ?_) (fun c1 => ?_)
      · walk_at "rd"
        refine RD.iteD (fun c2 => ?_) (fun c2 => ?_)
        · have hl : p.toNat < cs.length := by rw [List.length_map] at c2; omega
          have hg : (cs.map V.int)[p.toNat]? = some (V.int cs[p.toNat]) := by simp [hl]
          have ha : atI (cs.map V.int) p = some (V.int cs[p.toNat]) := by
            have z := atI_nat hg
            rwa [Int.toNat_of_nonneg hp] at z
          walk_at "rd"
          refine RD.d_ixL (SqL.of e2) ha ?_
          walk_at "rd"
          refine RD.iteD (fun c3 => ?_) (fun c3 => ?_)
          · walk_at "rd"
            exact ⟨_, p + 1, cs[p.toNat], (m * 69621 + cs[p.toNat] + 11) % 2147483629, rfl, (by rw [upd_upd, upd_upd]; rfl), by omega⟩
          · walk_at "rd"
            exact ⟨_, p + 1, q, (m * 69621 + cs[p.toNat] + 11) % 2147483629, rfl, (by rw [upd_upd]; rfl), by omega⟩
        · walk_at "rd"
          exact ⟨none, p, q, m, rfl, (upd_id e1).symm, hp⟩
      · walk_at "rd"
        exact ⟨none, p, q, m, rfl, (upd_id e1).symm, hp⟩
    · rintro σ' H' ⟨x, p', q', m', rfl, rfl, hp'⟩
      have fin : ∀ q2 n2 : Int, HandAt (upd H h (.lst [.ref c, .int p', .int q2, .int m', .int n2])) h c ∧ But h H (upd H h (.lst [.ref c, .int p', .int q2, .int m', .int n2])) := fun q2 n2 =>
        ⟨⟨cs, p', q2, m', n2, upd_same, (by rw [upd_ne ne]; exact e2), ne, hp'⟩, fun b hb => upd_ne hb⟩
      walk_at "rd"
      refine RD.iteD (fun c1 => ?_) (fun c1 => ?_)
      · walk_at "rd"
        rw [upd_upd]
        exact k _ _ (Int.emod_nonneg _ (by omega)) (Int.emod_lt_of_pos _ m0) (fin _ _).1 (fin _ _).2
      · walk_at "rd"
        rw [upd_upd]
        exact k _ _ (Int.emod_nonneg _ (by omega)) (Int.emod_lt_of_pos _ m0) (fin _ _).1 (fin _ _).2
end
section
variable {P : Program} {w : World} {K : PySem.W.Frag} {mg : Str → Option Value} {base : Heap}
theorem ok_law_hand (T : Top K mg) : FnOk P w K mg base CX0 1 T.f_law_hand T.fd_law_hand ["script"] (spHand K) := by
  refine T.F_law_hand.ok sc_law_hand (fun vs H Q E h => ?_) (fun cdv A outer s H vs Q E hr h => ?_)
  · obtain ⟨a, ns, rfl, _⟩ := h; rfl
  · obtain ⟨a, ns, rfl, hS, hl, k⟩ := h
    refine ⟨_, (pss_cons (ps_setLc (i := 1) (own := [("cell", 2)]) (g := (gName 2)) (tt := tYes) rfl sc_law_hand.nd rfl rfl (sw_true rfl rfl rfl (by decide +kernel)) (pi_list (pe_slice sl_list (pv 0) po_none (po_some pe_int))) (blkOk_by (own := [("cell", 2)]) (N := ["script", "cells", "cell"]) (sc := defScope s_law_hand) (by decide +kernel)) (fun _ _ _ _ _ => (pg_name (i := 2) sc_law_hand.nd rfl (Or.inl rfl))) (fun _ _ _ _ _ => pts_nil) (fun _ _ _ _ _ => (pe_callB RD.c_abs (by rfl) T.n_abs (by decide +kernel) (pa_cons (pe_callTy RD.c_int (by rfl) T.n_int (by decide +kernel) (pa_cons (pv 2) pa_nil)) pa_nil))))
 (pss_one (ps_ret (pe_lst (pa_cons (pv 1) (pa_cons pe_int (pa_cons pe_int (pa_cons (pe_op op_add pe_int (pe_callB RD.c_len (by rfl) T.n_len (by decide +kernel) (pa_cons (pv 1) pa_nil))) (pa_cons pe_int pa_nil))))))))), ?_⟩
    walk_at "rd"
    refine ⟨a, ns.map V.int, rfl, hS, fun p hp => ?_⟩
    walk_at "rd"
    intro D hD
    have nD : D ≠ p := ne_of_free hD
    have hz : ∀ v ∈ cutV (ns.map V.int) none (some 63), ∃ z : Int, v = V.int z := fun v hv => by
      have q := List.mem_of_mem_take hv
      have q2 := List.mem_of_mem_drop q
      obtain ⟨z, _, rfl⟩ := List.mem_map.mp q2
      exact ⟨z, rfl⟩
    have hlen : (cutV (ns.map V.int) none (some 63)).length ≤ 63 := Nat.le_trans (cutV_length _ _ _) (by rw [List.length_map]; exact hl)
    refine lc_list (K := K) (a := p) (xs := cutV (ns.map V.int) none (some 63)) (fun i H' => Same H H' ∧ H D = none ∧ H' p = some (.lst (cutV (ns.map V.int) none (some 63))) ∧ ∃ cs : List Int, H' D = some (.lst (cs.map V.int)) ∧ cs.length ≤ i) ?_ ?_ ?_ ?_
    · refine ⟨fun b o e => ?_, (upd_none hD).2, by rw [upd_ne nD.symm, upd_same], [], upd_same, Nat.le_refl _⟩
      rw [upd_ne (ne_of_none e (upd_none hD).2), upd_ne (ne_of_none e hp)]; exact e
    · exact fun i H' _ q => SqL.of q.2.2.1
    · rintro i x H' hi ⟨s0, d0, hp', cs, hc, hcl⟩
      obtain ⟨z, rfl⟩ := hz x (List.mem_of_getElem? hi)
      have hi' : i < 63 := Nat.lt_of_lt_of_le (List.getElem?_eq_some_iff.mp hi).1 hlen
      walk_at "rd"
      refine ⟨_, hc, Nat.lt_of_le_of_lt (by rw [List.length_map]; exact hcl) (Nat.lt_of_lt_of_le hi' (by decide)), fun b o e => ?_, d0, by rw [upd_ne nD.symm]; exact hp', cs ++ [_], by rw [upd_same, List.map_append]; rfl, by simp; omega⟩
      rw [upd_ne (ne_of_none e d0)]; exact s0 b o e
    · rintro H' ⟨s0, d0, hp', cs, hc, hcl⟩
      walk_at "rd"
      refine ⟨by show 5 ≤ sizeLine; decide, fun h hh => ?_⟩
      refine k h D _ ⟨cs, 0, 0, _, 0, upd_same, by rw [upd_ne (ne_of_none hc hh)]; exact hc, ne_of_none hc hh, Int.le_refl _⟩ (fun b o e => ?_) (s0.free hh)
      rw [upd_ne (ne_of_none (s0 b o e) hh)]; exact s0 b o e
end

/-! ### products of chains -/
open OQ (TabX RowX SeqAt)
open RK (Gd)
def spPrd : Sp := fun vs H Q _ => ∃ (h c : Addr), vs = [.ref h] ∧ HandAt H h c ∧ ∀ (p : Addr) (n : Nat) (M : Nat → Nat → Nat) (H' : Hp), HandAt H' h c → Kx h H H' → TabXL H' p n M → 2 ≤ n → n ≤ 5 → Gd n max M 0 (n - 1) → Q (.ref p) H'
theorem But.kx {h : Addr} {H H' : Hp} (b : But h H H') : Kx h H H' := fun c o n e => by rw [b c n]; exact e
theorem HandAt.ne {H : Hp} {h c a : Addr} (x : HandAt H h c) (e : H a = none) : a ≠ h ∧ a ≠ c := by
  obtain ⟨cs, p, q, m, n, e1, e2, _⟩ := x
  refine ⟨fun z => ?_, fun z => ?_⟩
  · rw [z, e1] at e; cases e
  · rw [z, e2] at e; cases e
theorem HandAt.put {H : Hp} {h c a : Addr} {o : HO} (x : HandAt H h c) (n1 : a ≠ h) (n2 : a ≠ c) : HandAt (upd H a o) h c := by
  obtain ⟨cs, p, q, m, n, e1, e2, ne, hp⟩ := x
  exact ⟨cs, p, q, m, n, by rw [upd_ne n1.symm]; exact e1, by rw [upd_ne n2.symm]; exact e2, ne, hp⟩
theorem Kx.tabL {H H' : Hp} {h c a : Addr} {n : Nat} {f : Nat → Nat → Nat} (k : Kx h H H') (x : HandAt H h c) (n2 : 2 ≤ n) (s : TabXL H a n f) : TabXL H' a n f := by
  obtain ⟨rs, l, e, q⟩ := s
  obtain ⟨cs, p, q', m, kk, e1, _⟩ := x
  refine ⟨rs, l, k _ _ (fun z => ?_) e, fun i r z => k _ _ (fun y => ?_) (q i r z)⟩
  · subst z
    rw [e] at e1
    have := HO.lst.inj (Option.some.inj e1)
    match rs, l with
    | [], l => simp at l; omega
    | [_], l => simp at l; omega
    | _ :: _ :: _, _ => simp [handV] at this
  · have qr := q i r z
    subst y
    rw [qr] at e1
    have := HO.lst.inj (Option.some.inj e1)
    match n, n2 with
    | n + 1, _ =>
      rw [List.range_succ_eq_map] at this
      simp [handV] at this
theorem dcell {i j n : Nat} (h : i ≠ n - 1) : V.int ((if 0 + (j : Int) < 0 + i then 0 + (j : Int) else 0 + i) * if decide (0 + (j : Int) = ((n - 1 : Nat) : Int)) = true then 1 else 0) = V.int ((if i = n - 1 ∨ j = n - 1 then min i j else 0 : Nat) : Int) := by
  congr 1
  by_cases e : j = n - 1
  · have e1 : (if decide (0 + (j : Int) = ((n - 1 : Nat) : Int)) = true then 1 else 0) = (1 : Int) := if_pos (decide_eq_true (by omega))
    rw [e1, if_pos (Or.inr e), Int.mul_one]; split <;> omega
  · have e1 : (if decide (0 + (j : Int) = ((n - 1 : Nat) : Int)) = true then 1 else 0) = (0 : Int) := if_neg (by rw [decide_eq_true_eq]; omega)
    have e2 : (if i = n - 1 ∨ j = n - 1 then min i j else 0) = 0 := if_neg (fun z => z.elim h e)
    rw [e1, e2, Int.mul_zero]; rfl
section
variable {P : Program} {w : World} {K : PySem.W.Frag} {mg : Str → Option Value} {base : Heap}
theorem ok_law_times (T : Top K mg) : FnOk P w K mg base CX0 2 T.f_law_times T.fd_law_times ["hand"] spPrd := by
  refine T.F_law_times.ok sc_law_times (fun vs H Q E h => ?_) (fun cdv A outer s H vs Q E hr h => ?_)
  · obtain ⟨h, c, rfl, _⟩ := h; rfl
  · obtain ⟨h, c, rfl, hT, k⟩ := h
    refine ⟨_, (pss_cons (ps_set (i := 1) sc_law_times.nd rfl (Or.inl rfl) (pe_call (ok_law_draw T) (hr.mono (by decide)) (by rfl) T.g_law_draw T.F_law_draw.kp T.b_law_draw .nil pass0 (pa_cons (pv 0) (pa_cons pe_int pa_nil))))
 (pss_cons (ps_if (pt_cmpR op_eq (pv 1) pe_int (nomark _))
 (pss_one (ps_ret (pe_lst (pa_cons (pe_lst (pa_cons pe_int (pa_cons pe_int (pa_cons pe_int (pa_cons pe_int pa_nil))))) (pa_cons (pe_lst (pa_cons pe_int (pa_cons pe_int (pa_cons pe_int (pa_cons pe_int pa_nil))))) (pa_cons (pe_lst (pa_cons pe_int (pa_cons pe_int (pa_cons pe_int (pa_cons pe_int pa_nil))))) (pa_cons (pe_lst (pa_cons pe_int (pa_cons pe_int (pa_cons pe_int (pa_cons pe_int pa_nil))))) pa_nil)))))))
 pss_nil)
 (pss_cons (ps_set (i := 2) sc_law_times.nd rfl (Or.inr rfl) (pe_op op_add pe_int (pe_call (ok_law_draw T) (hr.mono (by decide)) (by rfl) T.g_law_draw T.F_law_draw.kp T.b_law_draw .nil pass0 (pa_cons (pv 0) (pa_cons pe_int pa_nil)))))
 (pss_cons (ps_set (i := 3) sc_law_times.nd rfl (Or.inr rfl) (pe_op op_sub (pv 2) pe_int))
 (pss_cons (ps_if (pt_cmpR op_eq (pv 1) pe_int (nomark _))
 (pss_one (ps_ret (pe_lc (own := [("a", 4)]) (g := (gName 4)) (tt := tYes) rfl sc_law_times.nd (pi_range1 (by rfl) T.n_range (pa_cons (pv 2) pa_nil)) (blkOk_by (own := [("a", 4)]) (N := ["hand", "kind", "many", "top", "a", "b"]) (sc := defScope s_law_times) (by decide +kernel)) (fun _ _ _ _ _ => (pg_name (i := 4) sc_law_times.nd rfl (by first | exact Or.inl rfl | exact Or.inr rfl))) (fun _ _ _ _ _ => pts_nil) (fun _ _ _ _ _ => (pe_lc (own := [("b", 5)]) (g := (gName 5)) (tt := tYes) rfl sc_law_times.nd (pi_range1 (by rfl) T.n_range (pa_cons (pv 2) pa_nil)) (blkOk_by (own := [("b", 5)]) (N := ["hand", "kind", "many", "top", "a", "b"]) (sc := _) (by kernel_rfl)) (fun _ _ _ _ _ => (pg_name (i := 5) sc_law_times.nd rfl (by first | exact Or.inl rfl | exact Or.inr rfl))) (fun _ _ _ _ _ => pts_nil) (fun _ _ _ _ _ => (pe_callB (call_min2 rfl) (by rfl) T.n_min (by decide +kernel) (pa_cons (pv 4) (pa_cons (pv 5) pa_nil)))))))))
 pss_nil)
 (pss_cons (ps_if (pt_cmpR op_eq (pv 1) pe_int (nomark _))
 (pss_one (ps_ret (pe_lc (own := [("a", 4)]) (g := (gName 4)) (tt := tYes) rfl sc_law_times.nd (pi_range1 (by rfl) T.n_range (pa_cons (pv 2) pa_nil)) (blkOk_by (own := [("a", 4)]) (N := ["hand", "kind", "many", "top", "a", "b"]) (sc := defScope s_law_times) (by decide +kernel)) (fun _ _ _ _ _ => (pg_name (i := 4) sc_law_times.nd rfl (by first | exact Or.inl rfl | exact Or.inr rfl))) (fun _ _ _ _ _ => pts_nil) (fun _ _ _ _ _ => (pe_lc (own := [("b", 5)]) (g := (gName 5)) (tt := tYes) rfl sc_law_times.nd (pi_range1 (by rfl) T.n_range (pa_cons (pv 2) pa_nil)) (blkOk_by (own := [("b", 5)]) (N := ["hand", "kind", "many", "top", "a", "b"]) (sc := _) (by kernel_rfl)) (fun _ _ _ _ _ => (pg_name (i := 5) sc_law_times.nd rfl (by first | exact Or.inl rfl | exact Or.inr rfl))) (fun _ _ _ _ _ => pts_nil) (fun _ _ _ _ _ => (pe_callB (call_max2 rfl) (by rfl) T.n_max (by decide +kernel) (pa_cons pe_int (pa_cons (pe_op op_sub (pe_op op_add (pv 4) (pv 5)) (pv 3)) pa_nil)))))))))
 pss_nil)
 (pss_one (ps_ret (pe_lc (own := [("a", 4)]) (g := (gName 4)) (tt := tYes) rfl sc_law_times.nd (pi_range1 (by rfl) T.n_range (pa_cons (pv 2) pa_nil)) (blkOk_by (own := [("a", 4)]) (N := ["hand", "kind", "many", "top", "a", "b"]) (sc := defScope s_law_times) (by decide +kernel)) (fun _ _ _ _ _ => (pg_name (i := 4) sc_law_times.nd rfl (by first | exact Or.inl rfl | exact Or.inr rfl))) (fun _ _ _ _ _ => pts_nil) (fun _ _ _ _ _ => (pe_lc (own := [("b", 5)]) (g := (gName 5)) (tt := tYes) rfl sc_law_times.nd (pi_range1 (by rfl) T.n_range (pa_cons (pv 2) pa_nil)) (blkOk_by (own := [("b", 5)]) (N := ["hand", "kind", "many", "top", "a", "b"]) (sc := _) (by kernel_rfl)) (fun _ _ _ _ _ => (pg_name (i := 5) sc_law_times.nd rfl (by first | exact Or.inl rfl | exact Or.inr rfl))) (fun _ _ _ _ _ => pts_nil) (fun _ _ _ _ _ => (pe_op op_mul (pe_callB (call_min2 rfl) (by rfl) T.n_min (by decide +kernel) (pa_cons (pv 4) (pa_cons (pv 5) pa_nil))) (pe_callTy RD.c_int (by rfl) T.n_int (by decide +kernel) (pa_cons (pe_or (pe_cmpR op_eq (pv 4) (pv 3) (nomark _)) (pe_one (pe_cmpR op_eq (pv 5) (pv 3) (nomark _)))) pa_nil))))))))))))))), ?_⟩
    walk_at "tx"
    refine ⟨h, c, 4, rfl, hT, by decide, log2_lt (by decide), fun kd H1 k0 k5 hT1 b1 => ?_⟩
    walk_at "tx"
    refine RD.iteD (fun c3 => ?_) (fun c3 => ?_)
    · walk_at "tx"
      refine ⟨by show 4 ≤ sizeLine; decide, fun q1 hq1 => ?_⟩
      walk_at "tx"
      refine ⟨by show 4 ≤ sizeLine; decide, fun q2 hq2 => ?_⟩
      walk_at "tx"
      refine ⟨by show 4 ≤ sizeLine; decide, fun q3 hq3 => ?_⟩
      walk_at "tx"
      refine ⟨by show 4 ≤ sizeLine; decide, fun q4 hq4 => ?_⟩
      walk_at "tx"
      refine ⟨by show 4 ≤ sizeLine; decide, fun p hp => ?_⟩
      have n12 : q2 ≠ q1 := fun z => by rw [z, upd_same] at hq2; cases hq2
      have n13 : q3 ≠ q1 := fun z => by rw [z, upd_ne n12.symm, upd_same] at hq3; cases hq3
      have n23 : q3 ≠ q2 := fun z => by rw [z, upd_same] at hq3; cases hq3
      have n14 : q4 ≠ q1 := fun z => by rw [z, upd_ne n13.symm, upd_ne n12.symm, upd_same] at hq4; cases hq4
      have n24 : q4 ≠ q2 := fun z => by rw [z, upd_ne n23.symm, upd_same] at hq4; cases hq4
      have n34 : q4 ≠ q3 := fun z => by rw [z, upd_same] at hq4; cases hq4
      have sA := (((same_upd (o := HO.lst [V.int 0, V.int 0, V.int 0, V.int 0]) hq1).trans (same_upd (o := HO.lst [V.int 0, V.int 0, V.int 1, V.int 1]) hq2)).trans (same_upd (o := HO.lst [V.int 0, V.int 0, V.int 2, V.int 2]) hq3)).trans (same_upd (o := HO.lst [V.int 0, V.int 1, V.int 2, V.int 3]) hq4)
      have sB := same_upd (o := HO.lst [V.ref q1, V.ref q2, V.ref q3, V.ref q4]) hp
      refine k p 4 RK.fourP _ (hT1.same (sA.trans sB)) (b1.kx.trans (Same.kx (sA.trans sB))) ⟨[q1, q2, q3, q4], rfl, upd_same, fun i r e => sB _ _ ?_⟩ (by omega) (by omega) RK.gd_four
      match i, e with
      | 0, e => cases e; rw [upd_ne n14.symm, upd_ne n13.symm, upd_ne n12.symm, upd_same]; rfl
      | 1, e => cases e; rw [upd_ne n24.symm, upd_ne n23.symm, upd_same]; rfl
      | 2, e => cases e; rw [upd_ne n34.symm, upd_same]; rfl
      | 3, e => cases e; rw [upd_same]; rfl
    walk_at "tx"
    refine ⟨h, c, 4, rfl, hT1, by decide, log2_lt (by decide), fun r H3 r0 r5 hT3 b2 => ?_⟩
    have k3 : Kx h H H3 := b1.kx.trans b2.kx
    clear hT1 b1 b2
    obtain ⟨n, en, n2, n5⟩ : ∃ n : Nat, 2 + r = n ∧ 2 ≤ n ∧ n ≤ 5 := ⟨(2 + r).toNat, by omega, by omega, by omega⟩
    have fin : ∀ {p : Addr} {M : Nat → Nat → Nat} {H' : Hp}, Same H3 H' → TabXL H' p n M → Gd n max M 0 (n - 1) → Q (.ref p) H' := fun s t w => k _ n _ _ (hT3.same s) (k3.trans (Same.kx s)) t n2 n5 w
    walk_at "tx"
    rw [en, show (n : Int) - 1 = ((n - 1 : Nat) : Int) from by omega]
    refine RD.iteD (fun c6 => ?_) (fun c6 => ?_)
    · walk_at "tx"
      walk_at "tx"
      refine ⟨n, rfl, by omega, by omega, fun D hD => ?_⟩
      refine lc_range (lo := 0) (n := (n : Int).toNat) (fun i H' => Same H3 H' ∧ RowsN H' D n i (fun a b => min a b)) ⟨same_upd hD, rowsN_zero⟩ ?_ ?_
      · rintro i H' hi' ⟨s1, r1⟩
        have hi : i < n := by omega
        walk_at "tx"
        refine ⟨n, rfl, by omega, by omega, fun D2 hD2 => ?_⟩
        refine lc_range (lo := 0) (n := (n : Int).toNat) (fun j H'' => Same H' H'' ∧ H'' D2 = some (.lst ((List.range j).map fun c => V.int (((fun a b => min a b) i c : Nat) : Int)))) ⟨same_upd hD2, upd_same⟩ ?_ ?_
        · rintro j H'' hj' ⟨s2, eD2⟩
          have hj : j < n := by omega
          walk_at "tx"
          refine ⟨_, _, rfl, ?_⟩
          exact rowPutN (g := fun c => min i c) hD2 s2 (by omega) eD2 (by congr 1; split <;> omega)
        · rintro H'' ⟨s2, eD2⟩
          rw [Int.toNat_natCast] at eD2
          exact rowsN_step hD s1 r1 hD2 s2 (by omega) eD2
      · rintro H' ⟨s1, r1⟩
        rw [Int.toNat_natCast] at r1
        walk_at "tx"
        exact fin s1 (rowsN_end r1) (RK.gd_min n2)
    · walk_at "tx"
      refine RD.iteD (fun c7 => ?_) (fun c7 => ?_)
      · walk_at "tx"
        walk_at "tx"
        refine ⟨n, rfl, by omega, by omega, fun D hD => ?_⟩
        refine lc_range (lo := 0) (n := (n : Int).toNat) (fun i H' => Same H3 H' ∧ RowsN H' D n i (RK.cutP n)) ⟨same_upd hD, rowsN_zero⟩ ?_ ?_
        · rintro i H' hi' ⟨s1, r1⟩
          have hi : i < n := by omega
          walk_at "tx"
          refine ⟨n, rfl, by omega, by omega, fun D2 hD2 => ?_⟩
          refine lc_range (lo := 0) (n := (n : Int).toNat) (fun j H'' => Same H' H'' ∧ H'' D2 = some (.lst ((List.range j).map fun c => V.int (((RK.cutP n) i c : Nat) : Int)))) ⟨same_upd hD2, upd_same⟩ ?_ ?_
          · rintro j H'' hj' ⟨s2, eD2⟩
            have hj : j < n := by omega
            walk_at "tx"
            refine ⟨_, _, rfl, ?_⟩
            exact rowPutN (g := fun c => RK.cutP n i c) hD2 s2 (by omega) eD2 (by unfold RK.cutP; congr 1; split <;> omega)
          · rintro H'' ⟨s2, eD2⟩
            rw [Int.toNat_natCast] at eD2
            exact rowsN_step hD s1 r1 hD2 s2 (by omega) eD2
        · rintro H' ⟨s1, r1⟩
          rw [Int.toNat_natCast] at r1
          walk_at "tx"
          exact fin s1 (rowsN_end r1) (RK.gd_cut n2)
      · walk_at "tx"
        walk_at "tx"
        refine ⟨n, rfl, by omega, by omega, fun D hD => ?_⟩
        refine lc_range (lo := 0) (n := (n : Int).toNat) (fun i H' => Same H3 H' ∧ RowsN H' D n i (RK.topP n)) ⟨same_upd hD, rowsN_zero⟩ ?_ ?_
        · rintro i H' hi' ⟨s1, r1⟩
          have hi : i < n := by omega
          walk_at "tx"
          refine ⟨n, rfl, by omega, by omega, fun D2 hD2 => ?_⟩
          refine lc_range (lo := 0) (n := (n : Int).toNat) (fun j H'' => Same H' H'' ∧ H'' D2 = some (.lst ((List.range j).map fun c => V.int (((RK.topP n) i c : Nat) : Int)))) ⟨same_upd hD2, upd_same⟩ ?_ ?_
          · rintro j H'' hj' ⟨s2, eD2⟩
            have hj : j < n := by omega
            walk_at "tx"
            refine ⟨_, _, rfl, ?_⟩
            walk_at "tx"
            refine RD.iteD (fun c8 => ?_) (fun c8 => ?_)
            · walk_at "tx"
              exact rowPutN (g := fun c => RK.topP n i c) hD2 s2 (by omega) eD2 (by unfold RK.topP; rw [if_pos rfl, Int.mul_one, if_pos (Or.inl (by omega : i = n - 1))]; congr 1; split <;> omega)
            · walk_at "tx"
              exact rowPutN (g := fun c => RK.topP n i c) hD2 s2 (by omega) eD2 (by unfold RK.topP; exact dcell (by omega))
          · rintro H'' ⟨s2, eD2⟩
            rw [Int.toNat_natCast] at eD2
            exact rowsN_step hD s1 r1 hD2 s2 (by omega) eD2
        · rintro H' ⟨s1, r1⟩
          rw [Int.toNat_natCast] at r1
          walk_at "tx"
          exact fin s1 (rowsN_end r1) (RK.gd_top n2)
end

/-! ### products of things -/
open OQ (TabX RowX SeqAt)
open RK (Gd Mo)
def Lt (L : List (List Nat)) (a b : Nat) : Nat := (L.getD a []).getD b 0
def rowV (n : Nat) (g : Nat → Nat) : List V := (List.range n).map fun j => V.int (g j : Nat)
/-- a table of products and the one thing, told in a tuple -/
def MonAt (H : Hp) (t : Addr) (n : Nat) (P : Nat → Nat → Nat) (o : Nat) : Prop := ∃ b : Addr, H t = some (.tup [.ref b, .int o]) ∧ TabXL H b n P
theorem MonAt.same {H H' : Hp} {t : Addr} {n o : Nat} {P : Nat → Nat → Nat} (h : MonAt H t n P o) (s : Same H H') : MonAt H' t n P o := by
  obtain ⟨b, h1, h2⟩ := h
  exact ⟨b, s _ _ h1, h2.same s⟩
theorem MonAt.kx {H H' : Hp} {h c t : Addr} {n o : Nat} {P : Nat → Nat → Nat} (m : MonAt H t n P o) (k : Kx h H H') (x : HandAt H h c) (n2 : 2 ≤ n) : MonAt H' t n P o := by
  obtain ⟨b, h1, h2⟩ := m
  refine ⟨b, k _ _ (fun z => ?_) h1, k.tabL x n2 h2⟩
  obtain ⟨cs, p, q', m, kk, e1, _⟩ := x
  subst z
  rw [h1] at e1
  cases e1
theorem mk2 {H : Hp} {q1 q2 p t : Addr} {r1 r2 : List V} {vo : V} {P : Nat → Nat → Nat} {o : Nat} (h1 : H q1 = none) (h2 : upd H q1 (.lst r1) q2 = none) (h3 : upd (upd H q1 (.lst r1)) q2 (.lst r2) p = none)
    (h4 : upd (upd (upd H q1 (.lst r1)) q2 (.lst r2)) p (.lst [.ref q1, .ref q2]) t = none) (eo : vo = .int (o : Nat)) (e1 : r1 = rowV 2 (P 0)) (e2 : r2 = rowV 2 (P 1)) :
    MonAt (upd (upd (upd (upd H q1 (.lst r1)) q2 (.lst r2)) p (.lst [.ref q1, .ref q2])) t (.tup [.ref p, vo])) t 2 P o ∧ Same H (upd (upd (upd (upd H q1 (.lst r1)) q2 (.lst r2)) p (.lst [.ref q1, .ref q2])) t (.tup [.ref p, vo])) := by
  have s4 := same_upd (o := HO.tup [V.ref p, vo]) h4
  have s3 := same_upd (o := HO.lst [V.ref q1, V.ref q2]) h3
  have s2 := same_upd (o := HO.lst r2) h2
  have s1 := same_upd (o := HO.lst r1) h1
  refine ⟨⟨p, by rw [upd_same, eo], [q1, q2], rfl, s4 _ _ upd_same, fun i r e => s4 _ _ (s3 _ _ ?_)⟩, ((s1.trans s2).trans s3).trans s4⟩
  match i, e with
  | 0, e => cases e; exact s2 _ _ (by rw [upd_same, e1]; rfl)
  | 1, e => cases e; rw [upd_same, e2]; rfl
theorem mk3 {H : Hp} {q1 q2 q3 p t : Addr} {r1 r2 r3 : List V} {vo : V} {P : Nat → Nat → Nat} {o : Nat} (h1 : H q1 = none) (h2 : upd H q1 (.lst r1) q2 = none) (h3 : upd (upd H q1 (.lst r1)) q2 (.lst r2) q3 = none)
    (h4 : upd (upd (upd H q1 (.lst r1)) q2 (.lst r2)) q3 (.lst r3) p = none) (h5 : upd (upd (upd (upd H q1 (.lst r1)) q2 (.lst r2)) q3 (.lst r3)) p (.lst [.ref q1, .ref q2, .ref q3]) t = none) (eo : vo = .int (o : Nat)) (e1 : r1 = rowV 3 (P 0)) (e2 : r2 = rowV 3 (P 1)) (e3 : r3 = rowV 3 (P 2)) :
    MonAt (upd (upd (upd (upd (upd H q1 (.lst r1)) q2 (.lst r2)) q3 (.lst r3)) p (.lst [.ref q1, .ref q2, .ref q3])) t (.tup [.ref p, vo])) t 3 P o ∧ Same H (upd (upd (upd (upd (upd H q1 (.lst r1)) q2 (.lst r2)) q3 (.lst r3)) p (.lst [.ref q1, .ref q2, .ref q3])) t (.tup [.ref p, vo])) := by
  have s5 := same_upd (o := HO.tup [V.ref p, vo]) h5
  have s4 := same_upd (o := HO.lst [V.ref q1, V.ref q2, V.ref q3]) h4
  have s3 := same_upd (o := HO.lst r3) h3
  have s2 := same_upd (o := HO.lst r2) h2
  have s1 := same_upd (o := HO.lst r1) h1
  refine ⟨⟨p, by rw [upd_same, eo], [q1, q2, q3], rfl, s5 _ _ upd_same, fun i r e => s5 _ _ (s4 _ _ ?_)⟩, (((s1.trans s2).trans s3).trans s4).trans s5⟩
  match i, e with
  | 0, e => cases e; exact s3 _ _ (s2 _ _ (by rw [upd_same, e1]; rfl))
  | 1, e => cases e; exact s3 _ _ (by rw [upd_same, e2]; rfl)
  | 2, e => cases e; rw [upd_same, e3]; rfl
theorem mo_ofB {n o : Nat} {P : Nat → Nat → Nat} (on : o < n) (pn : ∀ a, a < n → ∀ b, b < n → P a b < n) (om : ∀ a, a < n → P o a = a ∧ P a o = a) (as : ∀ a, a < n → ∀ b, b < n → ∀ c, c < n → P (P a b) c = P a (P b c)) : Mo n P o :=
  ⟨on, fun a b ha hb => pn a ha b hb, om, fun a b c ha hb hc => as a ha b hb c hc⟩
def spMon : Sp := fun vs H Q _ => ∃ (h c : Addr), vs = [.ref h] ∧ HandAt H h c ∧ ∀ (t : Addr) (n : Nat) (P : Nat → Nat → Nat) (o : Nat) (H' : Hp), HandAt H' h c → Kx h H H' → MonAt H' t n P o → 2 ≤ n → n ≤ 3 → Mo n P o → Q (.ref t) H'
section
variable {P : Program} {w : World} {K : PySem.W.Frag} {mg : Str → Option Value} {base : Heap}
theorem ok_law_monoid (T : Top K mg) : FnOk P w K mg base CX0 2 T.f_law_monoid T.fd_law_monoid ["hand"] spMon := by
  refine T.F_law_monoid.ok sc_law_monoid (fun vs H Q E h => ?_) (fun cdv A outer s H vs Q E hr h => ?_)
  · obtain ⟨h, c, rfl, _⟩ := h; rfl
  · obtain ⟨h, c, rfl, hT, k⟩ := h
    refine ⟨_, (pss_cons (ps_set (i := 1) sc_law_monoid.nd rfl (Or.inl rfl) (pe_lst (pa_cons (pe_tup (pa_cons (pe_lst (pa_cons (pe_lst (pa_cons pe_int (pa_cons pe_int pa_nil))) (pa_cons (pe_lst (pa_cons pe_int (pa_cons pe_int pa_nil))) pa_nil))) (pa_cons pe_int pa_nil))) (pa_cons (pe_tup (pa_cons (pe_lst (pa_cons (pe_lst (pa_cons pe_int (pa_cons pe_int pa_nil))) (pa_cons (pe_lst (pa_cons pe_int (pa_cons pe_int pa_nil))) pa_nil))) (pa_cons pe_int pa_nil))) (pa_cons (pe_tup (pa_cons (pe_lst (pa_cons (pe_lst (pa_cons pe_int (pa_cons pe_int pa_nil))) (pa_cons (pe_lst (pa_cons pe_int (pa_cons pe_int pa_nil))) pa_nil))) (pa_cons pe_int pa_nil))) pa_nil)))))
 (pss_cons (ps_set (i := 1) sc_law_monoid.nd rfl (Or.inl rfl) (pe_op op_cat (pv 1) (pe_lst (pa_cons (pe_tup (pa_cons (pe_lst (pa_cons (pe_lst (pa_cons pe_int (pa_cons pe_int (pa_cons pe_int pa_nil)))) (pa_cons (pe_lst (pa_cons pe_int (pa_cons pe_int (pa_cons pe_int pa_nil)))) (pa_cons (pe_lst (pa_cons pe_int (pa_cons pe_int (pa_cons pe_int pa_nil)))) pa_nil)))) (pa_cons pe_int pa_nil))) (pa_cons (pe_tup (pa_cons (pe_lst (pa_cons (pe_lst (pa_cons pe_int (pa_cons pe_int (pa_cons pe_int pa_nil)))) (pa_cons (pe_lst (pa_cons pe_int (pa_cons pe_int (pa_cons pe_int pa_nil)))) (pa_cons (pe_lst (pa_cons pe_int (pa_cons pe_int (pa_cons pe_int pa_nil)))) pa_nil)))) (pa_cons pe_int pa_nil))) pa_nil)))))
 (pss_cons (ps_set (i := 1) sc_law_monoid.nd rfl (Or.inl rfl) (pe_op op_cat (pv 1) (pe_lst (pa_cons (pe_tup (pa_cons (pe_lst (pa_cons (pe_lst (pa_cons pe_int (pa_cons pe_int (pa_cons pe_int pa_nil)))) (pa_cons (pe_lst (pa_cons pe_int (pa_cons pe_int (pa_cons pe_int pa_nil)))) (pa_cons (pe_lst (pa_cons pe_int (pa_cons pe_int (pa_cons pe_int pa_nil)))) pa_nil)))) (pa_cons pe_int pa_nil))) (pa_cons (pe_tup (pa_cons (pe_lst (pa_cons (pe_lst (pa_cons pe_int (pa_cons pe_int (pa_cons pe_int pa_nil)))) (pa_cons (pe_lst (pa_cons pe_int (pa_cons pe_int (pa_cons pe_int pa_nil)))) (pa_cons (pe_lst (pa_cons pe_int (pa_cons pe_int (pa_cons pe_int pa_nil)))) pa_nil)))) (pa_cons pe_int pa_nil))) pa_nil)))))
 (pss_one (ps_ret (pe_ix ix_list (pv 1) (pe_call (ok_law_draw T) (hr.mono (by decide)) (by rfl) T.g_law_draw T.F_law_draw.kp T.b_law_draw .nil pass0 (pa_cons (pv 0) (pa_cons pe_int pa_nil))) (fun _ _ => rfl))))))), ?_⟩
    walk_at "tx"
    have sH : Same H H := Same.refl _
    refine ⟨by show 2 ≤ sizeLine; decide, fun q0_0 hq0_0 => ?_⟩
    walk_at "tx"
    refine ⟨by show 2 ≤ sizeLine; decide, fun q0_1 hq0_1 => ?_⟩
    walk_at "tx"
    refine ⟨by show 2 ≤ sizeLine; decide, fun p0 hp0 => ?_⟩
    walk_at "tx"
    refine ⟨by show 2 ≤ sizeLine; decide, fun t0 ht0 => ?_⟩
    obtain ⟨m0, s0⟩ := mk2 (P := Lt [[0, 1], [1, 1]]) (o := 0) hq0_0 hq0_1 hp0 ht0 rfl rfl rfl
    clear hq0_0 hq0_1 hp0 ht0
    replace sH := sH.trans s0
    generalize upd (upd (upd (upd H q0_0 (.lst [.int 0, .int 1])) q0_1 (.lst [.int 1, .int 1])) p0 (.lst [.ref q0_0, .ref q0_1])) t0 (.tup [.ref p0, .int 0]) = H1 at *
    clear s0
    walk_at "tx"
    refine ⟨by show 2 ≤ sizeLine; decide, fun q1_0 hq1_0 => ?_⟩
    walk_at "tx"
    refine ⟨by show 2 ≤ sizeLine; decide, fun q1_1 hq1_1 => ?_⟩
    walk_at "tx"
    refine ⟨by show 2 ≤ sizeLine; decide, fun p1 hp1 => ?_⟩
    walk_at "tx"
    refine ⟨by show 2 ≤ sizeLine; decide, fun t1 ht1 => ?_⟩
    obtain ⟨m1, s1⟩ := mk2 (P := Lt [[0, 1], [1, 0]]) (o := 0) hq1_0 hq1_1 hp1 ht1 rfl rfl rfl
    clear hq1_0 hq1_1 hp1 ht1
    replace m0 := m0.same s1
    replace sH := sH.trans s1
    generalize upd (upd (upd (upd H1 q1_0 (.lst [.int 0, .int 1])) q1_1 (.lst [.int 1, .int 0])) p1 (.lst [.ref q1_0, .ref q1_1])) t1 (.tup [.ref p1, .int 0]) = H2 at *
    clear s1
    walk_at "tx"
    refine ⟨by show 2 ≤ sizeLine; decide, fun q2_0 hq2_0 => ?_⟩
    walk_at "tx"
    refine ⟨by show 2 ≤ sizeLine; decide, fun q2_1 hq2_1 => ?_⟩
    walk_at "tx"
    refine ⟨by show 2 ≤ sizeLine; decide, fun p2 hp2 => ?_⟩
    walk_at "tx"
    refine ⟨by show 2 ≤ sizeLine; decide, fun t2 ht2 => ?_⟩
    obtain ⟨m2, s2⟩ := mk2 (P := Lt [[0, 0], [0, 1]]) (o := 1) hq2_0 hq2_1 hp2 ht2 rfl rfl rfl
    clear hq2_0 hq2_1 hp2 ht2
    replace m0 := m0.same s2
    replace m1 := m1.same s2
    replace sH := sH.trans s2
    generalize upd (upd (upd (upd H2 q2_0 (.lst [.int 0, .int 0])) q2_1 (.lst [.int 0, .int 1])) p2 (.lst [.ref q2_0, .ref q2_1])) t2 (.tup [.ref p2, .int 1]) = H3 at *
    clear s2
    walk_at "tx"
    refine ⟨by show 3 ≤ sizeLine; decide, fun l0 hl0 => ?_⟩
    have sl0 := same_upd (o := HO.lst [.ref t0, .ref t1, .ref t2]) hl0
    have el0 : upd H3 l0 (.lst [.ref t0, .ref t1, .ref t2]) l0 = some (.lst [.ref t0, .ref t1, .ref t2]) := upd_same
    replace m0 := m0.same sl0
    replace m1 := m1.same sl0
    replace m2 := m2.same sl0
    replace sH := sH.trans sl0
    generalize upd H3 l0 (.lst [.ref t0, .ref t1, .ref t2]) = H4 at *
    clear sl0 hl0
    walk_at "tx"
    refine ⟨by show 3 ≤ sizeLine; decide, fun q3_0 hq3_0 => ?_⟩
    walk_at "tx"
    refine ⟨by show 3 ≤ sizeLine; decide, fun q3_1 hq3_1 => ?_⟩
    walk_at "tx"
    refine ⟨by show 3 ≤ sizeLine; decide, fun q3_2 hq3_2 => ?_⟩
    walk_at "tx"
    refine ⟨by show 3 ≤ sizeLine; decide, fun p3 hp3 => ?_⟩
    walk_at "tx"
    refine ⟨by show 2 ≤ sizeLine; decide, fun t3 ht3 => ?_⟩
    obtain ⟨m3, s3⟩ := mk3 (P := Lt [[0, 1, 2], [1, 1, 1], [2, 2, 2]]) (o := 0) hq3_0 hq3_1 hq3_2 hp3 ht3 rfl rfl rfl rfl
    clear hq3_0 hq3_1 hq3_2 hp3 ht3
    replace m0 := m0.same s3
    replace m1 := m1.same s3
    replace m2 := m2.same s3
    replace el0 := s3 _ _ el0
    replace sH := sH.trans s3
    generalize upd (upd (upd (upd (upd H4 q3_0 (.lst [.int 0, .int 1, .int 2])) q3_1 (.lst [.int 1, .int 1, .int 1])) q3_2 (.lst [.int 2, .int 2, .int 2])) p3 (.lst [.ref q3_0, .ref q3_1, .ref q3_2])) t3 (.tup [.ref p3, .int 0]) = H5 at *
    clear s3
    walk_at "tx"
    refine ⟨by show 3 ≤ sizeLine; decide, fun q4_0 hq4_0 => ?_⟩
    walk_at "tx"
    refine ⟨by show 3 ≤ sizeLine; decide, fun q4_1 hq4_1 => ?_⟩
    walk_at "tx"
    refine ⟨by show 3 ≤ sizeLine; decide, fun q4_2 hq4_2 => ?_⟩
    walk_at "tx"
    refine ⟨by show 3 ≤ sizeLine; decide, fun p4 hp4 => ?_⟩
    walk_at "tx"
    refine ⟨by show 2 ≤ sizeLine; decide, fun t4 ht4 => ?_⟩
    obtain ⟨m4, s4⟩ := mk3 (P := Lt [[0, 1, 2], [1, 1, 2], [2, 1, 2]]) (o := 0) hq4_0 hq4_1 hq4_2 hp4 ht4 rfl rfl rfl rfl
    clear hq4_0 hq4_1 hq4_2 hp4 ht4
    replace m0 := m0.same s4
    replace m1 := m1.same s4
    replace m2 := m2.same s4
    replace m3 := m3.same s4
    replace el0 := s4 _ _ el0
    replace sH := sH.trans s4
    generalize upd (upd (upd (upd (upd H5 q4_0 (.lst [.int 0, .int 1, .int 2])) q4_1 (.lst [.int 1, .int 1, .int 2])) q4_2 (.lst [.int 2, .int 1, .int 2])) p4 (.lst [.ref q4_0, .ref q4_1, .ref q4_2])) t4 (.tup [.ref p4, .int 0]) = H6 at *
    clear s4
    walk_at "tx"
    refine ⟨by show 2 ≤ sizeLine; decide, fun l1 hl1 => ?_⟩
    have sl1 := same_upd (o := HO.lst [.ref t3, .ref t4]) hl1
    have el1 : upd H6 l1 (.lst [.ref t3, .ref t4]) l1 = some (.lst [.ref t3, .ref t4]) := upd_same
    replace m0 := m0.same sl1
    replace m1 := m1.same sl1
    replace m2 := m2.same sl1
    replace m3 := m3.same sl1
    replace m4 := m4.same sl1
    replace el0 := sl1 _ _ el0
    replace sH := sH.trans sl1
    generalize upd H6 l1 (.lst [.ref t3, .ref t4]) = H7 at *
    clear sl1 hl1
    refine ⟨l0, l1, _, _, rfl, rfl, el0, el1, by show 5 ≤ sizeLine; decide, fun z1 hz1 => ?_⟩
    have sz1 := same_upd (o := HO.lst [.ref t0, .ref t1, .ref t2, .ref t3, .ref t4]) hz1
    have ez1 : upd H7 z1 (.lst [.ref t0, .ref t1, .ref t2, .ref t3, .ref t4]) z1 = some (.lst [.ref t0, .ref t1, .ref t2, .ref t3, .ref t4]) := upd_same
    change _ at sz1
    replace m0 := m0.same sz1
    replace m1 := m1.same sz1
    replace m2 := m2.same sz1
    replace m3 := m3.same sz1
    replace m4 := m4.same sz1
    replace sH := sH.trans sz1
    simp only [List.cons_append, List.nil_append]
    generalize upd H7 z1 (.lst [.ref t0, .ref t1, .ref t2, .ref t3, .ref t4]) = H8 at *
    clear sz1 hz1 el1 el0
    walk_at "tx"
    refine ⟨by show 3 ≤ sizeLine; decide, fun q5_0 hq5_0 => ?_⟩
    walk_at "tx"
    refine ⟨by show 3 ≤ sizeLine; decide, fun q5_1 hq5_1 => ?_⟩
    walk_at "tx"
    refine ⟨by show 3 ≤ sizeLine; decide, fun q5_2 hq5_2 => ?_⟩
    walk_at "tx"
    refine ⟨by show 3 ≤ sizeLine; decide, fun p5 hp5 => ?_⟩
    walk_at "tx"
    refine ⟨by show 2 ≤ sizeLine; decide, fun t5 ht5 => ?_⟩
    obtain ⟨m5, s5⟩ := mk3 (P := Lt [[0, 0, 0], [0, 1, 2], [2, 2, 2]]) (o := 1) hq5_0 hq5_1 hq5_2 hp5 ht5 rfl rfl rfl rfl
    clear hq5_0 hq5_1 hq5_2 hp5 ht5
    replace m0 := m0.same s5
    replace m1 := m1.same s5
    replace m2 := m2.same s5
    replace m3 := m3.same s5
    replace m4 := m4.same s5
    replace ez1 := s5 _ _ ez1
    replace sH := sH.trans s5
    generalize upd (upd (upd (upd (upd H8 q5_0 (.lst [.int 0, .int 0, .int 0])) q5_1 (.lst [.int 0, .int 1, .int 2])) q5_2 (.lst [.int 2, .int 2, .int 2])) p5 (.lst [.ref q5_0, .ref q5_1, .ref q5_2])) t5 (.tup [.ref p5, .int 1]) = H9 at *
    clear s5
    walk_at "tx"
    refine ⟨by show 3 ≤ sizeLine; decide, fun q6_0 hq6_0 => ?_⟩
    walk_at "tx"
    refine ⟨by show 3 ≤ sizeLine; decide, fun q6_1 hq6_1 => ?_⟩
    walk_at "tx"
    refine ⟨by show 3 ≤ sizeLine; decide, fun q6_2 hq6_2 => ?_⟩
    walk_at "tx"
    refine ⟨by show 3 ≤ sizeLine; decide, fun p6 hp6 => ?_⟩
    walk_at "tx"
    refine ⟨by show 2 ≤ sizeLine; decide, fun t6 ht6 => ?_⟩
    obtain ⟨m6, s6⟩ := mk3 (P := Lt [[0, 1, 2], [1, 2, 0], [2, 0, 1]]) (o := 0) hq6_0 hq6_1 hq6_2 hp6 ht6 rfl rfl rfl rfl
    clear hq6_0 hq6_1 hq6_2 hp6 ht6
    replace m0 := m0.same s6
    replace m1 := m1.same s6
    replace m2 := m2.same s6
    replace m3 := m3.same s6
    replace m4 := m4.same s6
    replace m5 := m5.same s6
    replace ez1 := s6 _ _ ez1
    replace sH := sH.trans s6
    generalize upd (upd (upd (upd (upd H9 q6_0 (.lst [.int 0, .int 1, .int 2])) q6_1 (.lst [.int 1, .int 2, .int 0])) q6_2 (.lst [.int 2, .int 0, .int 1])) p6 (.lst [.ref q6_0, .ref q6_1, .ref q6_2])) t6 (.tup [.ref p6, .int 0]) = H10 at *
    clear s6
    walk_at "tx"
    refine ⟨by show 2 ≤ sizeLine; decide, fun l2 hl2 => ?_⟩
    have sl2 := same_upd (o := HO.lst [.ref t5, .ref t6]) hl2
    have el2 : upd H10 l2 (.lst [.ref t5, .ref t6]) l2 = some (.lst [.ref t5, .ref t6]) := upd_same
    replace m0 := m0.same sl2
    replace m1 := m1.same sl2
    replace m2 := m2.same sl2
    replace m3 := m3.same sl2
    replace m4 := m4.same sl2
    replace m5 := m5.same sl2
    replace m6 := m6.same sl2
    replace ez1 := sl2 _ _ ez1
    replace sH := sH.trans sl2
    generalize upd H10 l2 (.lst [.ref t5, .ref t6]) = H11 at *
    clear sl2 hl2
    refine ⟨z1, l2, _, _, rfl, rfl, ez1, el2, by show 7 ≤ sizeLine; decide, fun z2 hz2 => ?_⟩
    have sz2 := same_upd (o := HO.lst [.ref t0, .ref t1, .ref t2, .ref t3, .ref t4, .ref t5, .ref t6]) hz2
    have ez2 : upd H11 z2 (.lst [.ref t0, .ref t1, .ref t2, .ref t3, .ref t4, .ref t5, .ref t6]) z2 = some (.lst [.ref t0, .ref t1, .ref t2, .ref t3, .ref t4, .ref t5, .ref t6]) := upd_same
    change _ at sz2
    replace m0 := m0.same sz2
    replace m1 := m1.same sz2
    replace m2 := m2.same sz2
    replace m3 := m3.same sz2
    replace m4 := m4.same sz2
    replace m5 := m5.same sz2
    replace m6 := m6.same sz2
    replace sH := sH.trans sz2
    simp only [List.cons_append, List.nil_append]
    generalize upd H11 z2 (.lst [.ref t0, .ref t1, .ref t2, .ref t3, .ref t4, .ref t5, .ref t6]) = H12 at *
    clear sz2 hz2 el2 ez1
    walk_at "tx"
    have hT2 := hT.same sH
    refine ⟨h, c, 7, rfl, hT2, by decide, log2_lt (by decide), fun r Hz r0 r7 hTz bz => ?_⟩
    obtain ⟨r, rfl⟩ := Int.eq_ofNat_of_zero_le r0
    have kz := But.kx bz
    have ez := kz _ _ (fun z => by
      obtain ⟨cs, p, q', m, kk, e1, _⟩ := hT2
      rw [z, e1] at ez2
      cases ez2) ez2
    obtain ⟨t, n, P, o, et, mt, n2, n3, mo⟩ : ∃ t n P o, [V.ref t0, V.ref t1, V.ref t2, V.ref t3, V.ref t4, V.ref t5, V.ref t6][r]? = some (V.ref t) ∧ MonAt Hz t n P o ∧ 2 ≤ n ∧ n ≤ 3 ∧ Mo n P o := by
      have : r < 7 := by omega
      match r, this with
      | 0, _ => exact ⟨t0, 2, _, 0, rfl, m0.kx kz hT2 (by omega), by omega, by omega, mo_ofB (by decide) (by decide) (by decide) (by decide)⟩
      | 1, _ => exact ⟨t1, 2, _, 0, rfl, m1.kx kz hT2 (by omega), by omega, by omega, mo_ofB (by decide) (by decide) (by decide) (by decide)⟩
      | 2, _ => exact ⟨t2, 2, _, 1, rfl, m2.kx kz hT2 (by omega), by omega, by omega, mo_ofB (by decide) (by decide) (by decide) (by decide)⟩
      | 3, _ => exact ⟨t3, 3, _, 0, rfl, m3.kx kz hT2 (by omega), by omega, by omega, mo_ofB (by decide) (by decide) (by decide) (by decide)⟩
      | 4, _ => exact ⟨t4, 3, _, 0, rfl, m4.kx kz hT2 (by omega), by omega, by omega, mo_ofB (by decide) (by decide) (by decide) (by decide)⟩
      | 5, _ => exact ⟨t5, 3, _, 1, rfl, m5.kx kz hT2 (by omega), by omega, by omega, mo_ofB (by decide) (by decide) (by decide) (by decide)⟩
      | 6, _ => exact ⟨t6, 3, _, 0, rfl, m6.kx kz hT2 (by omega), by omega, by omega, mo_ofB (by decide) (by decide) (by decide) (by decide)⟩
    walk_at "tx"
    refine RD.d_ixL (SqL.of ez) (atI_nat et) ?_
    exact k t n P o Hz hTz ((Same.kx sH).trans kz) mt n2 n3 mo
end

/-! ### lots of things -/
open OQ (TabX RowX SeqAt)
open RK (Gd Mo lotP Lb)
theorem bit_odd {a x : Nat} : (((a / 2 ^ x % 2 : Nat) : Int) = 1) ↔ a.testBit x = true := by
  rw [Nat.testBit_eq_decide_div_mod_eq, decide_eq_true_eq]
  omega
theorem shr_nat {a i : Nat} : V.int ((a : Int) / 2 ^ ((0 : Int) + i).toNat) = V.int ((a / 2 ^ i : Nat) : Int) := by
  rw [Int.zero_add, Int.toNat_natCast, Int.natCast_ediv, Int.natCast_pow]; rfl
theorem bor {f p : Nat} : Builtin.bitOr (f : Int) (1 * 2 ^ ((p : Nat) : Int).toNat) = ((f ||| 2 ^ p : Nat) : Int) := by
  have e : (1 : Int) * 2 ^ ((p : Nat) : Int).toNat = ((2 ^ p : Nat) : Int) := by rw [Int.one_mul, Int.toNat_natCast, Int.natCast_pow]; rfl
  rw [e, bitOr_nn (Int.natCast_nonneg _) (Int.natCast_nonneg _), Int.toNat_natCast, Int.toNat_natCast]
/-- what is found while the pairs behind (i, j) are still to come -/
def Lp (n : Nat) (P : Nat → Nat → Nat) (a c i j f : Nat) : Prop := ∀ z, f.testBit z = true ↔ ∃ x y, (x < i ∨ (x = i ∧ y < j)) ∧ x < n ∧ y < n ∧ a.testBit x = true ∧ c.testBit y = true ∧ P x y = z
theorem Lp.zero {n : Nat} {P : Nat → Nat → Nat} {a c : Nat} : Lp n P a c 0 0 0 := fun z => by
  constructor
  · intro h; simp at h
  · rintro ⟨x, y, h, _⟩; omega
theorem Lp.next {n : Nat} {P : Nat → Nat → Nat} {a c i f : Nat} (h : Lp n P a c i n f) : Lp n P a c (i + 1) 0 f := fun z => by
  rw [h z]
  constructor
  · rintro ⟨x, y, h1, h2, h3, h4⟩; exact ⟨x, y, by omega, h2, h3, h4⟩
  · rintro ⟨x, y, h1, h2, h3, h4⟩; exact ⟨x, y, by omega, h2, h3, h4⟩
theorem Lp.end {n : Nat} {P : Nat → Nat → Nat} {a c f : Nat} (h : Lp n P a c n 0 f) : f = lotP n P a c := RK.bits_eq fun z => by
  rw [h z, RK.lot_bit]
  constructor
  · rintro ⟨x, y, h1, h2, h3, h4⟩; exact ⟨x, y, h2, h3, h4⟩
  · rintro ⟨x, y, h2, h3, h4⟩; exact ⟨x, y, by omega, h2, h3, h4⟩
theorem Lp.no {n : Nat} {P : Nat → Nat → Nat} {a c i j f : Nat} (h : Lp n P a c i j f) (b : ¬ (a.testBit i = true ∧ c.testBit j = true)) : Lp n P a c i (j + 1) f := fun z => by
  rw [h z]
  constructor
  · rintro ⟨x, y, h1, h2, h3, h4⟩; exact ⟨x, y, by omega, h2, h3, h4⟩
  · rintro ⟨x, y, h1, h2, h3, h4⟩
    refine ⟨x, y, ?_, h2, h3, h4⟩
    by_cases e : x = i ∧ y = j
    · exact absurd (by rw [← e.1, ← e.2]; exact ⟨h4.1, h4.2.1⟩) b
    · omega
theorem Lp.yes {n : Nat} {P : Nat → Nat → Nat} {a c i j f : Nat} (h : Lp n P a c i j f) (hi : i < n) (hj : j < n) (b1 : a.testBit i = true) (b2 : c.testBit j = true) : Lp n P a c i (j + 1) (f ||| 2 ^ P i j) := fun z => by
  rw [Nat.testBit_or, Bool.or_eq_true, h z, Nat.testBit_two_pow, decide_eq_true_eq]
  constructor
  · rintro (⟨x, y, h1, h2, h3, h4⟩ | e)
    · exact ⟨x, y, by omega, h2, h3, h4⟩
    · exact ⟨i, j, by omega, hi, hj, b1, b2, e⟩
  · rintro ⟨x, y, h1, h2, h3, h4⟩
    by_cases e : x = i ∧ y = j
    · right; rw [← e.1, ← e.2]; exact h4.2.2
    · exact .inl ⟨x, y, by omega, h2, h3, h4⟩
theorem shl1 {n : Nat} : (1 : Int) * 2 ^ ((n : Nat) : Int).toNat = ((2 ^ n : Nat) : Int) := by rw [Int.one_mul, Int.toNat_natCast, Int.natCast_pow]; rfl
theorem rI_sh {n : Nat} {H : Hp} {Q : VK} (h : n ≤ 1000000) (k : Q (.int ((2 ^ n : Nat) : Int)) H) : rI CPow (fun i j => .int (i * 2 ^ j.toNat)) (.int 1) (.int ((n : Nat) : Int)) H Q := ⟨1, ((n : Nat) : Int), rfl, rfl, ⟨by omega, by omega, by decide⟩, by show Q (.int (1 * 2 ^ ((n : Nat) : Int).toNat)) H; rw [shl1]; exact k⟩

/-! ### lots of things -/
open OQ (TabX RowX SeqAt)
open RK (Gd Mo lotP Lb Fl FltAt)
def spProd (K : PySem.W.Frag) : Sp := fun vs H Q _ => ∃ (b : Addr) (n a c : Nat) (P : Nat → Nat → Nat), vs = [.ref b, .int a, .int c] ∧ TabX K H b n P ∧ n ≤ 4 ∧ (∀ x y, x < n → y < n → P x y < n) ∧ ∀ H', Same H H' → Q (.int (lotP n P a c : Nat)) H'
/-- the fault of products and one -/
def lotB (dp dn : PyData) : Bool := match RK.rowsOf dp with
  | some ds => decide (1 ≤ ds.length ∧ ds.length ≤ 4) && (RK.squareB ds.length dp && RK.belowB ds.length dn)
  | none => false
def moF (n : Nat) (P : Nat → Nat → Nat) (o : Nat) : Fl := (RK.oneF n P o).or (RK.groupF "product" n P)
def lotF (dp dn : PyData) : Fl := if lotB dp dn = true then moF (RK.cellsOf dp).length (RK.tabf dp) (RK.natOf dn) else some ("size", -1, -1, -1)
theorem lot_ok {dp dn : PyData} (h : lotB dp dn = true) : 1 ≤ (RK.cellsOf dp).length ∧ (RK.cellsOf dp).length ≤ 4 ∧ RK.squareB (RK.cellsOf dp).length dp = true ∧ RK.belowB (RK.cellsOf dp).length dn = true := by
  unfold lotB at h
  split at h
  · rename_i ds e
    have ec : RK.cellsOf dp = ds := by unfold RK.cellsOf; rw [e]; rfl
    simp only [Bool.and_eq_true, decide_eq_true_eq] at h
    rw [ec]
    exact ⟨h.1.1, h.1.2, h.2.1, h.2.2⟩
  · cases h
theorem mo_of {n : Nat} {P : Nat → Nat → Nat} {o : Nat} (on : o < n) (pn : ∀ a b, a < n → b < n → P a b < n) (h : moF n P o = none) : Mo n P o := by
  unfold moF at h
  rw [Option.or_eq_none_iff] at h
  refine ⟨on, pn, fun a ha => ?_, fun a b c ha hb hc => ?_⟩
  · have := List.findSome?_eq_none_iff.mp h.1 a (List.mem_range.mpr ha)
    exact RK.of_ite this
  · have h1 := List.findSome?_eq_none_iff.mp h.2 a (List.mem_range.mpr ha)
    have h2 := List.findSome?_eq_none_iff.mp h1 b (List.mem_range.mpr hb)
    exact RK.of_ite (List.findSome?_eq_none_iff.mp h2 c (List.mem_range.mpr hc))
theorem tru_bit {a i : Nat} : (((a / 2 ^ i % 2 : Nat) : Int) != 0) = a.testBit i := by
  rw [Nat.testBit_eq_decide_div_mod_eq, Bool.eq_iff_iff, bne_iff_ne, decide_eq_true_eq]
  omega
section
variable {P : Program} {w : World} {K : PySem.W.Frag} {mg : Str → Option Value} {base : Heap}
theorem ok_product_of_lots (T : Top K mg) : FnOk P w K mg base CX0 1 T.f_product_of_lots T.fd_product_of_lots ["products", "a", "b"] (spProd K) := by
  refine T.F_product_of_lots.ok sc_product_of_lots (fun vs H Q E h => ?_) (fun cdv A outer s H vs Q E hr h => ?_)
  · obtain ⟨b, n, a, c, P, rfl, _⟩ := h; rfl
  · obtain ⟨b, n, a, c, P, rfl, tb, n4, pn, k⟩ := h
    refine ⟨_, (pss_cons (ps_set (i := 3) sc_product_of_lots.nd rfl (Or.inl rfl) (pe_callTy OQ.cr_range1 (by rfl) T.n_range (by decide +kernel) (pa_cons (pe_callB RD.c_len (by rfl) T.n_len (by decide +kernel) (pa_cons (pv 0) pa_nil)) pa_nil)))
 (pss_cons (ps_set (i := 4) sc_product_of_lots.nd rfl (Or.inl rfl) pe_int)
 (pss_cons (ps_for PassesOwn.never rfl (OQ.pi_rngV (pv 3)) (pg_name (i := 5) sc_product_of_lots.nd rfl (Or.inl rfl))
 (pss_one (ps_for PassesOwn.never rfl (OQ.pi_rngV (pv 3)) (pg_name (i := 6) sc_product_of_lots.nd rfl (Or.inl rfl))
 (pss_one (ps_if (PW.pt (pw_and (pt_truth (pe_op op_odd (pe_op op_shr (pv 1) (pv 5)) pe_int) (fun _ => rfl)) (pw_and1 (pt_truth (pe_op op_odd (pe_op op_shr (pv 2) (pv 6)) pe_int) (fun _ => rfl)))))
 (pss_one (ps_set (i := 4) sc_product_of_lots.nd rfl (Or.inl rfl) (pe_op op_or (pv 4) (pe_op op_shl pe_int (pe_ix OQ.ix_seq (pe_ix OQ.ix_seq (pv 0) (pv 5) (fun _ _ => rfl)) (pv 6) (fun _ _ => rfl))))))
 pss_nil)))))
 (pss_one (ps_ret (pv 4)))))), ?_⟩
    walk_at "tx"
    refine tb.len ?_
    refine ⟨n, rfl, fun p hp => ?_⟩
    have sp := same_upd (o := HO.rng 0 n) hp
    have ep : upd H p (.rng 0 n) p = some (.rng 0 n) := upd_same
    replace tb := tb.same sp
    generalize upd H p (.rng 0 n) = H0 at *
    walk_at "tx"
    refine ⟨p, 0, n, rfl, ep, by omega, ?_⟩
    refine RD.f_range (lo := 0) (n := ((n : Int) - 0).toNat) (fun i σ' H' => H' = H0 ∧ ∃ (f : Nat) (v5 v6 : Option V), σ' = [some (.ref b), some (.int a), some (.int c), some (.ref p), some (.int f), v5, v6] ∧ Lp n P a c i 0 f) ⟨rfl, 0, _, _, rfl, .zero⟩ ?_ ?_
    · rintro i σ' H' hi' ⟨rfl, f, v5, v6, rfl, lp⟩
      have hi : i < n := by omega
      walk_at "tx"
      refine ⟨p, 0, n, rfl, ep, by omega, ?_⟩
      refine RD.f_range (lo := 0) (n := ((n : Int) - 0).toNat) (fun j σ' H'' => H'' = H' ∧ ∃ (f : Nat) (v6 : Option V), σ' = [some (.ref b), some (.int a), some (.int c), some (.ref p), some (.int f), some (.int (0 + i)), v6] ∧ Lp n P a c i j f) ⟨rfl, f, _, rfl, lp⟩ ?_ ?_
      · rintro j σ' H'' hj' ⟨rfl, f, v6, rfl, lp⟩
        have hj : j < n := by omega
        walk_at "tx"
        refine ⟨_, _, rfl, rfl, by omega, ?_⟩
        walk_at "tx"
        refine ⟨a / 2 ^ i, shr_nat, rfl, ?_⟩
        refine ⟨_, rfl, ?_⟩
        rw [tru_bit]
        cases b1 : a.testBit i with
        | false =>
          refine RD.d_iteF ?_
          walk_at "tx"
          exact ⟨rfl, f, _, rfl, lp.no fun z => by rw [b1] at z; cases z.1⟩
        | true =>
          refine RD.d_iteT ?_
          walk_at "tx"
          refine ⟨_, _, rfl, rfl, by omega, ?_⟩
          walk_at "tx"
          refine ⟨c / 2 ^ j, shr_nat, rfl, ?_⟩
          refine ⟨_, rfl, ?_⟩
          rw [tru_bit]
          cases b2 : c.testBit j with
          | false =>
            refine RD.d_iteF ?_
            walk_at "tx"
            exact ⟨rfl, f, _, rfl, lp.no fun z => by rw [b2] at z; cases z.2⟩
          | true =>
            refine RD.d_iteT ?_
            walk_at "tx"
            refine OQ.xT (m := i) tb (by omega) hi (fun r hr => ?_)
            walk_at "tx"
            refine OQ.xR (m := j) hr (by omega) hj ?_
            walk_at "tx"
            have pl := pn i j hi hj
            refine ⟨1, ((P i j : Nat) : Int), rfl, rfl, ⟨by omega, by omega, by decide⟩, ?_⟩
            walk_at "tx"
            rw [bor]
            exact ⟨rfl, _, _, rfl, lp.yes hi hj b1 b2⟩
      · rintro σ' H'' ⟨rfl, f, v6, rfl, lp⟩
        rw [show ((n : Int) - 0).toNat = n by omega] at lp
        exact ⟨rfl, f, _, _, rfl, lp.next⟩
    · rintro σ' H' ⟨rfl, f, v5, v6, rfl, lp⟩
      rw [show ((n : Int) - 0).toNat = n by omega] at lp
      walk_at "tx"
      rw [lp.end]; exact k _ sp
theorem ok_lots_fault (T : Top K mg) : FnOk P w K mg base CX0 8 T.f_lots_fault T.fd_lots_fault ["products", "one"] (spF fun vs H F => ∃ (vp vn : V) (dp dn : PyData), vs = [vp, vn] ∧ OQ.Dqd K H vp dp ∧ OQ.Dqd K H vn dn ∧ F = lotF dp dn) := by
  refine T.F_lots_fault.ok sc_lots_fault (fun vs H Q E h => ?_) (fun cdv A outer s H vs Q E hr h => ?_)
  · obtain ⟨F, ⟨vp, vn, dp, dn, rfl, _⟩, _⟩ := h; rfl
  · obtain ⟨F, ⟨vp, vn, dp, dn, rfl, hp, hn, eF⟩, k⟩ := h
    have bad : lotB dp dn = false → F = some (("size" : Str), -1, -1, -1) := fun z => by rw [eF]; unfold lotF; rw [if_neg (by rw [z]; decide)]
    refine ⟨_, (pss_cons (ps_if (PW.pt (pw_or (pt_not (pt_val (pe_call (ok_is_row T) (hr.mono (by decide)) (by rfl) T.g_is_row T.F_is_row.kp T.b_is_row .nil pass0 (pa_cons (pv 0) pa_nil)))) (pw_or1 (pt_not (pt_chain op_le op_le pe_int (pe_callB RD.c_len (by rfl) T.n_len (by decide +kernel) (pa_cons (pv 0) pa_nil)) (pe_glob (v := V.int 4) (by rfl) T.g_MOST_THINGS ⟨_, rfl⟩))))))
 (pss_one (ps_ret (pe_tup (pa_cons pe_str (pa_cons (pe_un un_neg pe_int) (pa_cons (pe_un un_neg pe_int) (pa_cons (pe_un un_neg pe_int) pa_nil)))))))
 pss_nil)
 (pss_cons (ps_if (PW.pt (pw_or (pt_not (pt_val (pe_call (ok_is_square T) (hr.mono (by decide)) (by rfl) T.g_is_square T.F_is_square.kp T.b_is_square .nil pass0 (pa_cons (pe_callB RD.c_len (by rfl) T.n_len (by decide +kernel) (pa_cons (pv 0) pa_nil)) (pa_cons (pv 0) pa_nil))))) (pw_or1 (pt_not (pt_val (pe_call (ok_is_below T) (hr.mono (by decide)) (by rfl) T.g_is_below T.F_is_below.kp T.b_is_below .nil pass0 (pa_cons (pe_callB RD.c_len (by rfl) T.n_len (by decide +kernel) (pa_cons (pv 0) pa_nil)) (pa_cons (pv 1) pa_nil))))))))
 (pss_one (ps_ret (pe_tup (pa_cons pe_str (pa_cons (pe_un un_neg pe_int) (pa_cons (pe_un un_neg pe_int) (pa_cons (pe_un un_neg pe_int) pa_nil)))))))
 pss_nil)
 (pss_one (ps_ret (pe_orT (pe_call (ok_one_fault T) (hr.mono (by decide)) (by rfl) T.g_one_fault T.F_one_fault.kp T.b_one_fault .nil pass0 (pa_cons (pv 0) (pa_cons (pv 1) pa_nil))) (pe_one (pe_call (ok_grouping_fault T) (hr.mono (by decide)) (by rfl) T.g_grouping_fault T.F_grouping_fault.kp T.b_grouping_fault .nil pass0 (pa_cons pe_str (pa_cons (pv 0) pa_nil))))))))), ?_⟩
    walk_at "tx"
    obtain ⟨t, ty, ek⟩ := OQ.dqd_isRow hp
    refine ⟨vp, t, _, rfl, ty, ek, fun H1 s1 => ?_⟩
    replace hp := OQ.Dqd.same s1 hp
    replace hn := OQ.Dqd.same s1 hn
    cases er : RK.rowsOf dp with
    | none =>
      refine ⟨false, rfl, RD.d_iteNF ?_⟩
      walk_at "tx"
      exact ret4 k s1 (bad (by unfold lotB; rw [er]))
    | some ds =>
      have eB : lotB dp dn = (decide (1 ≤ ds.length ∧ ds.length ≤ 4) && (RK.squareB ds.length dp && RK.belowB ds.length dn)) := by unfold lotB; rw [er]
      have ec : RK.cellsOf dp = ds := by unfold RK.cellsOf; rw [er]; rfl
      rw [eB] at bad
      refine ⟨true, rfl, RD.d_iteNT ?_⟩
      obtain ⟨a, xs, rfl, sa, da⟩ := OQ.dqd_row hp er
      have len := OQ.dqdAll_len da
      walk_at "tx"
      refine sa.len ?_
      walk_at "tx"
      rw [len]
      refine RD.iteD (fun c1 => ?_) (fun c1 => ?_)
      · walk_at "tx"
        refine RD.iteN (fun c2 => ?_) (fun c2 => ?_)
        · walk_at "tx"
          exact ret4 k s1 (bad (by rw [decide_eq_false (by omega), Bool.false_and]))
        rw [decide_eq_true (by omega : 1 ≤ ds.length ∧ ds.length ≤ 4), Bool.true_and] at bad eB
        walk_at "tx"
        refine sa.len ?_
        walk_at "tx"
        rw [len]
        refine ⟨ds.length, _, dp, rfl, by omega, hp, fun H2 s2 => ?_⟩
        have s12 := s1.trans s2
        replace hp := OQ.Dqd.same s2 hp
        replace hn := OQ.Dqd.same s2 hn
        replace sa := OQ.SeqAt.same sa s2
        cases e1 : RK.squareB ds.length dp with
        | false =>
          refine ⟨false, rfl, RD.d_iteNF ?_⟩
          walk_at "tx"
          exact ret4 k s12 (bad (by rw [e1, Bool.false_and]))
        | true =>
          rw [e1, Bool.true_and] at bad eB
          refine ⟨true, rfl, RD.d_iteNT ?_⟩
          walk_at "tx"
          refine sa.len ?_
          walk_at "tx"
          rw [len]
          refine ⟨ds.length, _, _, rfl, Bl.dq hn, ?_⟩
          cases e4 : RK.belowB ds.length dn with
          | false =>
            refine ⟨false, rfl, RD.d_iteNF ?_⟩
            walk_at "tx"
            exact ret4 k s12 (bad e4)
          | true =>
            refine ⟨true, rfl, RD.d_iteNT ?_⟩
            have eF : F = moF ds.length (RK.tabf dp) (RK.natOf dn) := by rw [eF]; unfold lotF; rw [if_pos (eB.trans e4), ec]
            obtain ⟨b, eb, tp, wp⟩ := OQ.dqd_tab hp e1
            cases eb
            obtain ⟨rfl, on⟩ := below_nat hn e4
            unfold moF at eF
            walk_at "tx"
            refine d_orT ?_
            walk_at "tx"
            refine ⟨_, ⟨a, ds.length, RK.tabf dp, RK.natOf dn, rfl, tp, on, by omega, rfl⟩, fun v3 H3 s3 f3 => orF f3 eF (fun f => k _ _ (s12.trans s3) f) (fun eF => ?_)⟩
            walk_at "tx"
            exact ⟨_, ⟨_, a, ds.length, RK.tabf dp, rfl, tp.same s3, by omega, wp, rfl⟩, fun v H' s' f => k _ _ ((s12.trans s3).trans s') (by rw [eF]; exact f)⟩
      · walk_at "tx"
        exact ret4 k s1 (bad (by rw [decide_eq_false (by omega), Bool.false_and]))
/-- lots of products and one: the reckoning, or the fault -/
def spLots (K : PySem.W.Frag) (C CB : Addr) : Sp := fun vs H Q E => ∃ (vp vn : V) (dp dn : PyData), vs = [vp, vn] ∧ OQ.Dqd K H vp dp ∧ OQ.Dqd K H vn dn ∧
  (∀ n P o, lotF dp dn = none → Mo n P o → 1 ≤ n → n ≤ 4 → (∀ i j, i < n → j < n → P i j = RK.tabf dp i j) → (RK.cellsOf dp).length = n → RK.natOf dn = o → ∀ x H', Same H H' → RekF K C H' x (2 ^ n) (fun a b => a ||| b) (lotP n P) 0 (2 ^ o) → Q (.ref x) H') ∧
  (∀ f, lotF dp dn = some f → ∀ u d H', Same H H' → FltAt H' u (some f) → H' d = none → E (.ref CB) (some d) (upd H' d (ErrD u)))
theorem same_made {H : Hp} {x dx C : Addr} (nx : H x = none) (ndx : H dx = none) (ne : dx ≠ x) : Same H (upd (upd H dx (.own x)) x (.ins C dx [])) := same_put (same_upd ndx) nx
theorem ok_lots (T : Top K mg) : FnOk P w K mg base (L2.CX P w) 14 T.f_lots T.fd_lots ["products", "one"] (spLots K T.C_Reckoning T.C_BadReckoning) := by
  refine T.F_lots.okX sc_lots (fun vs H Q E h => ?_) (fun cdv A outer s H vs Q E hr h => ?_)
  · obtain ⟨vp, vn, dp, dn, rfl, _⟩ := h; rfl
  · obtain ⟨vp, vn, dp, dn, rfl, hp, hn, k, kE⟩ := h
    refine ⟨_, (pss_cons (ps_set (i := 2) sc_lots.nd rfl (Or.inl rfl) (pe_call (ok_lots_fault T) (hr.mono (by decide)) (by rfl) T.g_lots_fault T.F_lots_fault.kp T.b_lots_fault .nil pass0 (pa_cons (pv 0) (pa_cons (pv 1) pa_nil))))
 (pss_cons (ps_if (pt_cmpR RD.o_notN (pv 2) pe_non (nomark _))
 (pss_one (ps_raise rfl (takes_of rfl rfl rfl rfl) (pmk_oex T.oex_BadReckoning T.i_BadReckoning T.tI (ok_WayError__init T) (hr.mono (by decide)) T.b_WayError__init .nil pass0 (by rfl) T.g_BadReckoning (pa_cons (pv 2) pa_nil))))
 pss_nil)
 (pss_cons (ps_set (i := 3) sc_lots.nd rfl (Or.inr rfl) (pe_callTy OQ.cr_range1 (by rfl) T.n_range (by decide +kernel) (pa_cons (pe_op op_shl pe_int (pe_callB RD.c_len (by rfl) T.n_len (by decide +kernel) (pa_cons (pv 0) pa_nil))) pa_nil)))
 (pss_one (ps_ret (pe_make T.M_Reckoning (ok_Reckoning__init T) (hr.mono (by decide)) (by rfl) T.g_Reckoning T.b_Reckoning__init .nil (passes_call (takes_of rfl rfl rfl rfl) (fun _ _ _ _ h => h)) (pa_cons (pe_lc (own := [("a", 4)]) (g := (gName 4)) (tt := tYes) rfl sc_lots.nd (OQ.pi_rngV (pv 3)) (blkOk_by (own := [("a", 4)]) (N := ["products", "one", "fault", "every", "a", "b"]) (sc := defScope s_lots) (by decide +kernel)) (fun _ _ _ _ _ => (pg_name (i := 4) sc_lots.nd rfl (by first | exact Or.inl rfl | exact Or.inr rfl))) (fun _ _ _ _ _ => pts_nil) (fun _ _ _ _ _ => (pe_lc (own := [("b", 5)]) (g := (gName 5)) (tt := tYes) rfl sc_lots.nd (OQ.pi_rngV (pv 3)) (blkOk_by (own := [("b", 5)]) (N := ["products", "one", "fault", "every", "a", "b"]) (sc := _) (by kernel_rfl)) (fun _ _ _ _ _ => (pg_name (i := 5) sc_lots.nd rfl (by first | exact Or.inl rfl | exact Or.inr rfl))) (fun _ _ _ _ _ => pts_nil) (fun _ _ _ _ _ => (pe_op op_or (pv 4) (pv 5)))))) (pa_cons (pe_lc (own := [("a", 4)]) (g := (gName 4)) (tt := tYes) rfl sc_lots.nd (OQ.pi_rngV (pv 3)) (blkOk_by (own := [("a", 4)]) (N := ["products", "one", "fault", "every", "a", "b"]) (sc := defScope s_lots) (by decide +kernel)) (fun _ _ _ _ _ => (pg_name (i := 4) sc_lots.nd rfl (by first | exact Or.inl rfl | exact Or.inr rfl))) (fun _ _ _ _ _ => pts_nil) (fun _ _ _ _ _ => (pe_lc (own := [("b", 5)]) (g := (gName 5)) (tt := tYes) rfl sc_lots.nd (OQ.pi_rngV (pv 3)) (blkOk_by (own := [("b", 5)]) (N := ["products", "one", "fault", "every", "a", "b"]) (sc := _) (by kernel_rfl)) (fun _ _ _ _ _ => (pg_name (i := 5) sc_lots.nd rfl (by first | exact Or.inl rfl | exact Or.inr rfl))) (fun _ _ _ _ _ => pts_nil) (fun _ _ _ _ _ => (pe_call (ok_product_of_lots T) (hr.mono (by decide)) (by rfl) T.g_product_of_lots T.F_product_of_lots.kp T.b_product_of_lots .nil pass0 (pa_cons (pv 0) (pa_cons (pv 4) (pa_cons (pv 5) pa_nil)))))))) (pa_cons pe_int (pa_cons (pe_op op_shl pe_int (pv 1)) pa_nil)))))))))), ?_⟩
    walk_at "tx"
    refine ⟨_, ⟨vp, vn, dp, dn, rfl, hp, hn, rfl⟩, fun fv H1 s1 f1 => ?_⟩
    cases eF : lotF dp dn with
    | some f =>
      rw [eF] at f1
      obtain ⟨w', a', b', c'⟩ := f
      obtain ⟨p, rfl, hp'⟩ := id f1
      walk_at "tx"
      exact d_mkO T.oex_BadReckoning T.v_BadReckoning fun d hd => kE _ eF _ d H1 s1 f1 hd
    | none =>
      rw [eF] at f1
      cases f1
      have eB : lotB dp dn = true := by
        cases e : lotB dp dn with
        | true => rfl
        | false => unfold lotF at eF; rw [e] at eF; cases eF
      obtain ⟨n1, n4, qp, qn⟩ := lot_ok eB
      have eM : moF (RK.cellsOf dp).length (RK.tabf dp) (RK.natOf dn) = none := by unfold lotF at eF; rw [if_pos eB] at eF; exact eF
      replace hp := OQ.Dqd.same s1 hp
      replace hn := OQ.Dqd.same s1 hn
      obtain ⟨b, rfl, tp, wp⟩ := OQ.dqd_tab hp qp
      obtain ⟨rfl, on⟩ := below_nat hn qn
      have mo := mo_of on wp eM
      have k := k _ _ _ eF mo n1 n4 (fun _ _ _ _ => rfl) rfl rfl
      clear eM eB qp qn hp hn kE eF
      generalize (RK.cellsOf dp).length = n at *
      generalize RK.tabf dp = P' at *
      generalize RK.natOf dn = o at *
      have gd := mo.lots
      have n16 : 2 ^ n ≤ 16 := Nat.pow_le_pow_right (n := 2) (by omega) n4
      have n2 : 2 ≤ 2 ^ n := Nat.pow_le_pow_right (n := 2) (i := 1) (by omega) n1
      walk_at "tx"
      refine tp.len ?_
      walk_at "tx"
      refine ⟨1, (n : Nat), rfl, rfl, ⟨by omega, by omega, by decide⟩, ?_⟩
      walk_at "tx"
      have en : (1 : Int) * 2 ^ ((n : Nat) : Int).toNat = ((2 ^ n : Nat) : Int) := by rw [Int.one_mul, Int.toNat_natCast, Int.natCast_pow]; rfl
      refine ⟨((2 ^ n : Nat) : Int), by show [V.int (1 * 2 ^ ((n : Nat) : Int).toNat)] = _; rw [en], fun rg hg => ?_⟩
      clear en
      generalize 2 ^ n = N at *
      have sg := same_upd (o := HO.rng 0 N) hg
      have eg : upd H1 rg (.rng 0 N) rg = some (.rng 0 N) := upd_same
      replace s1 := s1.trans sg
      replace tp := tp.same sg
      clear sg hg
      generalize upd H1 rg (.rng 0 N) = H2 at *
      walk_at "tx"
      refine ⟨rg, 0, N, rfl, eg, by omega, ?_⟩
      intro D hD
      refine lc_range (lo := 0) (n := ((N : Int) - 0).toNat) (fun i H' => Same H2 H' ∧ RowsN H' D N i (fun a b => a ||| b)) ⟨same_upd hD, rowsN_zero⟩ ?_ ?_
      · rintro i H' hi' ⟨s2, r1⟩
        have hi : i < N := by omega
        walk_at "tx"
        refine ⟨rg, 0, N, rfl, s2 _ _ eg, by omega, ?_⟩
        intro D2 hD2
        refine lc_range (lo := 0) (n := ((N : Int) - 0).toNat) (fun j H'' => Same H' H'' ∧ H'' D2 = some (.lst ((List.range j).map fun c => V.int ((i ||| c : Nat) : Int)))) ⟨same_upd hD2, upd_same⟩ ?_ ?_
        · rintro j H'' hj' ⟨s3, eD2⟩
          have hj : j < N := by omega
          walk_at "tx"
          exact rowPutN (g := fun c => i ||| c) hD2 s3 (by omega) eD2 (by rw [Int.zero_add, Int.zero_add, bitOr_nn (Int.natCast_nonneg _) (Int.natCast_nonneg _), Int.toNat_natCast, Int.toNat_natCast])
        · rintro H'' ⟨s3, eD2⟩
          rw [show ((N : Int) - 0).toNat = N by omega] at eD2
          exact rowsN_step hD s2 r1 hD2 s3 (by omega) eD2
      rintro H3 ⟨s3, r3⟩
      rw [show ((N : Int) - 0).toNat = N by omega] at r3
      have tj : TabXL H3 D N (fun a b => a ||| b) := rowsN_end r3
      replace tp := tp.same s3
      replace eg := s3 _ _ eg
      replace s1 := s1.trans s3
      clear r3 s3 hD
      walk_at "tx"
      refine ⟨rg, 0, N, rfl, eg, by omega, ?_⟩
      intro D3 hD
      refine lc_range (lo := 0) (n := ((N : Int) - 0).toNat) (fun i H' => Same H3 H' ∧ RowsN H' D3 N i (lotP n P')) ⟨same_upd hD, rowsN_zero⟩ ?_ ?_
      · rintro i H' hi' ⟨s2, r1⟩
        have hi : i < N := by omega
        walk_at "tx"
        refine ⟨rg, 0, N, rfl, s2 _ _ eg, by omega, ?_⟩
        intro D2 hD2
        refine lc_range (lo := 0) (n := ((N : Int) - 0).toNat) (fun j H'' => Same H' H'' ∧ H'' D2 = some (.lst ((List.range j).map fun c => V.int ((lotP n P' i c : Nat) : Int)))) ⟨same_upd hD2, upd_same⟩ ?_ ?_
        · rintro j H'' hj' ⟨s3, eD2⟩
          have hj : j < N := by omega
          walk_at "tx"
          refine ⟨b, n, i, j, P', by rw [Int.zero_add, Int.zero_add]; rfl, (tp.same s2).same s3, n4, wp, fun H4 s4 => ?_⟩
          exact rowPutN (g := fun c => lotP n P' i c) hD2 (s3.trans s4) (by omega) (s4 _ _ eD2) rfl
        · rintro H'' ⟨s3, eD2⟩
          rw [show ((N : Int) - 0).toNat = N by omega] at eD2
          exact rowsN_step hD s2 r1 hD2 s3 (by omega) eD2
      rintro H4 ⟨s4, r4⟩
      rw [show ((N : Int) - 0).toNat = N by omega] at r4
      have tm : TabXL H4 D3 N (lotP n P') := rowsN_end r4
      replace tj := tj.same s4
      replace s1 := s1.trans s4
      walk_at "tx"
      refine ⟨1, (o : Nat), rfl, rfl, ⟨by omega, by omega, by decide⟩, ?_⟩
      have eo : (1 : Int) * 2 ^ ((o : Nat) : Int).toNat = ((2 ^ o : Nat) : Int) := by rw [Int.one_mul, Int.toNat_natCast, Int.natCast_pow]; rfl
      walk_at "tx"
      dsimp only
      rw [eo]
      intro x dx nx ndx ne
      have s5 := same_made (C := T.C_Reckoning) nx ndx ne
      refine spReck_good (n := N) (z := 0) (o := 2 ^ o) (J := fun a b => a ||| b) (M := lotP n P') upd_same (tj.same s5).x (tm.same s5).x n2 n16 gd.zn gd.on gd.jn gd.mn (fun e H6 kx f => ⟨rfl, ?_⟩) (fun f e u d H' s' fl hd => ?_)
      · exact k x H6 (fun b u e => kx _ _ (ne_of_none (s1 _ _ e) nx) (s5 _ _ (s1 _ _ e))) f
      · rw [gd.rest] at e; cases e
end

/-! ### reckonings compared -/
open OQ (TabX RowX SeqAt)
def tabl (n : Nat) (f : Nat → Nat → Nat) : List (List Nat) := (List.range n).map fun i => (List.range n).map (f i)
def Tq (cs : List (List Nat)) : List PyData := cs.map fun c => .tuple (OQ.Tn c)
theorem Tn_eq2 : ∀ p q : List Nat, PyData.eqvAll (OQ.Tn p) (OQ.Tn q) = decide (p = q)
  | [], [] => by rw [OQ.Tn, List.map_nil, PyData.eqvAll]; rfl
  | [], j :: q => by rw [OQ.Tn, OQ.Tn, List.map_nil, List.map_cons, PyData.eqvAll]; rfl
  | i :: p, [] => by rw [OQ.Tn, OQ.Tn, List.map_nil, List.map_cons, PyData.eqvAll]; rfl
  | i :: p, j :: q => by
    have e1 : OQ.Tn (i :: p) = .int (i : Int) :: OQ.Tn p := rfl
    have e2 : OQ.Tn (j :: q) = .int (j : Int) :: OQ.Tn q := rfl
    rw [e1, e2, PyData.eqvAll, PyData.eqv, Tn_eq2 p q, Bool.eq_iff_iff]
    simp only [Bool.and_eq_true, beq_iff_eq, decide_eq_true_eq, List.cons.injEq]
    constructor
    · rintro ⟨h1, h2⟩; exact ⟨by omega, h2⟩
    · rintro ⟨h1, h2⟩; exact ⟨by omega, h2⟩
theorem Tq_eq : ∀ cs ds : List (List Nat), PyData.eqvAll (Tq cs) (Tq ds) = decide (cs = ds)
  | [], [] => by rw [Tq, List.map_nil, PyData.eqvAll]; rfl
  | [], d :: ds => by rw [Tq, Tq, List.map_nil, List.map_cons, PyData.eqvAll]; rfl
  | c :: cs, [] => by rw [Tq, Tq, List.map_nil, List.map_cons, PyData.eqvAll]; rfl
  | c :: cs, d :: ds => by
    have e1 : Tq (c :: cs) = .tuple (OQ.Tn c) :: Tq cs := rfl
    have e2 : Tq (d :: ds) = .tuple (OQ.Tn d) :: Tq ds := rfl
    rw [e1, e2, PyData.eqvAll, PyData.eqv, Tn_eq2, Tq_eq cs ds, Bool.eq_iff_iff]
    simp only [Bool.and_eq_true, decide_eq_true_eq, List.cons.injEq]
theorem Tq_lay : ∀ cs : List (List Nat), PyData.canLayAll0 (Tq cs) = true ∧ PyData.depthAll (Tq cs) ≤ 1
  | [] => by rw [Tq, List.map_nil, PyData.canLayAll0, PyData.depthAll]; exact ⟨rfl, by omega⟩
  | c :: cs => by
    obtain ⟨h1, h2⟩ := Tq_lay cs
    obtain ⟨g1, g2⟩ := OQ.Tn_lay c
    have e : Tq (c :: cs) = .tuple (OQ.Tn c) :: Tq cs := rfl
    rw [e, PyData.canLayAll0, PyData.canLay0, PyData.depthAll, PyData.depth, h1, g1, g2]
    exact ⟨rfl, by omega⟩
theorem Tq_shaped (cs : List (List Nat)) : SeqAt.shaped (.tuple (Tq cs)) = true := by
  obtain ⟨h1, h2⟩ := Tq_lay cs
  unfold SeqAt.shaped
  rw [PyData.canLay0, PyData.depth, h1, Bool.true_and, decide_eq_true_eq]
  omega
theorem TabXT.dp {K : PySem.W.Frag} {H : Hp} {a : Addr} {n : Nat} {f : Nat → Nat → Nat} (h : TabXT K H a n f) : Dp K H (.ref a) (.tuple (Tq (tabl n f))) := by
  obtain ⟨rs, len, sa, rows⟩ := h
  refine .tup sa ?_
  have gen : ∀ (ts : List Addr) (k : Nat), (∀ (i : Nat) (r : Addr), ts[i]? = some r → SqT K H r ((List.range n).map fun j => V.int (f (k + i) j : Nat))) →
      DpAll K H (ts.map V.ref) (Tq ((List.range' k ts.length).map fun i => (List.range n).map (f i))) := by
    intro ts
    induction ts with
    | nil => intro k _; exact .nil
    | cons t ts ih =>
      intro k h
      have h0 := h 0 t rfl
      refine .cons (.tup h0 ?_) (ih (k + 1) fun i r hr => ?_)
      · have : (List.range n).map (fun j => V.int (f (k + 0) j : Nat)) = WW.Ns ((List.range n).map (f k)) := by
          unfold WW.Ns; rw [List.map_map]; rfl
        rw [this]
        exact OQ.Tn_all _
      · have := h (i + 1) r (by simpa using hr)
        rwa [show k + (i + 1) = k + 1 + i from by omega] at this
  have := gen rs 0 (by simpa using rows)
  unfold tabl
  rw [len, ← List.range_eq_range'] at this
  exact this
theorem tab_ne {K : PySem.W.Frag} {H : Hp} {Q : VK} {a b : Addr} {n m : Nat} {f g : Nat → Nat → Nat} (ha : TabXT K H a n f) (hb : TabXT K H b m g) (k : Q (.bl (!decide (tabl n f = tabl m g))) H) : rNeD K (.ref a) (.ref b) H Q :=
  ⟨_, _, ha.dp, hb.dp, Tq_shaped _, Tq_shaped _, by rw [PyData.eqv, Tq_eq]; exact k⟩
theorem tabl_len {n : Nat} {f : Nat → Nat → Nat} : (tabl n f).length = n := by unfold tabl; rw [List.length_map, List.length_range]
theorem tabl_congr {n : Nat} {f g : Nat → Nat → Nat} (e : Eqn n f g) : tabl n f = tabl n g := by
  unfold tabl
  exact List.map_congr_left fun i mi => List.map_congr_left fun j mj => e i j (List.mem_range.mp mi) (List.mem_range.mp mj)
section
variable {P : Program} {w : World} {K : PySem.W.Frag} {mg : Str → Option Value} {base : Heap} {H : Hp} {R : V → Prop}
theorem rfJ (T : Top K mg) {x : Addr} {n : Nat} {J M : Nat → Nat → Nat} {z o : Nat} (h : RekF K T.C_Reckoning H x n J M z o) (k : ∀ jt, TabXT K H jt n J → R (.ref jt)) : ∃ a' C dx fs v, V.ref x = .ref a' ∧ H a' = some (.ins C dx fs) ∧ Cls K C ∧ NoAttr K C "joins" ∧ fs.lookup ("joins" : Str) = some v ∧ R v := by
  obtain ⟨dx, jt, pt, mt, lt, rt, e, t1, _⟩ := h
  exact ⟨x, _, dx, _, _, rfl, e, T.cl_Reckoning, T.na_Reckoning_joins, lk_eq, k jt t1⟩
theorem rfP (T : Top K mg) {x : Addr} {n : Nat} {J M : Nat → Nat → Nat} {z o : Nat} (h : RekF K T.C_Reckoning H x n J M z o) (k : ∀ jt, TabXT K H jt n M → R (.ref jt)) : ∃ a' C dx fs v, V.ref x = .ref a' ∧ H a' = some (.ins C dx fs) ∧ Cls K C ∧ NoAttr K C "products" ∧ fs.lookup ("products" : Str) = some v ∧ R v := by
  obtain ⟨dx, jt, pt, mt, lt, rt, e, t1, t2, _⟩ := h
  exact ⟨x, _, dx, _, _, rfl, e, T.cl_Reckoning, T.na_Reckoning_products, (lk_ne (by decide +kernel)).trans lk_eq, k pt t2⟩
theorem rfN (T : Top K mg) {x : Addr} {n : Nat} {J M : Nat → Nat → Nat} {z o : Nat} (h : RekF K T.C_Reckoning H x n J M z o) (k : R (.int z)) : ∃ a' C dx fs v, V.ref x = .ref a' ∧ H a' = some (.ins C dx fs) ∧ Cls K C ∧ NoAttr K C "none" ∧ fs.lookup ("none" : Str) = some v ∧ R v := by
  obtain ⟨dx, jt, pt, mt, lt, rt, e, t1, t2, _⟩ := h
  exact ⟨x, _, dx, _, _, rfl, e, T.cl_Reckoning, T.na_Reckoning_none, (lk_ne (by decide +kernel)).trans ((lk_ne (by decide +kernel)).trans lk_eq), k⟩
theorem rfO (T : Top K mg) {x : Addr} {n : Nat} {J M : Nat → Nat → Nat} {z o : Nat} (h : RekF K T.C_Reckoning H x n J M z o) (k : R (.int o)) : ∃ a' C dx fs v, V.ref x = .ref a' ∧ H a' = some (.ins C dx fs) ∧ Cls K C ∧ NoAttr K C "one" ∧ fs.lookup ("one" : Str) = some v ∧ R v := by
  obtain ⟨dx, jt, pt, mt, lt, rt, e, t1, t2, _⟩ := h
  exact ⟨x, _, dx, _, _, rfl, e, T.cl_Reckoning, T.na_Reckoning_one, (lk_ne (by decide +kernel)).trans ((lk_ne (by decide +kernel)).trans ((lk_ne (by decide +kernel)).trans lk_eq)), k⟩
end

theorem rgV_nat {n : Nat} : rgV 0 (n : Int) = (List.range n).map fun (j : Nat) => V.int j := by
  unfold rgV
  rw [show ((n : Int) - 0).toNat = n by omega]
  exact List.map_congr_left fun j _ => by rw [Int.zero_add]

/-! ### beneath, greatest; a reckoning while the hand moves -/
open OQ (TabX RowX SeqAt)
theorem sqT_kxh {K : PySem.W.Frag} {H H' : Hp} {h c a : Addr} {xs : List V} (s : SqT K H a xs) (x : HandAt H h c) (k : Kx h H H') : SqT K H' a xs := by
  obtain ⟨cs, p, q, m, n, e1, _⟩ := x
  rcases s with (s | ⟨o, s⟩) | s
  · exact .inl (.inl (k _ _ (fun z => by subst z; rw [e1] at s; cases s) s))
  · exact .inl (.inr ⟨o, k _ _ (fun z => by subst z; rw [e1] at s; cases s) s⟩)
  · exact .inr s
theorem TabXT.kxh {K : PySem.W.Frag} {H H' : Hp} {h c a : Addr} {n : Nat} {f : Nat → Nat → Nat} (t : TabXT K H a n f) (x : HandAt H h c) (k : Kx h H H') : TabXT K H' a n f := by
  obtain ⟨rs, l, e, q⟩ := t
  exact ⟨rs, l, sqT_kxh e x k, fun i r z => sqT_kxh (q i r z) x k⟩
theorem RekF.kxh {K : PySem.W.Frag} {C : Addr} {H H' : Hp} {h c x : Addr} {n : Nat} {J M : Nat → Nat → Nat} {z o : Nat} (r : RekF K C H x n J M z o) (y : HandAt H h c) (k : Kx h H H') : RekF K C H' x n J M z o := by
  obtain ⟨dx, jt, pt, mt, lt, rt, e, t1, t2, t3, t4, t5, rf, n2, n16, zn, on, wj, wp⟩ := r
  have ne : x ≠ h := fun q => by
    obtain ⟨cs, p, q', m, n, e1, _⟩ := y
    subst q; rw [e] at e1; cases e1
  exact ⟨dx, jt, pt, mt, lt, rt, k _ _ ne e, t1.kxh y k, t2.kxh y k, k.tabL y n2 t3, k.tabL y n2 t4, k.tabL y n2 t5, rf, n2, n16, zn, on, wj, wp⟩
def spGrt (K : PySem.W.Frag) (C : Addr) : Sp := fun vs H Q _ => ∃ (x : Addr) (n : Nat) (J M : Nat → Nat → Nat) (z o : Nat), vs = [.ref x] ∧ RekF K C H x n J M z o ∧ ∀ H', Same H H' → Q (.int (jall J z (List.range n) : Nat)) H'
section
variable {P : Program} {w : World} {K : PySem.W.Frag} {mg : Str → Option Value} {base : Heap} {H : Hp} {R : V → Prop}
theorem ok_Reckoning_beneath (T : Top K mg) : FnOk P w K mg base (L2.CX P w) 8 T.f_Reckoning_beneath T.fd_Reckoning_beneath ["self", "a", "b"] (spOp K T.C_Reckoning T.C_BadWorth fun _ J _ _ i j => .bl (decide (J i j = j))) := by
  refine T.F_Reckoning_beneath.okX sc_Reckoning_beneath (fun vs H Q E h => ?_) (fun cdv A outer s H vs Q E hr h => ?_)
  · obtain ⟨x, n, J, M, z, o, va, vb, a, b, rfl, _⟩ := h; rfl
  · obtain ⟨x, n, J, M, z, o, va, vb, a, b, rfl, rf, ha, hb, k, kE⟩ := h
    refine ⟨_, (pss_cons (ps_expr (pe_call (ok_check_worths T) (hr.mono (by decide)) (by rfl) T.g_check_worths T.F_check_worths.kp T.b_check_worths .nil (passes_call (takes_of rfl rfl rfl rfl) (fun _ _ _ _ h => h)) (pa_cons (pv 0) (pa_cons (pv 1) (pa_cons (pv 2) pa_nil)))))
 (pss_one (ps_ret (pe_cmpR op_eq (pe_ix OQ.ix_seq (pe_ix OQ.ix_seq (pe_fld (pv 0) (by rfl)) (pv 1) (fun _ _ => rfl)) (pv 2) (fun _ _ => rfl)) (pv 2) (nomark _))))), ?_⟩
    walk_at "tx"
    refine ⟨x, n, J, M, z, va, vb, a, b, rfl, rf.rek, ha, hb, fun a1 b1 H1 s1 => ?_, kE⟩
    subst a1; subst b1
    obtain ⟨i, rfl, hi⟩ := ha.nat
    obtain ⟨j, rfl, hj⟩ := hb.nat
    walk_at "tx"
    refine rekJ T (rf.rek.same s1) (fun jt tj => ?_)
    walk_at "tx"
    refine OQ.xT (m := i) tj rfl hi (fun r hr => ?_)
    walk_at "tx"
    refine OQ.xR (m := j) hr rfl hj ?_
    walk_at "tx"
    have := k rfl rfl i j rfl rfl hi hj H1 s1
    rw [show decide (((J i j : Nat) : Int) = (j : Int)) = decide (J i j = j) from decide_eq_decide.mpr (by omega)]
    exact this
theorem ok_Reckoning_greatest (T : Top K mg) : FnOk P w K mg base CX0 3 T.f_Reckoning_greatest T.fd_Reckoning_greatest ["self"] (spGrt K T.C_Reckoning) := by
  refine T.F_Reckoning_greatest.ok sc_Reckoning_greatest (fun vs H Q E h => ?_) (fun cdv A outer s H vs Q E hr h => ?_)
  · obtain ⟨x, n, J, M, z, o, rfl, _⟩ := h; rfl
  · obtain ⟨x, n, J, M, z, o, rfl, rf, k⟩ := h
    refine ⟨_, (pss_one (ps_ret (pe_meth (pv 0) T.cl_Reckoning T.m_Reckoning_Ujoined (ok_Reckoning_Ujoined T) (hr.mono (by decide)) T.b_Reckoning_Ujoined .nil pass0 (pa_cons (pe_listRg (by rfl) (by rfl) T.n_list (prg_1 (by rfl) T.n_range (pe_callB RD.c_len (by rfl) T.n_len (by decide +kernel) (pa_cons (pe_fld (pv 0) (by rfl)) pa_nil)))) pa_nil)))), ?_⟩
    walk_at "tx"
    refine rekM rf.rek (by simp) ?_
    walk_at "tx"
    refine RD.d_lstRg ?_
    walk_at "tx"
    refine rekJ T rf.rek (fun jt tj => ?_)
    walk_at "tx"
    refine tj.len ?_
    walk_at "tx"
    refine ⟨RgOk.of_le (by omega) (by have := rf.rek.n16; omega) (by omega) (by have := rf.rek.n16; omega), fun R hR => ?_⟩
    have sR := same_upd (o := HO.lst (rgV 0 (n : Int))) hR
    walk_at "tx"
    refine ⟨x, R, n, J, M, z, List.range n, rfl, rf.rek.same sR, by rw [upd_same, rgV_nat]; rfl, fun j m => List.mem_range.mp m, k _ sR⟩
end

/-! ### the order of a reckoning without faults -/
open RK (Gd)
theorem jall_up {n : Nat} {J M : Nat → Nat → Nat} {z o : Nat} (g : Gd n J M z o) : ∀ (ws : List Nat) (s : Nat), s < n → (∀ w ∈ ws, w < n) → jall J s ws < n ∧ J s (jall J s ws) = jall J s ws ∧ ∀ w ∈ ws, J w (jall J s ws) = jall J s ws
  | [], s, hs, _ => ⟨hs, g.id s hs, fun _ m => nomatch m⟩
  | v :: ws, s, hs, h => by
    have hv := h v (List.mem_cons_self ..)
    have hj := g.jn s v hs hv
    obtain ⟨h1, h2, h3⟩ := jall_up g ws (J s v) hj fun w m => h w (List.mem_cons_of_mem _ m)
    show jall J (J s v) ws < n ∧ J s (jall J (J s v) ws) = jall J (J s v) ws ∧ ∀ w ∈ v :: ws, J w (jall J (J s v) ws) = jall J (J s v) ws
    generalize jall J (J s v) ws = t at *
    have e1 : J s t = t := by rw [← h2, ← g.ja s (J s v) t hs hj h1, ← g.ja s s v hs hs hv, g.id s hs]
    have e2 : J v t = t := by rw [← h2, ← g.ja v (J s v) t hv hj h1, g.sw s v hs hv, ← g.ja v v s hv hv hs, g.id v hv]
    refine ⟨h1, e1, fun w m => ?_⟩
    rcases List.mem_cons.mp m with rfl | m
    · exact e2
    · exact h3 w m
theorem jall_least {n : Nat} {J M : Nat → Nat → Nat} {z o : Nat} (g : Gd n J M z o) {c : Nat} (hc : c < n) : ∀ (ws : List Nat) (s : Nat), s < n → (∀ w ∈ ws, w < n) → J s c = c → (∀ w ∈ ws, J w c = c) → J (jall J s ws) c = c
  | [], s, _, _, e, _ => e
  | v :: ws, s, hs, h, e, a => by
    have hv := h v (List.mem_cons_self ..)
    exact jall_least g hc ws (J s v) (g.jn s v hs hv) (fun w m => h w (List.mem_cons_of_mem _ m)) (by rw [g.ja s v c hs hv hc, a v (List.mem_cons_self ..), e]) fun w m => a w (List.mem_cons_of_mem _ m)
/-- products from the left over all joined -/
theorem jall_mul {n : Nat} {J M : Nat → Nat → Nat} {z o : Nat} (g : Gd n J M z o) {a c : Nat} (ha : a < n) (hc : c < n) : ∀ (ws : List Nat) (s : Nat), s < n → (∀ w ∈ ws, w < n) → J (M a s) c = c → (∀ w ∈ ws, J (M a w) c = c) → J (M a (jall J s ws)) c = c
  | [], s, _, _, e, _ => e
  | v :: ws, s, hs, h, e, q => by
    have hv := h v (List.mem_cons_self ..)
    exact jall_mul g ha hc ws (J s v) (g.jn s v hs hv) (fun w m => h w (List.mem_cons_of_mem _ m)) (by rw [(g.ds a s v ha hs hv).1, g.ja _ _ c (g.mn a s ha hs) (g.mn a v ha hv) hc, q v (List.mem_cons_self ..), e]) fun w m => q w (List.mem_cons_of_mem _ m)
/-- the first of ws above all of them -/
def topF (J : Nat → Nat → Nat) (ws : List Nat) : Option Nat := ws.find? fun w => ws.all fun v => decide (J v w = w)
theorem topF_eq {n : Nat} {J M : Nat → Nat → Nat} {z o : Nat} (g : Gd n J M z o) {ws : List Nat} (h : ∀ w ∈ ws, w < n) (m : jall J z ws ∈ ws) : topF J ws = some (jall J z ws) := by
  obtain ⟨h1, h2, h3⟩ := jall_up g ws z g.zn h
  have ok : (fun w => ws.all fun v => decide (J v w = w)) (jall J z ws) = true := List.all_eq_true.mpr fun v mv => decide_eq_true (h3 v mv)
  cases e : topF J ws with
  | none => exact absurd ok (by have := List.find?_eq_none.mp e _ m; exact this)
  | some w =>
    have p := List.find?_some e
    have mw := List.mem_of_find?_eq_some e
    have q := of_decide_eq_true (List.all_eq_true.mp p _ m)
    rw [g.sw _ _ h1 (h w mw), h3 w mw] at q
    rw [q]
/-! what is left -/
def leftW (n : Nat) (J M : Nat → Nat → Nat) (a c : Nat) : List Nat := (List.range n).filter fun b => decide (J (M a b) c = c)
def rightW (n : Nat) (J M : Nat → Nat → Nat) (c a : Nat) : List Nat := (List.range n).filter fun b => decide (J (M b a) c = c)
def meetW (n : Nat) (J : Nat → Nat → Nat) (a b : Nat) : List Nat := (List.range n).filter fun x => decide (J x a = a) && decide (J x b = b)
theorem meetF_W {n : Nat} {J : Nat → Nat → Nat} {z a b : Nat} : meetF n J z a b = jall J z (meetW n J a b) := by
  unfold meetF meetW
  rw [List.filter_filter]
  congr 1
  exact List.filter_congr fun i _ => Bool.and_comm ..
theorem leftW_lt {n : Nat} {J M : Nat → Nat → Nat} {a c : Nat} : ∀ w ∈ leftW n J M a c, w < n := fun w m => List.mem_range.mp (List.mem_filter.mp m).1
theorem rightW_lt {n : Nat} {J M : Nat → Nat → Nat} {a c : Nat} : ∀ w ∈ rightW n J M c a, w < n := fun w m => List.mem_range.mp (List.mem_filter.mp m).1
theorem meetW_lt {n : Nat} {J : Nat → Nat → Nat} {a b : Nat} : ∀ w ∈ meetW n J a b, w < n := fun w m => List.mem_range.mp (List.mem_filter.mp m).1
section
variable {n : Nat} {J M : Nat → Nat → Nat} {z o : Nat}
theorem left_in (g : Gd n J M z o) {a c : Nat} (ha : a < n) (hc : c < n) : leftF n J M z a c ∈ leftW n J M a c := by
  have l := (jall_up g (leftW n J M a c) z g.zn leftW_lt).1
  refine List.mem_filter.mpr ⟨List.mem_range.mpr l, decide_eq_true ?_⟩
  exact jall_mul g ha hc _ z g.zn leftW_lt (by rw [(g.nj a ha).2.2.2, (g.nj c hc).1]) fun w m => of_decide_eq_true (List.mem_filter.mp m).2
theorem left_top (g : Gd n J M z o) {a c : Nat} (ha : a < n) (hc : c < n) : topF J (leftW n J M a c) = some (leftF n J M z a c) := topF_eq g leftW_lt (left_in g ha hc)
theorem right_left {c a : Nat} : rightF n J M z c a = leftF n J (fun x y => M y x) z a c := rfl
theorem rightW_left {c a : Nat} : rightW n J M c a = leftW n J (fun x y => M y x) a c := rfl
theorem right_top (g : Gd n J M z o) {a c : Nat} (ha : a < n) (hc : c < n) : topF J (rightW n J M c a) = some (rightF n J M z c a) := left_top g.turned ha hc
theorem meet_in (g : Gd n J M z o) {a b : Nat} (ha : a < n) (hb : b < n) : meetF n J z a b ∈ meetW n J a b := by
  rw [meetF_W]
  have l := (jall_up g (meetW n J a b) z g.zn meetW_lt).1
  refine List.mem_filter.mpr ⟨List.mem_range.mpr l, ?_⟩
  rw [Bool.and_eq_true]
  exact ⟨decide_eq_true (jall_least g ha _ z g.zn meetW_lt (g.nj a ha).1 fun w m => of_decide_eq_true (Bool.and_eq_true _ _ ▸ (List.mem_filter.mp m).2).1),
    decide_eq_true (jall_least g hb _ z g.zn meetW_lt (g.nj b hb).1 fun w m => of_decide_eq_true (Bool.and_eq_true _ _ ▸ (List.mem_filter.mp m).2).2)⟩
theorem meet_top (g : Gd n J M z o) {a b : Nat} (ha : a < n) (hb : b < n) : topF J (meetW n J a b) = some (meetF n J z a b) := by
  have m := meet_in g ha hb
  rw [meetF_W] at m ⊢
  exact topF_eq g meetW_lt m
theorem all_top (g : Gd n J M z o) : topF J (List.range n) = some (jall J z (List.range n)) :=
  topF_eq g (fun _ m => List.mem_range.mp m) (List.mem_range.mpr (jall_up g (List.range n) z g.zn fun _ m => List.mem_range.mp m).1)
theorem left_adj (g : Gd n J M z o) {a b c : Nat} (ha : a < n) (hb : b < n) (hc : c < n) : J b (leftF n J M z a c) = leftF n J M z a c ↔ J (M a b) c = c := by
  have l := (jall_up g (leftW n J M a c) z g.zn leftW_lt).1
  have fits := of_decide_eq_true (List.mem_filter.mp (left_in g ha hc)).2
  constructor
  · intro e
    have l' : leftF n J M z a c < n := l
    generalize leftF n J M z a c = t at *
    have e2 : M a t = J (M a b) (M a t) := by rw [← (g.ds a b t ha hb l').1, e]
    rw [← fits, ← g.ja _ _ _ (g.mn a b ha hb) (g.mn a t ha l') hc, ← e2]
  · intro e
    exact (jall_up g (leftW n J M a c) z g.zn leftW_lt).2.2 b (List.mem_filter.mpr ⟨List.mem_range.mpr hb, decide_eq_true e⟩)
theorem right_adj (g : Gd n J M z o) {a b c : Nat} (ha : a < n) (hb : b < n) (hc : c < n) : J a (rightF n J M z c b) = rightF n J M z c b ↔ J (M a b) c = c := left_adj g.turned hb ha hc
theorem meet_adj (g : Gd n J M z o) {a b c : Nat} (ha : a < n) (hb : b < n) (hc : c < n) : J a (meetF n J z b c) = meetF n J z b c ↔ J a b = b ∧ J a c = c := by
  have m := meet_in g hb hc
  have q := (List.mem_filter.mp m).2
  rw [Bool.and_eq_true] at q
  have q1 := of_decide_eq_true q.1
  have q2 := of_decide_eq_true q.2
  have l : meetF n J z b c < n := List.mem_range.mp (List.mem_filter.mp m).1
  constructor
  · intro e
    generalize meetF n J z b c = t at *
    exact ⟨by rw [← q1, ← g.ja _ _ _ ha l hb, e], by rw [← q2, ← g.ja _ _ _ ha l hc, e]⟩
  · rintro ⟨e1, e2⟩
    rw [meetF_W]
    exact (jall_up g (meetW n J b c) z g.zn meetW_lt).2.2 a (List.mem_filter.mpr ⟨List.mem_range.mpr ha, by rw [decide_eq_true e1, decide_eq_true e2]; rfl⟩)
end

/-! ### leavings of reckonings beside one another, of lots -/
open RK (Gd bes lotP Lb Mo)
section
variable {n m : Nat} {J M J' M' : Nat → Nat → Nat} {z o z' o' : Nat}
theorem gd_adj (g : Gd n J M z o) {u v : Nat} (hu : u < n) (hv : v < n) (h : ∀ b, b < n → (J b u = u ↔ J b v = v)) : u = v := by
  have h1 := (h u hu).mp (g.id u hu)
  have h2 := (h v hv).mpr (g.id v hv)
  rw [g.sw v u hv hu] at h2
  exact h2.symm.trans h1
theorem left_lt (g : Gd n J M z o) {a c : Nat} (ha : a < n) (hc : c < n) : leftF n J M z a c < n := leftW_lt _ (left_in g ha hc)
theorem right_lt (g : Gd n J M z o) {a c : Nat} (ha : a < n) (hc : c < n) : rightF n J M z c a < n := left_lt g.turned ha hc
theorem meet_lt (g : Gd n J M z o) {a b : Nat} (ha : a < n) (hb : b < n) : meetF n J z a b < n := meetW_lt _ (meet_in g ha hb)
theorem top_up (g : Gd n J M z o) : jall J z (List.range n) < n ∧ ∀ b, b < n → J b (jall J z (List.range n)) = jall J z (List.range n) := by
  obtain ⟨h1, _, h3⟩ := jall_up g (List.range n) z g.zn fun w hw => List.mem_range.mp hw
  exact ⟨h1, fun b hb => h3 b (List.mem_range.mpr hb)⟩
theorem top_is (g : Gd n J M z o) {u : Nat} (hu : u < n) (h : ∀ b, b < n → J b u = u) : jall J z (List.range n) = u :=
  gd_adj g (top_up g).1 hu fun b hb => ⟨fun _ => h b hb, fun _ => (top_up g).2 b hb⟩
theorem dm_lt {b : Nat} (hb : b < n * m) : b / m < n ∧ b % m < m := by
  have m0 : 0 < m := by
    rcases Nat.eq_zero_or_pos m with e | e
    · rw [e, Nat.mul_zero] at hb; omega
    · exact e
  exact ⟨Nat.div_lt_of_lt_mul (by rw [Nat.mul_comm]; exact hb), Nat.mod_lt _ m0⟩
theorem bes_le (g' : Gd m J' M' z' o') {b x y : Nat} (hb : b < n * m) (hy : y < m) : bes m J J' b (x * m + y) = x * m + y ↔ J (b / m) x = x ∧ J' (b % m) y = y := by
  obtain ⟨_, h2⟩ := dm_lt hb
  have jl := g'.jn _ _ h2 hy
  unfold bes
  rw [RK.bes_div hy, RK.bes_mod hy]
  constructor
  · intro e
    have e1 := congrArg (· / m) e
    have e2 := congrArg (· % m) e
    simp only [RK.bes_div hy, RK.bes_mod hy, RK.bes_div jl, RK.bes_mod jl] at e1 e2
    exact ⟨e1, e2⟩
  · rintro ⟨e1, e2⟩
    rw [e1, e2]
theorem top_bes (g : Gd n J M z o) (g' : Gd m J' M' z' o') : jall (bes m J J') (z * m + z') (List.range (n * m)) = jall J z (List.range n) * m + jall J' z' (List.range m) := by
  obtain ⟨h1, h2⟩ := top_up g
  obtain ⟨h3, h4⟩ := top_up g'
  exact top_is (g.beside g') (RK.bes_lt h1 h3) fun b hb => (bes_le g' hb h3).mpr ⟨h2 _ (dm_lt hb).1, h4 _ (dm_lt hb).2⟩
theorem meet_bes (g : Gd n J M z o) (g' : Gd m J' M' z' o') {x y x' y' : Nat} (hx : x < n) (hy : y < n) (hx' : x' < m) (hy' : y' < m) :
    meetF (n * m) (bes m J J') (z * m + z') (x * m + x') (y * m + y') = meetF n J z x y * m + meetF m J' z' x' y' := by
  have gg := g.beside g'
  have X := RK.bes_lt hx hx'
  have Y := RK.bes_lt hy hy'
  refine gd_adj gg (meet_lt gg X Y) (RK.bes_lt (meet_lt g hx hy) (meet_lt g' hx' hy')) fun b hb => ?_
  obtain ⟨h1, h2⟩ := dm_lt hb
  rw [meet_adj gg hb X Y, bes_le g' hb hx', bes_le g' hb hy', bes_le g' hb (meet_lt g' hx' hy'), meet_adj g h1 hx hy, meet_adj g' h2 hx' hy']
  constructor
  · rintro ⟨⟨a, b⟩, c, d⟩; exact ⟨⟨a, c⟩, b, d⟩
  · rintro ⟨⟨a, c⟩, b, d⟩; exact ⟨⟨a, b⟩, c, d⟩
theorem left_bes (g : Gd n J M z o) (g' : Gd m J' M' z' o') {x y x' y' : Nat} (hx : x < n) (hy : y < n) (hx' : x' < m) (hy' : y' < m) :
    leftF (n * m) (bes m J J') (bes m M M') (z * m + z') (x * m + x') (y * m + y') = leftF n J M z x y * m + leftF m J' M' z' x' y' := by
  have gg := g.beside g'
  have X := RK.bes_lt hx hx'
  have Y := RK.bes_lt hy hy'
  refine gd_adj gg (left_lt gg X Y) (RK.bes_lt (left_lt g hx hy) (left_lt g' hx' hy')) fun b hb => ?_
  obtain ⟨h1, h2⟩ := dm_lt hb
  have ml := g'.mn _ _ hx' h2
  rw [left_adj gg X hb Y, bes_le g' (gg.mn _ _ X hb) hy', bes_le g' hb (left_lt g' hx' hy'), left_adj g hx h1 hy, left_adj g' hx' h2 hy']
  have e1 : bes m M M' (x * m + x') b / m = M x (b / m) := by unfold bes; rw [RK.bes_div hx', RK.bes_mod hx', RK.bes_div ml]
  have e2 : bes m M M' (x * m + x') b % m = M' x' (b % m) := by unfold bes; rw [RK.bes_div hx', RK.bes_mod hx', RK.bes_mod ml]
  rw [e1, e2]
theorem right_bes (g : Gd n J M z o) (g' : Gd m J' M' z' o') {x y x' y' : Nat} (hx : x < n) (hy : y < n) (hx' : x' < m) (hy' : y' < m) :
    rightF (n * m) (bes m J J') (bes m M M') (z * m + z') (y * m + y') (x * m + x') = rightF n J M z y x * m + rightF m J' M' z' y' x' :=
  left_bes g.turned g'.turned hx hy hx' hy'
/-! lots -/
theorem or_le {a c : Nat} : a ||| c = c ↔ ∀ i, a.testBit i = true → c.testBit i = true := by
  constructor
  · intro e i h
    rw [← e, Nat.testBit_or, h]; rfl
  · intro h
    refine Nat.eq_of_testBit_eq fun i => ?_
    rw [Nat.testBit_or]
    cases e : a.testBit i with
    | false => rfl
    | true => rw [h i e]; rfl
theorem and_le {a c : Nat} : a &&& c = a ↔ ∀ i, a.testBit i = true → c.testBit i = true := by
  constructor
  · intro e i h
    have := congrArg (fun q => q.testBit i) e
    simp only [Nat.testBit_and, h, Bool.true_and] at this
    exact this
  · intro h
    refine Nat.eq_of_testBit_eq fun i => ?_
    rw [Nat.testBit_and]
    cases e : a.testBit i with
    | false => rfl
    | true => rw [h i e]; rfl
theorem or_and {a c : Nat} : decide (a ||| c = c) = decide (a &&& c = a) := by rw [decide_eq_decide, or_le, and_le]
theorem top_lots {P : Nat → Nat → Nat} (g : Gd (2 ^ n) (fun a b => a ||| b) M z o) : jall (fun a b => a ||| b) z (List.range (2 ^ n)) = 2 ^ n - 1 := by
  have p0 : 0 < 2 ^ n := Nat.two_pow_pos n
  refine top_is g (by omega) fun b hb => or_le.mpr fun i hi => ?_
  rw [Nat.testBit_two_pow_sub_one]
  exact decide_eq_true (RK.bit_lt hb hi)
theorem meet_lots (g : Gd (2 ^ n) (fun a b => a ||| b) M z o) {a c : Nat} (ha : a < 2 ^ n) (hc : c < 2 ^ n) : meetF (2 ^ n) (fun a b => a ||| b) z a c = a &&& c := by
  refine gd_adj g (meet_lt g ha hc) (Nat.lt_of_le_of_lt Nat.and_le_left ha) fun b hb => ?_
  rw [meet_adj g hb ha hc]
  show (b ||| a = a ∧ b ||| c = c) ↔ b ||| (a &&& c) = a &&& c
  rw [or_le, or_le, or_le]
  constructor
  · rintro ⟨h1, h2⟩ i hi
    rw [Nat.testBit_and, h1 i hi, h2 i hi]; rfl
  · intro h
    refine ⟨fun i hi => ?_, fun i hi => ?_⟩
    · have := h i hi; rw [Nat.testBit_and] at this; simp at this; exact this.1
    · have := h i hi; rw [Nat.testBit_and] at this; simp at this; exact this.2
/-- the lot of things x that come with all of a into c -/
theorem left_lots {P : Nat → Nat → Nat} (pn : ∀ a b, a < n → b < n → P a b < n) (g : Gd (2 ^ n) (fun a b => a ||| b) (lotP n P) z o) {a c u : Nat} (ha : a < 2 ^ n) (hc : c < 2 ^ n) (hu : u < 2 ^ n)
    (h : ∀ x, x < n → (u.testBit x = true ↔ ∀ y, y < n → a.testBit y = true → c.testBit (P y x) = true)) : leftF (2 ^ n) (fun a b => a ||| b) (lotP n P) z a c = u := by
  refine gd_adj g (left_lt g ha hc) hu fun b hb => ?_
  rw [left_adj g ha hb hc]
  show (lotP n P a b ||| c = c) ↔ b ||| u = u
  rw [or_le, or_le]
  constructor
  · intro q x hx
    have xn := RK.bit_lt hb hx
    refine (h x xn).mpr fun y yn hy => q _ (RK.lot_bit.mpr ⟨y, x, yn, xn, hy, hx, rfl⟩)
  · intro q i hi
    obtain ⟨y, x, yn, xn, hy, hx, rfl⟩ := RK.lot_bit.mp hi
    exact (h x xn).mp (q x hx) y yn hy
end

theorem nat_mad {z m z' : Nat} : (z : Int) * m + z' = ((z * m + z' : Nat) : Int) := by rw [Int.natCast_add, Int.natCast_mul]

section
variable {P : Program} {w : World} {K : PySem.W.Frag} {mg : Str → Option Value} {base : Heap} {H : Hp} {R : V → Prop}
theorem rfTy (T : Top K mg) {x : Addr} {n : Nat} {J M : Nat → Nat → Nat} {z o : Nat} (h : RekF K T.C_Reckoning H x n J M z o) : TyX K H (.ref x) (.ref T.C_Reckoning) := by
  obtain ⟨dx, jt, pt, mt, lt, rt, e, _⟩ := h
  exact .base (.ins e T.cl_Reckoning T.ha_Reckoning T.hnO T.htO T.hm_Reckoning)
end

/-! ### turned, beside -/
open OQ (TabX RowX SeqAt)
open RK (Gd bes FltAt)
/-- a thing that is no reckoning -/
def NoR (K : PySem.W.Frag) (C : Addr) (H : Hp) (v : V) : Prop := ∃ t, TyX K H v t ∧ PySem.W.kitOne K t (.ref C) = some false
theorem d_zip {K : PySem.W.Frag} {te : TE} {σ : L2.St} {H : Hp} {Q : VK} (h : te σ H fun v H1 => ∃ a rows vss n, v = .ref a ∧ (SqT K H1 a (rows.map V.ref) ∨ SqL K H1 a (rows.map V.ref)) ∧ ZN.RowsAt K H1 rows vss ∧ 0 < rows.length ∧ rows.length ≤ 16 ∧ (∀ vs ∈ vss, vs.length = n) ∧
  ∀ S T : Nat, H1 S = none → (∀ i, i < n → H1 (T + i) = none) → S < T → Q (.ref S) (ZN.zipH H1 S T vss n)) : ZN.tZip K te σ H Q := h
theorem rows_at {F : Addr → List V → Prop} {g : Nat → List V} : ∀ (rs : List Addr) (s : Nat), (∀ (i : Nat) r, rs[i]? = some r → F r (g (s + i))) → Paired F rs ((List.range' s rs.length).map g)
  | [], _, _ => .nil
  | r :: rs, s, h => by
    rw [List.length_cons, List.range'_succ, List.map_cons]
    refine .cons (h 0 r rfl) (rows_at rs (s + 1) fun i r' e => ?_)
    have := h (i + 1) r' (by simpa using e)
    rwa [show s + (i + 1) = s + 1 + i by omega] at this
/-- what list(zip(*rows)) gives of a table: the table turned -/
theorem zip_tab {K : PySem.W.Frag} {H : Hp} {n S T : Nat} {M : Nat → Nat → Nat} (nS : H S = none) (nT : ∀ i, i < n → H (T + i) = none) (l : S < T) :
    TabX K (ZN.zipH H S T ((List.range n).map fun i => (List.range n).map fun j => V.int (M i j : Nat)) n) S n (fun a b => M b a) := by
  refine ⟨(List.range n).map fun i => (T + i : Nat), by simp, .inl (SqL.of (by rw [ZN.zipH_S, List.map_map]; rfl)), fun i r e => ?_⟩
  have hi : i < n := by
    have := (List.getElem?_eq_some_iff.mp e).1
    simpa using this
  rw [List.getElem?_map, List.getElem?_range hi] at e
  cases e
  refine .inr (SqT.of ?_)
  show ZN.zipH H S T _ n (T + i) = _
  rw [ZN.zipH_T l hi]
  congr 2
  unfold ZN.colV
  rw [List.map_map]
  refine List.map_congr_left fun a ha => ?_
  show ((List.range n).map fun j => V.int (M a j : Nat)).getD i .non = _
  simp [hi]
def ObsN (H : Hp) (D : Addr) (k : Nat) (g : Nat → HO) : Prop := ∃ us : List Addr, us.length = k ∧ H D = some (.lst (us.map V.ref)) ∧ ∀ (j : Nat) (u : Addr), us[j]? = some u → u ≠ D ∧ H u = some (g j)
theorem obsN_zero {H : Hp} {D : Addr} {g : Nat → HO} : ObsN (upd H D (.lst [])) D 0 g := ⟨[], rfl, upd_same, (fun _ _ e => nomatch e)⟩
theorem obsN_step {H H' H'' : Hp} {D q : Addr} {k : Nat} {g : Nat → HO} (hD : H D = none) (s1 : Same H H') (r : ObsN H' D k g) (hq : H' q = none) (s2 : Same H' H'') (hk : k ≤ 1000) (eq : H'' q = some (g k)) :
    ∃ acc, H'' D = some (.lst acc) ∧ acc.length < sizeLine ∧ Same H (upd H'' D (.lst (acc ++ [V.ref q]))) ∧ ObsN (upd H'' D (.lst (acc ++ [V.ref q]))) D (k + 1) g := by
  obtain ⟨us, lu, eD, all⟩ := r
  have nD : q ≠ D := fun z => by rw [z, eD] at hq; cases hq
  refine ⟨us.map V.ref, s2 _ _ eD, by rw [List.length_map, lu]; exact Nat.lt_of_le_of_lt hk (by decide), same_put (s1.trans s2) hD, us ++ [q], by rw [List.length_append, lu]; rfl, by rw [upd_same, List.map_append]; rfl, fun j u e => ?_⟩
  by_cases lj : j < us.length
  · rw [List.getElem?_append_left lj] at e
    obtain ⟨h1, h2⟩ := all j u e
    exact ⟨h1, by rw [upd_ne h1]; exact s2 _ _ h2⟩
  · have : j = us.length := by
      have := (List.getElem?_eq_some_iff.mp e).1
      rw [List.length_append] at this
      simp at this
      omega
    subst this
    rw [List.getElem?_append_right (by omega), Nat.sub_self] at e
    cases e
    exact ⟨nD, by rw [upd_ne nD, eq, lu]⟩
def prG (m j : Nat) : HO := .tup [.int ((j / m : Nat) : Int), .int ((j % m : Nat) : Int)]
def spSBS (K : PySem.W.Frag) : Sp := fun vs H Q _ => ∃ (x y : Addr) (n m : Nat) (J J' : Nat → Nat → Nat), vs = [.ref x, .ref y] ∧ TabX K H x n J ∧ TabX K H y m J' ∧ 1 ≤ m ∧ 1 ≤ n ∧ n * m ≤ 16 ∧ ∀ p H', Same H H' → TabXL H' p (n * m) (bes m J J') → Q (.ref p) H'
def spChkT (K : PySem.W.Frag) (C CB : Addr) : Sp := fun vs H Q E => ∃ v, vs = [v] ∧ ((∃ (x n : Nat) (J M : Nat → Nat → Nat) (z o : Nat), v = .ref x ∧ RekF K C H x n J M z o ∧ Q .non H) ∨ (NoR K C H v ∧ ∀ d, H d = none → E (.ref CB) (some d) (upd H d (ErrD v))))
def spTurn (K : PySem.W.Frag) (C CB : Addr) : Sp := fun vs H Q E => ∃ v, vs = [v] ∧ ((∃ (x n : Nat) (J M : Nat → Nat → Nat) (z o : Nat), v = .ref x ∧ RekF K C H x n J M z o ∧ ∀ y H', Same H H' → RekF K C H' y n J (fun a b => M b a) z o → Q (.ref y) H') ∨
  (NoR K C H v ∧ ∀ d, H d = none → E (.ref CB) (some d) (upd H d (ErrD v))))
def spWE0 (K : PySem.W.Frag) : Sp := fun vs H Q _ => ∃ (a C : Addr), vs = [.ref a] ∧ OexC K C ∧ PySem.W.findIn K (.ref C) "value" = some none ∧ H a = some (exo a C none) ∧
  ∀ d, H d = none → d ≠ a → Q .non (upd (upd H d (exd d [("value", V.non)])) a (exo a C (some d)))
theorem d_mkO0 {K : PySem.W.Frag} {H : Hp} {C : Addr} {R : XK} (oc : OexC K C) (nv : PySem.W.findIn K (.ref C) "value" = some none) (k : ∀ d, H d = none → R (.ref C) (some d) (upd H d (ErrD .non))) :
    ([] : List V).length ≤ 1000 ∧ ∀ a, H a = none → spWE0 K (.ref a :: ([] ++ [])) (upd H a (exo a C none))
      (fun u H2 => u = .non ∧ ∃ (d : Addr) (fs : List (Str × V)), H2 a = some (exo a C (some d)) ∧ H2 d = some (exd d fs) ∧ H d = none ∧ R (.ref C) (some d) (upd (del H2 a) d (.xd fs))) (fun _ _ _ => False) := by
  obtain ⟨_, q⟩ := d_mkO (v := V.non) oc nv k
  refine ⟨by simp, fun a ha => ?_⟩
  obtain ⟨a', C', v', e, h1, h2, h3, h4⟩ := q a ha
  cases e
  exact ⟨a, C', rfl, h1, h2, h3, h4⟩
def spBeside (K : PySem.W.Frag) (C CB CM : Addr) : Sp := fun vs H Q E => ∃ v u, vs = [v, u] ∧ ((∃ (x n : Nat) (J M : Nat → Nat → Nat) (z o y m : Nat) (J' M' : Nat → Nat → Nat) (z' o' : Nat), v = .ref x ∧ u = .ref y ∧ RekF K C H x n J M z o ∧ RekF K C H y m J' M' z' o' ∧
    (n * m ≤ 16 → ∀ t H', Same H H' → RekF K C H' t (n * m) (bes m J J') (bes m M M') (z * m + z') (o * m + o') → Q (.ref t) H') ∧ (16 < n * m → ∀ d, H d = none → E (.ref CM) (some d) (upd H d (ErrD .non)))) ∨
  (NoR K C H v ∧ ∀ d, H d = none → E (.ref CB) (some d) (upd H d (ErrD v))) ∨
  (∃ (x n : Nat) (J M : Nat → Nat → Nat) (z o : Nat), v = .ref x ∧ RekF K C H x n J M z o ∧ NoR K C H u ∧ ∀ d, H d = none → E (.ref CB) (some d) (upd H d (ErrD u))))
section
variable {P : Program} {w : World} {K : PySem.W.Frag} {mg : Str → Option Value} {base : Heap}
theorem ok_TooMany__init (T : Top K mg) : FnOk P w K mg base CX0 2 T.f_TooMany__init T.fd_TooMany__init ["self"] (spWE0 K) := by
  refine T.F_TooMany__init.ok sc_TooMany__init (fun vs H Q E h => ?_) (fun cdv A outer s H vs Q E hr h => ?_)
  · obtain ⟨a, C, rfl, _⟩ := h; rfl
  · obtain ⟨a, C, rfl, oc, nv, ha, q⟩ := h
    refine ⟨_, (pss_one (ps_expr (OQ.pe_cdef (pe_glob (v := V.ref T.C_WayError) (by rfl) T.g_WayError rfl) T.c_WE (ok_WayError__init T) (hr.mono (by decide)) T.b_WayError__init pass0 (pa_cons (pv 0) (pa_cons pe_non pa_nil))))), ?_⟩
    walk_at "tx"
    refine ⟨rfl, ?_⟩
    walk_at "tx"
    exact ⟨a, C, .non, rfl, oc, nv, ha, q⟩
theorem ok_check_told (T : Top K mg) : FnOk P w K mg base (L2.CX P w) 4 T.f_check_told T.fd_check_told ["reckoning"] (spChkT K T.C_Reckoning T.C_BadReckoning) := by
  refine T.F_check_told.okX sc_check_told (fun vs H Q E h => ?_) (fun cdv A outer s H vs Q E hr h => ?_)
  · obtain ⟨v, rfl, _⟩ := h; rfl
  · obtain ⟨v, rfl, h⟩ := h
    refine ⟨_, (pss_one (ps_if (pt_not (pt_val (pe_callB call_isi (by rfl) T.n_isinstance (by decide +kernel) (pa_cons (pv 0) (pa_cons (pe_glob (v := V.ref T.C_Reckoning) (by rfl) T.g_Reckoning rfl) pa_nil)))))
 (pss_one (ps_raise rfl (takes_of rfl rfl rfl rfl) (pmk_oex T.oex_BadReckoning T.i_BadReckoning T.tI (ok_WayError__init T) (hr.mono (by decide)) T.b_WayError__init .nil pass0 (by rfl) T.g_BadReckoning (pa_cons (pv 0) pa_nil))))
 pss_nil)), ?_⟩
    walk_at "tx"
    rcases h with ⟨x, n, J, M, z, o, rfl, rf, k⟩ | ⟨⟨t, ty, kt⟩, kE⟩
    · refine RD.d_isi (.own _) (rfTy T rf) T.kRR ?_
      refine ⟨true, rfl, RD.d_iteNT ?_⟩
      walk_at "tx"
      exact k
    · refine RD.d_isi (.own _) ty kt ?_
      refine ⟨false, rfl, RD.d_iteNF ?_⟩
      walk_at "tx"
      exact d_mkO T.oex_BadReckoning T.v_BadReckoning fun d hd => kE d hd
theorem ok_turned (T : Top K mg) : FnOk P w K mg base (L2.CX P w) 14 T.f_turned T.fd_turned ["reckoning"] (spTurn K T.C_Reckoning T.C_BadReckoning) := by
  refine T.F_turned.okX sc_turned (fun vs H Q E h => ?_) (fun cdv A outer s H vs Q E hr h => ?_)
  · obtain ⟨v, rfl, _⟩ := h; rfl
  · obtain ⟨v, rfl, h⟩ := h
    refine ⟨_, (pss_cons (ps_expr (pe_call (ok_check_told T) (hr.mono (by decide)) (by rfl) T.g_check_told T.F_check_told.kp T.b_check_told .nil (passes_call (takes_of rfl rfl rfl rfl) (fun _ _ _ _ h => h)) (pa_cons (pv 0) pa_nil)))
 (pss_one (ps_ret (pe_make T.M_Reckoning (ok_Reckoning__init T) (hr.mono (by decide)) (by rfl) T.g_Reckoning T.b_Reckoning__init .nil (passes_call (takes_of rfl rfl rfl rfl) (fun _ _ _ _ h => h)) (pa_cons (pe_fld (pv 0) (by rfl)) (pa_cons (ZN.pe_listZip rfl (by rfl) T.n_list (by rfl) T.n_zip (pe_fld (pv 0) (by rfl))) (pa_cons (pe_fld (pv 0) (by rfl)) (pa_cons (pe_fld (pv 0) (by rfl)) pa_nil)))))))), ?_⟩
    walk_at "tx"
    rcases h with ⟨x, n, J, M, z, o, rfl, rf, k⟩ | ⟨nr, kE⟩
    · refine ⟨_, rfl, .inl ⟨x, n, J, M, z, o, rfl, rf, ?_⟩⟩
      obtain ⟨_, _, _, _, _, _, _, _, _, _, _, _, eR, n2, n16, zn, on, wj, wp⟩ := id rf
      walk_at "tx"
      refine rfJ T rf (fun jt tj => ?_)
      walk_at "tx"
      refine d_zip ?_
      walk_at "tx"
      refine rfP T rf (fun pt tp => ?_)
      obtain ⟨rs, l, e, q⟩ := id tp
      refine ⟨pt, rs, (List.range n).map fun i => (List.range n).map fun j => V.int (M i j : Nat), n, rfl, .inl e, ?_, by omega, by omega, by simp, fun S T0 nS nT ST => ?_⟩
      · have := rows_at (F := fun r vs => SqT K H r vs ∨ SqL K H r vs) (g := fun i => (List.range n).map fun j => V.int (M i j : Nat)) rs 0 (fun i r e => .inl (by rw [Nat.zero_add]; exact q i r e))
        rw [l, ← List.range_eq_range'] at this
        exact this
      have sz : Same H (ZN.zipH H S T0 ((List.range n).map fun i => (List.range n).map fun j => V.int (M i j : Nat)) n) := fun b u e => ZN.zipH_kp nS nT e
      have tz := zip_tab (K := K) (M := M) nS nT ST
      replace tj := tj.same sz
      replace rf := rf.same sz
      generalize ZN.zipH H S T0 ((List.range n).map fun i => (List.range n).map fun j => V.int (M i j : Nat)) n = H1 at *
      walk_at "tx"
      refine rfN T rf ?_
      walk_at "tx"
      refine rfO T rf ?_
      walk_at "tx"
      intro y dy ny ndy ne
      have s3 := same_made (C := T.C_Reckoning) ny ndy ne
      have gd := (Gd.of_rest zn on wj wp eR).turned.rest
      refine spReck_good (n := n) (z := z) (o := o) (J := J) (M := fun a b => M b a) upd_same (tj.x.same s3) (tz.same s3) n2 n16 zn on wj (fun a b ha hb => wp b a hb ha) (fun _ H4 kx f => ⟨rfl, ?_⟩) (fun f e => by rw [gd] at e; cases e)
      have s14 : Same H1 H4 := fun b u e => kx _ _ (ne_of_none e ny) (s3 _ _ e)
      exact k y H4 (sz.trans s14) f
    · exact ⟨_, rfl, .inr ⟨nr, kE⟩⟩
theorem ok_side_by_side (T : Top K mg) : FnOk P w K mg base CX0 1 T.f_side_by_side T.fd_side_by_side ["one", "other"] (spSBS K) := by
  refine T.F_side_by_side.ok sc_side_by_side (fun vs H Q E h => ?_) (fun cdv A outer s H vs Q E hr h => ?_)
  · obtain ⟨x, y, n, m, J, J', rfl, _⟩ := h; rfl
  · obtain ⟨x, y, n, m, J, J', rfl, tx, ty, m1, n1, nm, k⟩ := h
    refine ⟨_, (pss_cons (ps_set (i := 2) sc_side_by_side.nd rfl (Or.inr rfl) (pe_callB RD.c_len (by rfl) T.n_len (by decide +kernel) (pa_cons (pv 1) pa_nil)))
 (pss_cons (ps_set (i := 3) sc_side_by_side.nd rfl (Or.inr rfl) (pe_lc2 (own := [("a", 4), ("b", 5)]) (vs1 := [5]) (g := (gName 4)) (tt := tYes) (g1 := (gName 5)) (tt1 := tYes) rfl sc_side_by_side.nd (pi_range1 (by rfl) T.n_range (pa_cons (pe_callB RD.c_len (by rfl) T.n_len (by decide +kernel) (pa_cons (pv 0) pa_nil)) pa_nil)) (blkOk_by (own := [("a", 4), ("b", 5)]) (N := ["one", "other", "size", "pairs", "a", "b", "c", "d"]) (sc := defScope s_side_by_side) (by decide +kernel)) (by decide) (fun _ _ _ _ _ => (pg_name (i := 4) sc_side_by_side.nd rfl (by first | exact Or.inl rfl | exact Or.inr rfl))) (fun _ _ _ _ _ => pts_nil) (fun _ _ _ _ _ => (pi_range1 (by rfl) T.n_range (pa_cons (pv 2) pa_nil))) (fun _ _ _ _ _ => (pg_name (i := 5) sc_side_by_side.nd rfl (by first | exact Or.inl rfl | exact Or.inr rfl))) (fun _ _ _ _ _ => pts_nil) (fun _ _ _ _ _ => (pe_tup (pa_cons (pv 4) (pa_cons (pv 5) pa_nil))))))
 (pss_one (ps_ret (pe_lc (own := [("a", 4), ("b", 5)]) (g := (gTup K 2 (gCons (gName 4) (gCons (gName 5) gNil)))) (tt := tYes) rfl sc_side_by_side.nd (pi_list (pv 3)) (blkOk_by (own := [("a", 4), ("b", 5)]) (N := ["one", "other", "size", "pairs", "a", "b", "c", "d"]) (sc := defScope s_side_by_side) (by decide +kernel)) (fun _ _ _ _ _ => (pg_tup (by rfl) (pgs_cons (pg_name (i := 4) sc_side_by_side.nd rfl (by first | exact Or.inl rfl | exact Or.inr rfl)) (pgs_cons (pg_name (i := 5) sc_side_by_side.nd rfl (by first | exact Or.inl rfl | exact Or.inr rfl)) pgs_nil)))) (fun _ _ _ _ _ => pts_nil) (fun _ _ _ _ _ => (pe_lc (own := [("c", 6), ("d", 7)]) (g := (gTup K 2 (gCons (gName 6) (gCons (gName 7) gNil)))) (tt := tYes) rfl sc_side_by_side.nd (OQ.pi_listK K (pv 3)) (blkOk_by (own := [("c", 6), ("d", 7)]) (N := ["one", "other", "size", "pairs", "a", "b", "c", "d"]) (sc := _) (by kernel_rfl)) (fun _ _ _ _ _ => (pg_tup (by rfl) (pgs_cons (pg_name (i := 6) sc_side_by_side.nd rfl (by first | exact Or.inl rfl | exact Or.inr rfl)) (pgs_cons (pg_name (i := 7) sc_side_by_side.nd rfl (by first | exact Or.inl rfl | exact Or.inr rfl)) pgs_nil)))) (fun _ _ _ _ _ => pts_nil) (fun _ _ _ _ _ => (pe_op op_add (pe_op op_mul (pe_ix (OQ.ixA K) (pe_ix (OQ.ixA K) (pv 0) (pv 4) (fun _ _ => rfl)) (pv 6) (fun _ _ => rfl)) (pv 2)) (pe_ix (OQ.ixA K) (pe_ix (OQ.ixA K) (pv 1) (pv 5) (fun _ _ => rfl)) (pv 7) (fun _ _ => rfl))))))))))), ?_⟩
    have n16 : n ≤ 16 := Nat.le_trans (Nat.le_mul_of_pos_right n m1) nm
    have m16 : m ≤ 16 := Nat.le_trans (Nat.le_mul_of_pos_left m n1) nm
    walk_at "tx"
    refine ty.len ?_
    walk_at "tx"
    refine tx.len ?_
    walk_at "tx"
    refine ⟨n, rfl, by omega, by omega, fun D hD => ?_⟩
    refine OM.c2_range (lo := 0) (n := (n : Int).toNat) (fun a H' => Same H H' ∧ ObsN H' D (a * m) (prG m)) ⟨same_upd hD, by rw [Nat.zero_mul]; exact obsN_zero⟩ ?_ ?_
    · rintro a H1 ha ⟨s1, r1⟩
      have ha' : a < n := by omega
      have amm : a * m + m ≤ n * m := by rw [← Nat.succ_mul]; exact Nat.mul_le_mul_right m ha'
      walk_at "tx"
      refine ⟨m, rfl, by omega, by omega, ?_⟩
      refine OM.c2_range (lo := 0) (n := (m : Int).toNat) (fun b H' => Same H H' ∧ ObsN H' D (a * m + b) (prG m)) ⟨s1, r1⟩ ?_ ?_
      · rintro b H2 hb ⟨s2, r2⟩
        have hb' : b < m := by omega
        walk_at "tx"
        refine ⟨by show 2 ≤ sizeLine; decide, fun q hq => ?_⟩
        have ep : HO.tup [V.int (0 + (a : Int)), V.int (0 + (b : Int))] = prG m (a * m + b) := by
          unfold prG
          rw [RK.bes_div hb', RK.bes_mod hb', Int.zero_add, Int.zero_add]
        obtain ⟨acc, q1, q2, q3, q4⟩ := obsN_step (H'' := upd H2 q (.tup [V.int (0 + (a : Int)), V.int (0 + (b : Int))])) hD s2 r2 hq (same_upd hq) (by omega) (by rw [upd_same, ep])
        refine ⟨acc, q1, q2, q3, q4⟩
      · rintro H2 ⟨s2, r2⟩
        rw [Int.toNat_natCast, ← Nat.succ_mul] at r2
        exact ⟨s2, r2⟩
    rintro H1 ⟨s1, us, lu, eD, all⟩
    rw [Int.toNat_natCast] at lu
    have m0 : 0 < m := m1
    have lx : (us.map V.ref).length = n * m := by rw [List.length_map, lu]
    have usG : ∀ (H2 : Hp) (j : Nat) (v : V), Same H1 H2 → (us.map V.ref)[j]? = some v → j < n * m ∧ ∃ u, v = .ref u ∧ H2 u = some (prG m j) := fun H2 j v s e => by
      rw [List.getElem?_map] at e
      cases eu : us[j]? with
      | none => rw [eu] at e; cases e
      | some u =>
        rw [eu] at e
        cases e
        exact ⟨by rw [← lu]; exact (List.getElem?_eq_some_iff.mp eu).1, u, rfl, s _ _ (all j u eu).2⟩
    walk_at "tx"
    intro D2 hD2
    refine lc_list (K := K) (xs := us.map V.ref) (fun i H' => Same H1 H' ∧ RowsN H' D2 (n * m) i (bes m J J')) ⟨same_upd hD2, rowsN_zero⟩ (fun i H' _ p => SqL.of (p.1 _ _ eD)) ?_ ?_
    · rintro i v H2 ev ⟨s2, r2⟩
      obtain ⟨hi, u, rfl, eu⟩ := usG H2 i v s2 ev
      have di : i / m < n := Nat.div_lt_of_lt_mul (by rw [Nat.mul_comm]; exact hi)
      have mi : i % m < m := Nat.mod_lt _ m0
      refine RD.d_two rfl (SqT.of eu) ?_
      walk_at "tx"
      refine ⟨D, rfl, ⟨_, SqL.of (s2 _ _ eD)⟩, fun D3 hD3 => ?_⟩
      refine lc_list (K := K) (xs := us.map V.ref) (fun j H' => Same H2 H' ∧ H' D3 = some (.lst ((List.range j).map fun c => V.int (bes m J J' i c : Nat)))) ⟨same_upd hD3, upd_same⟩ (fun j H' _ p => SqL.of (p.1 _ _ (s2 _ _ eD))) ?_ ?_
      · rintro j v H3 ev' ⟨s3, e3⟩
        obtain ⟨hj, u', rfl, eu'⟩ := usG H3 j v (s2.trans s3) ev'
        have dj : j / m < n := Nat.div_lt_of_lt_mul (by rw [Nat.mul_comm]; exact hj)
        have mj : j % m < m := Nat.mod_lt _ m0
        have tx3 := tx.same ((s1.trans s2).trans s3)
        have ty3 := ty.same ((s1.trans s2).trans s3)
        refine RD.d_two rfl (SqT.of eu') ?_
        walk_at "tx"
        refine OQ.xT tx3 rfl di fun r hr' => ?_
        walk_at "tx"
        refine OQ.xR hr' rfl dj ?_
        walk_at "tx"
        refine OQ.xT ty3 rfl mi fun r' hr'' => ?_
        walk_at "tx"
        refine OQ.xR hr'' rfl mj ?_
        walk_at "tx"
        exact rowPutN (g := fun c => bes m J J' i c) hD3 s3 (by omega) e3 (by show V.int _ = V.int ((J (i / m) (j / m) * m + J' (i % m) (j % m) : Nat) : Int); rw [Int.natCast_add, Int.natCast_mul])
      · rintro H3 ⟨s3, e3⟩
        rw [lx] at e3
        exact rowsN_step hD2 s2 r2 hD3 s3 (by omega) e3
    · rintro H2 ⟨s2, r2⟩
      rw [lx] at r2
      exact k D2 H2 (s1.trans s2) (rowsN_end r2)
theorem ok_beside (T : Top K mg) : FnOk P w K mg base (L2.CX P w) 14 T.f_beside T.fd_beside ["one", "other"] (spBeside K T.C_Reckoning T.C_BadReckoning T.C_TooMany) := by
  refine T.F_beside.okX sc_beside (fun vs H Q E h => ?_) (fun cdv A outer s H vs Q E hr h => ?_)
  · obtain ⟨v, u, rfl, _⟩ := h; rfl
  · obtain ⟨v, u, rfl, h⟩ := h
    refine ⟨_, (pss_cons (ps_expr (pe_call (ok_check_told T) (hr.mono (by decide)) (by rfl) T.g_check_told T.F_check_told.kp T.b_check_told .nil (passes_call (takes_of rfl rfl rfl rfl) (fun _ _ _ _ h => h)) (pa_cons (pv 0) pa_nil)))
 (pss_cons (ps_expr (pe_call (ok_check_told T) (hr.mono (by decide)) (by rfl) T.g_check_told T.F_check_told.kp T.b_check_told .nil (passes_call (takes_of rfl rfl rfl rfl) (fun _ _ _ _ h => h)) (pa_cons (pv 1) pa_nil)))
 (pss_cons (ps_if (pt_cmpR op_gt (pe_op op_mul (pe_callB RD.c_len (by rfl) T.n_len (by decide +kernel) (pa_cons (pe_fld (pv 0) (by rfl)) pa_nil)) (pe_callB RD.c_len (by rfl) T.n_len (by decide +kernel) (pa_cons (pe_fld (pv 1) (by rfl)) pa_nil))) (pe_glob (v := V.int 16) (by rfl) T.g_MOST_WORTHS ⟨_, rfl⟩) (nomark _))
 (pss_one (ps_raise rfl (takes_of rfl rfl rfl rfl) (OQ.pmk_mk0 T.oex_TooMany T.i_TooMany T.tI_TooMany (ok_TooMany__init T) (hr.mono (by decide)) T.b_TooMany__init .nil pass0 (by rfl) T.g_TooMany)))
 pss_nil)
 (pss_cons (ps_set (i := 2) sc_beside.nd rfl (Or.inl rfl) (pe_callB RD.c_len (by rfl) T.n_len (by decide +kernel) (pa_cons (pe_fld (pv 1) (by rfl)) pa_nil)))
 (pss_one (ps_ret (pe_make T.M_Reckoning (ok_Reckoning__init T) (hr.mono (by decide)) (by rfl) T.g_Reckoning T.b_Reckoning__init .nil (passes_call (takes_of rfl rfl rfl rfl) (fun _ _ _ _ h => h)) (pa_cons (pe_call (ok_side_by_side T) (hr.mono (by decide)) (by rfl) T.g_side_by_side T.F_side_by_side.kp T.b_side_by_side .nil pass0 (pa_cons (pe_fld (pv 0) (by rfl)) (pa_cons (pe_fld (pv 1) (by rfl)) pa_nil))) (pa_cons (pe_call (ok_side_by_side T) (hr.mono (by decide)) (by rfl) T.g_side_by_side T.F_side_by_side.kp T.b_side_by_side .nil pass0 (pa_cons (pe_fld (pv 0) (by rfl)) (pa_cons (pe_fld (pv 1) (by rfl)) pa_nil))) (pa_cons (pe_op op_add (pe_op op_mul (pe_fld (pv 0) (by rfl)) (pv 2)) (pe_fld (pv 1) (by rfl))) (pa_cons (pe_op op_add (pe_op op_mul (pe_fld (pv 0) (by rfl)) (pv 2)) (pe_fld (pv 1) (by rfl))) pa_nil))))))))))), ?_⟩
    walk_at "tx"
    rcases h with ⟨x, n, J, M, z, o, y, m, J', M', z', o', rfl, rfl, rf, rg, k, kM⟩ | ⟨nr, kE⟩ | ⟨x, n, J, M, z, o, rfl, rf, nr, kE⟩
    · refine ⟨_, rfl, .inl ⟨x, n, J, M, z, o, rfl, rf, ?_⟩⟩
      walk_at "tx"
      refine ⟨_, rfl, .inl ⟨y, m, J', M', z', o', rfl, rg, ?_⟩⟩
      obtain ⟨_, _, _, _, _, _, _, _, _, _, _, _, eR, n2, n16, zn, on, wj, wp⟩ := id rf
      obtain ⟨_, _, _, _, _, _, _, _, _, _, _, _, eR', m2, m16, zm, om, wj', wp'⟩ := id rg
      walk_at "tx"
      refine rfJ T rf (fun jt tj => ?_)
      walk_at "tx"
      refine tj.x.len ?_
      walk_at "tx"
      refine rfJ T rg (fun jt' tj' => ?_)
      walk_at "tx"
      refine tj'.x.len ?_
      walk_at "tx"
      refine RD.iteD (fun c => ?_) (fun c => ?_)
      · walk_at "tx"
        exact d_mkO0 T.oex_TooMany T.v_TooMany fun d hd => kM (by rw [← Int.natCast_mul] at c; omega) d hd
      have nm : n * m ≤ 16 := by rw [← Int.natCast_mul] at c; omega
      walk_at "tx"
      refine rfJ T rg (fun jt' tj' => ?_)
      walk_at "tx"
      refine tj'.x.len ?_
      walk_at "tx"
      refine rfJ T rf (fun a1 t1 => ?_)
      walk_at "tx"
      refine rfJ T rg (fun b1 u1 => ?_)
      walk_at "tx"
      refine ⟨a1, b1, n, m, J, J', rfl, t1.x, u1.x, by omega, by omega, nm, fun p1 H1 s1 q1 => ?_⟩
      replace rf := rf.same s1
      replace rg := rg.same s1
      walk_at "tx"
      refine rfP T rf (fun a2 t2 => ?_)
      walk_at "tx"
      refine rfP T rg (fun b2 u2 => ?_)
      walk_at "tx"
      refine ⟨a2, b2, n, m, M, M', rfl, t2.x, u2.x, by omega, by omega, nm, fun p2 H2 s2 q2 => ?_⟩
      replace rf := rf.same s2
      replace rg := rg.same s2
      replace q1 := q1.same s2
      walk_at "tx"
      refine rfN T rf ?_
      walk_at "tx"
      refine rfN T rg ?_
      walk_at "tx"
      refine rfO T rf ?_
      walk_at "tx"
      refine rfO T rg ?_
      walk_at "tx"
      intro t dt nt ndt ne
      have s3 := same_made (C := T.C_Reckoning) nt ndt ne
      have gd := (Gd.of_rest zn on wj wp eR).beside (Gd.of_rest zm om wj' wp' eR')
      have gr := gd.rest
      have nm2 : 2 * 2 ≤ n * m := Nat.mul_le_mul n2 m2
      rw [nat_mad, nat_mad]
      refine spReck_good (n := n * m) (z := z * m + z') (o := o * m + o') (J := bes m J J') (M := bes m M M') upd_same (q1.x.same s3) (q2.x.same s3) (by omega) nm gd.zn gd.on gd.jn gd.mn (fun _ H4 kx f => ⟨rfl, ?_⟩) (fun f e => by rw [gr] at e; cases e)
      have s14 : Same H2 H4 := fun b u e => kx _ _ (ne_of_none e nt) (s3 _ _ e)
      exact k nm t H4 ((s1.trans s2).trans s14) f
    · exact ⟨_, rfl, .inr ⟨nr, kE⟩⟩
    · refine ⟨_, rfl, .inl ⟨x, n, J, M, z, o, rfl, rf, ?_⟩⟩
      walk_at "tx"
      exact ⟨_, rfl, .inr ⟨nr, kE⟩⟩
end

/-! ### greater ones -/
open OQ (TabX RowX SeqAt)
def spGreater : Sp := fun vs H Q _ => ∃ n : Nat, vs = [.int n] ∧ n ≤ 17 ∧ ∀ p H', Same H H' → H p = none → TabXL H' p n max → Q (.ref p) H'
section
variable {P : Program} {w : World} {K : PySem.W.Frag} {mg : Str → Option Value} {base : Heap}
theorem ok_greater_ones (T : Top K mg) : FnOk P w K mg base CX0 1 T.f_greater_ones T.fd_greater_ones ["size"] spGreater := by
  refine T.F_greater_ones.ok sc_greater_ones (fun vs H Q E h => ?_) (fun cdv A outer s H vs Q E hr h => ?_)
  · obtain ⟨n, rfl, _⟩ := h; rfl
  · obtain ⟨n, rfl, n16, k⟩ := h
    refine ⟨_, (pss_one (ps_ret (pe_lc (own := [("a", 1)]) (g := (gName 1)) (tt := tYes) rfl sc_greater_ones.nd (pi_range1 (by rfl) T.n_range (pa_cons (pv 0) pa_nil)) (blkOk_by (own := [("a", 1)]) (N := ["size", "a", "b"]) (sc := defScope s_greater_ones) (by decide +kernel)) (fun _ _ _ _ _ => (pg_name (i := 1) sc_greater_ones.nd rfl (by first | exact Or.inl rfl | exact Or.inr rfl))) (fun _ _ _ _ _ => pts_nil) (fun _ _ _ _ _ => (pe_lc (own := [("b", 2)]) (g := (gName 2)) (tt := tYes) rfl sc_greater_ones.nd (pi_range1 (by rfl) T.n_range (pa_cons (pv 0) pa_nil)) (blkOk_by (own := [("b", 2)]) (N := ["size", "a", "b"]) (sc := _) (by kernel_rfl)) (fun _ _ _ _ _ => (pg_name (i := 2) sc_greater_ones.nd rfl (by first | exact Or.inl rfl | exact Or.inr rfl))) (fun _ _ _ _ _ => pts_nil) (fun _ _ _ _ _ => (pe_callB (call_max2 rfl) (by rfl) T.n_max (by decide +kernel) (pa_cons (pv 1) (pa_cons (pv 2) pa_nil))))))))), ?_⟩
    walk_at "tx"
    refine ⟨n, rfl, by omega, by omega, ?_⟩
    intro D hD
    refine lc_range (lo := 0) (n := (n : Int).toNat) (fun i H' => Same H H' ∧ RowsN H' D n i max) ⟨same_upd hD, rowsN_zero⟩ ?_ ?_
    · rintro i H' hi' ⟨s1, r1⟩
      have hi : i < n := by omega
      walk_at "tx"
      refine ⟨n, rfl, by omega, by omega, ?_⟩
      intro D2 hD2
      refine lc_range (lo := 0) (n := (n : Int).toNat) (fun j H'' => Same H' H'' ∧ H'' D2 = some (.lst ((List.range j).map fun c => V.int ((max i c : Nat) : Int)))) ⟨same_upd hD2, upd_same⟩ ?_ ?_
      · rintro j H'' hj' ⟨s2, eD2⟩
        walk_at "tx"
        refine ⟨_, _, rfl, ?_⟩
        exact rowPutN (g := fun c => max i c) hD2 s2 (by omega) eD2 (by congr 1; split <;> omega)
      · rintro H'' ⟨s2, eD2⟩
        rw [Int.toNat_natCast] at eD2
        exact rowsN_step hD s1 r1 hD2 s2 (by omega) eD2
    · rintro H' ⟨s1, r1⟩
      rw [Int.toNat_natCast] at r1
      exact k D H' s1 hD (rowsN_end r1)
end

/-! ### chains, turned ones -/
open OQ (TabX RowX SeqAt)
open RK (Gd bes)
def spChainG (K : PySem.W.Frag) (C : Addr) : Sp := fun vs H Q _ => ∃ (b : Addr) (n : Nat) (M : Nat → Nat → Nat), vs = [.ref b] ∧ TabX K H b n M ∧ 2 ≤ n ∧ n ≤ 16 ∧ Gd n max M 0 (n - 1) ∧ ∀ x H', Same H H' → RekF K C H' x n max M 0 (n - 1) → Q (.ref x) H'
theorem row_kit {K : PySem.W.Frag} {H : Hp} {a : Addr} {xs : List V} (h : OQ.SeqAt K H a xs) : ∃ t, TyX K H (.ref a) t ∧ PySem.W.kitAny K t [.type "list", .type "tuple"] = some true := by
  obtain ⟨t, ty, rfl | rfl⟩ := OQ.SeqAt.ty h
  · exact ⟨_, ty, kitA_list⟩
  · exact ⟨_, ty, kitA_tuple⟩
theorem spOp_good {K : PySem.W.Frag} {C CB : Addr} {g : Nat → (Nat → Nat → Nat) → (Nat → Nat → Nat) → Nat → Nat → Nat → V} {x : Addr} {n : Nat} {J M : Nat → Nat → Nat} {z o i j : Nat} {Q : VK} {E : XK} (rf : RekF K C H x n J M z o) (hi : i < n) (hj : j < n) (k : ∀ H', Same H H' → Q (g n J M z i j) H') : spOp K C CB g [.ref x, .int i, .int j] H Q E := by
  refine ⟨x, n, J, M, z, o, _, _, true, true, rfl, rf, .of hi, .of hj, fun _ _ i' j' e1 e2 _ _ => ?_, (fun z => nomatch z), fun _ z => nomatch z⟩
  obtain rfl : i = i' := by cases e1; rfl
  obtain rfl : j = j' := by cases e2; rfl
  exact k
theorem ite_eqN {p X Y : Prop} {inst : Decidable p} (h : p) (k : Y) : if (!decide p) = true then X else Y := by
  rw [decide_eq_true h]
  exact k
def spTurnR (K : PySem.W.Frag) (C : Addr) : Sp := fun vs H Q _ => ∃ (h c x n : Nat) (J M : Nat → Nat → Nat) (z o : Nat), vs = [.ref h, .ref x, .int n] ∧ HandAt H h c ∧ RekF K C H x n J M z o ∧ ∀ H', HandAt H' h c → Kx h H H' → Q (.bl true) H'
section
variable {P : Program} {w : World} {K : PySem.W.Frag} {mg : Str → Option Value} {base : Heap}
theorem ok_chain (T : Top K mg) : FnOk P w K mg base (L2.CX P w) 14 T.f_chain T.fd_chain ["times"] (spChainG K T.C_Reckoning) := by
  refine T.F_chain.okX sc_chain (fun vs H Q E h => ?_) (fun cdv A outer s H vs Q E hr h => ?_)
  · obtain ⟨b, n, M, rfl, _⟩ := h; rfl
  · obtain ⟨b, n, M, rfl, tp, n2, n16, gd, k⟩ := h
    refine ⟨_, (pss_cons (ps_set (i := 1) sc_chain.nd rfl (Or.inl rfl) (pe_ifExp (pt_val (pe_call (ok_is_row T) (hr.mono (by decide)) (by rfl) T.g_is_row T.F_is_row.kp T.b_is_row .nil pass0 (pa_cons (pv 0) pa_nil))) (pe_callB RD.c_len (by rfl) T.n_len (by decide +kernel) (pa_cons (pv 0) pa_nil)) pe_int))
 (pss_one (ps_ret (pe_make T.M_Reckoning (ok_Reckoning__init T) (hr.mono (by decide)) (by rfl) T.g_Reckoning T.b_Reckoning__init .nil (passes_call (takes_of rfl rfl rfl rfl) (fun _ _ _ _ h => h)) (pa_cons (pe_call (ok_greater_ones T) (hr.mono (by decide)) (by rfl) T.g_greater_ones T.F_greater_ones.kp T.b_greater_ones .nil pass0 (pa_cons (pe_callB (call_min2 rfl) (by rfl) T.n_min (by decide +kernel) (pa_cons (pv 1) (pa_cons (pe_op op_add (pe_glob (v := V.int 16) (by rfl) T.g_MOST_WORTHS ⟨_, rfl⟩) pe_int) pa_nil))) pa_nil)) (pa_cons (pv 0) (pa_cons pe_int (pa_cons (pe_op op_sub (pv 1) pe_int) pa_nil)))))))), ?_⟩
    walk_at "tx"
    obtain ⟨rs, len, sa, rows⟩ := id tp
    obtain ⟨t, ty, kt⟩ := row_kit sa
    refine ⟨.ref b, t, true, rfl, ty, kt, fun H1 s1 => ?_⟩
    replace tp := tp.same s1
    refine ⟨true, rfl, RD.d_iteT ?_⟩
    walk_at "tx"
    refine tp.len ?_
    walk_at "tx"
    refine ⟨_, _, rfl, ?_⟩
    walk_at "tx"
    refine ⟨n, by rw [List.append_nil]; congr 2; split <;> omega, by omega, fun p1 H2 s2 _ t1 => ?_⟩
    replace tp := tp.same s2
    walk_at "tx"
    intro x dx nx ndx ne
    have s3 := same_made (C := T.C_Reckoning) nx ndx ne
    have gr := gd.rest
    rw [show (n : Int) - 1 = ((n - 1 : Nat) : Int) from by omega]
    refine spReck_good (n := n) (z := 0) (o := n - 1) (J := max) (M := M) upd_same (t1.same s3).x (tp.same s3) n2 n16 (by omega) (by omega) gd.jn gd.mn (fun e H4 kx f => ⟨rfl, ?_⟩) (fun f e => by rw [gr] at e; cases e)
    refine k x H4 (fun b u e => ?_) f
    have e2 := s2 _ _ (s1 _ _ e)
    exact kx _ _ (ne_of_none e2 nx) (s3 _ _ e2)
theorem ok_law_turned_right (T : Top K mg) : FnOk P w K mg base CX0 16 T.f_law_turned_right T.fd_law_turned_right ["hand", "reckoning", "size"] (spTurnR K T.C_Reckoning) := by
  refine T.F_law_turned_right.ok sc_law_turned_right (fun vs H Q E h => ?_) (fun cdv A outer s H vs Q E hr h => ?_)
  · obtain ⟨h, c, x, n, J, M, z, o, rfl, _⟩ := h; rfl
  · obtain ⟨h, c, x, n, J, M, z, o, rfl, hT, rf, k⟩ := h
    refine ⟨_, (pss_cons (ps_set (i := 3) sc_law_turned_right.nd rfl (Or.inl rfl) (pe_call (ok_turned T) (hr.mono (by decide)) (by rfl) T.g_turned T.F_turned.kp T.b_turned .nil OQ.passN (pa_cons (pv 1) pa_nil)))
 (pss_cons (ps_if (pt_cmpR op_ne (pe_meth0 (pv 3) T.cl_Reckoning T.m_Reckoning_greatest (ok_Reckoning_greatest T) (hr.mono (by decide)) T.b_Reckoning_greatest .nil pass0) (pe_meth0 (pv 1) T.cl_Reckoning T.m_Reckoning_greatest (ok_Reckoning_greatest T) (hr.mono (by decide)) T.b_Reckoning_greatest .nil pass0) (nomark _))
 (pss_one (ps_ret pe_bl))
 pss_nil)
 (pss_cons (ps_for PassesOwn.never rfl (pi_range1 (by rfl) T.n_range (pa_cons pe_int pa_nil)) (pg_name (i := 4) sc_law_turned_right.nd rfl (Or.inl rfl))
 (pss_cons (ps_set (i := 5) sc_law_turned_right.nd rfl (Or.inl rfl) (pe_call (ok_law_draw T) (hr.mono (by decide)) (by rfl) T.g_law_draw T.F_law_draw.kp T.b_law_draw .nil pass0 (pa_cons (pv 0) (pa_cons (pv 2) pa_nil))))
 (pss_cons (ps_set (i := 6) sc_law_turned_right.nd rfl (Or.inl rfl) (pe_call (ok_law_draw T) (hr.mono (by decide)) (by rfl) T.g_law_draw T.F_law_draw.kp T.b_law_draw .nil pass0 (pa_cons (pv 0) (pa_cons (pv 2) pa_nil))))
 (pss_cons (ps_if (PW.pt (pw_or (pt_cmpR op_ne (pe_meth (pv 3) T.cl_Reckoning T.m_Reckoning_left (ok_Reckoning_left T) (hr.mono (by decide)) T.b_Reckoning_left .nil OQ.passN (pa_cons (pv 5) (pa_cons (pv 6) pa_nil))) (pe_meth (pv 1) T.cl_Reckoning T.m_Reckoning_right (ok_Reckoning_right T) (hr.mono (by decide)) T.b_Reckoning_right .nil OQ.passN (pa_cons (pv 6) (pa_cons (pv 5) pa_nil))) (nomark _)) (pw_or1 (pt_cmpR op_ne (pe_meth (pv 3) T.cl_Reckoning T.m_Reckoning_right (ok_Reckoning_right T) (hr.mono (by decide)) T.b_Reckoning_right .nil OQ.passN (pa_cons (pv 5) (pa_cons (pv 6) pa_nil))) (pe_meth (pv 1) T.cl_Reckoning T.m_Reckoning_left (ok_Reckoning_left T) (hr.mono (by decide)) T.b_Reckoning_left .nil OQ.passN (pa_cons (pv 6) (pa_cons (pv 5) pa_nil))) (nomark _)))))
 (pss_one (ps_ret pe_bl))
 pss_nil)
 (pss_cons (ps_if (PW.pt (pw_or (pt_cmpR op_ne (pe_meth (pv 3) T.cl_Reckoning T.m_Reckoning_meet (ok_Reckoning_meet T) (hr.mono (by decide)) T.b_Reckoning_meet .nil OQ.passN (pa_cons (pv 5) (pa_cons (pv 6) pa_nil))) (pe_meth (pv 1) T.cl_Reckoning T.m_Reckoning_meet (ok_Reckoning_meet T) (hr.mono (by decide)) T.b_Reckoning_meet .nil OQ.passN (pa_cons (pv 5) (pa_cons (pv 6) pa_nil))) (nomark _)) (pw_or1 (pt_cmpR op_ne (pe_meth (pv 3) T.cl_Reckoning T.m_Reckoning_beneath (ok_Reckoning_beneath T) (hr.mono (by decide)) T.b_Reckoning_beneath .nil OQ.passN (pa_cons (pv 5) (pa_cons (pv 6) pa_nil))) (pe_meth (pv 1) T.cl_Reckoning T.m_Reckoning_beneath (ok_Reckoning_beneath T) (hr.mono (by decide)) T.b_Reckoning_beneath .nil OQ.passN (pa_cons (pv 5) (pa_cons (pv 6) pa_nil))) (nomark _)))))
 (pss_one (ps_ret pe_bl))
 pss_nil)
 (pss_one (ps_if (pt_cmpR op_ne (pe_meth (pv 3) T.cl_Reckoning T.m_Reckoning_times (ok_Reckoning_times T) (hr.mono (by decide)) T.b_Reckoning_times .nil OQ.passN (pa_cons (pv 5) (pa_cons (pv 6) pa_nil))) (pe_meth (pv 1) T.cl_Reckoning T.m_Reckoning_times (ok_Reckoning_times T) (hr.mono (by decide)) T.b_Reckoning_times .nil OQ.passN (pa_cons (pv 6) (pa_cons (pv 5) pa_nil))) (nomark _))
 (pss_one (ps_ret pe_bl))
 pss_nil)))))))
 (pss_one (ps_ret pe_bl))))), ?_⟩
    obtain ⟨_, _, _, _, _, _, _, _, _, _, _, _, eR, n2, n16, zn, on, wj, wp⟩ := id rf
    walk_at "tx"
    refine ⟨_, rfl, .inl ⟨x, n, J, M, z, o, rfl, rf, fun y H1 s1 ry => ?_⟩⟩
    replace rf := rf.same s1
    replace hT := hT.same s1
    have k1 : Kx h H H1 := Same.kx s1
    clear s1
    walk_at "tx"
    refine rekM ry.rek (by simp) ?_
    walk_at "tx"
    refine ⟨y, n, J, _, z, o, rfl, ry, fun H2 s2 => ?_⟩
    replace rf := rf.same s2
    replace ry := ry.same s2
    replace hT := hT.same s2
    replace k1 := k1.trans (Same.kx s2)
    clear s2
    walk_at "tx"
    refine rekM rf.rek (by simp) ?_
    walk_at "tx"
    refine ⟨x, n, J, M, z, o, rfl, rf, fun H3 s3 => ?_⟩
    replace rf := rf.same s3
    replace ry := ry.same s3
    replace hT := hT.same s3
    replace k1 := k1.trans (Same.kx s3)
    clear s3
    walk_at "tx"
    rw [decide_eq_true rfl]
    refine RD.d_iteNT ?_
    walk_at "tx"
    refine ⟨8, rfl, by omega, by omega, ?_⟩
    refine RD.f_range (lo := 0) (n := (8 : Int).toNat) (fun i σ' H' => (∃ v4 v5 v6 : Option V, σ' = [some (.ref h), some (.ref x), some (.int n), some (.ref y), v4, v5, v6]) ∧ HandAt H' h c ∧ Kx h H H' ∧ RekF K T.C_Reckoning H' x n J M z o ∧ RekF K T.C_Reckoning H' y n J (fun a b => M b a) z o) ⟨⟨_, _, _, rfl⟩, hT, k1, rf, ry⟩ ?_ ?_
    · clear rf ry hT k1
      rintro i σ' H4 hi ⟨⟨v4, v5, v6, rfl⟩, hT, k4, rf, ry⟩
      walk_at "tx"
      refine ⟨h, c, n, rfl, hT, by omega, log2_lt (by omega), fun ia G5 pa qa wa ba => ?_⟩
      obtain ⟨a, rfl⟩ := Int.eq_ofNat_of_zero_le pa
      have la : a < n := by omega
      replace rf := rf.kxh hT ba.kx
      replace ry := ry.kxh hT ba.kx
      replace k4 := k4.trans ba.kx
      clear hT ba pa qa
      rename HandAt _ _ _ => hT
      walk_at "tx"
      refine ⟨h, c, n, rfl, hT, by omega, log2_lt (by omega), fun ib G6 pb qb wb bb => ?_⟩
      obtain ⟨b, rfl⟩ := Int.eq_ofNat_of_zero_le pb
      have lb : b < n := by omega
      replace rf := rf.kxh hT bb.kx
      replace ry := ry.kxh hT bb.kx
      replace k4 := k4.trans bb.kx
      clear hT bb pb qb
      rename HandAt _ _ _ => hT
      walk_at "tx"
      refine rekM ry.rek (by simp) ?_
      walk_at "tx"
      refine spOp_good ry la lb (fun G7 s7 => ?_)
      replace rf := rf.same s7
      replace ry := ry.same s7
      replace hT := hT.same s7
      replace k4 := k4.trans (Same.kx s7)
      clear s7
      walk_at "tx"
      refine rekM rf.rek (by simp) ?_
      walk_at "tx"
      refine spOp_good rf lb la (fun G8 s8 => ?_)
      replace rf := rf.same s8
      replace ry := ry.same s8
      replace hT := hT.same s8
      replace k4 := k4.trans (Same.kx s8)
      clear s8
      walk_at "tx"
      refine ite_eqN rfl ?_
      walk_at "tx"
      refine rekM ry.rek (by simp) ?_
      walk_at "tx"
      refine spOp_good ry la lb (fun G9 s9 => ?_)
      replace rf := rf.same s9
      replace ry := ry.same s9
      replace hT := hT.same s9
      replace k4 := k4.trans (Same.kx s9)
      clear s9
      walk_at "tx"
      refine rekM rf.rek (by simp) ?_
      walk_at "tx"
      refine spOp_good rf lb la (fun G10 s10 => ?_)
      replace rf := rf.same s10
      replace ry := ry.same s10
      replace hT := hT.same s10
      replace k4 := k4.trans (Same.kx s10)
      clear s10
      walk_at "tx"
      refine ite_eqN rfl ?_
      walk_at "tx"
      refine rekM ry.rek (by simp) ?_
      walk_at "tx"
      refine spOp_good ry la lb (fun G11 s11 => ?_)
      replace rf := rf.same s11
      replace ry := ry.same s11
      replace hT := hT.same s11
      replace k4 := k4.trans (Same.kx s11)
      clear s11
      walk_at "tx"
      refine rekM rf.rek (by simp) ?_
      walk_at "tx"
      refine spOp_good rf la lb (fun G12 s12 => ?_)
      replace rf := rf.same s12
      replace ry := ry.same s12
      replace hT := hT.same s12
      replace k4 := k4.trans (Same.kx s12)
      clear s12
      walk_at "tx"
      refine ite_eqN rfl ?_
      walk_at "tx"
      refine rekM ry.rek (by simp) ?_
      walk_at "tx"
      refine spOp_good ry la lb (fun G13 s13 => ?_)
      replace rf := rf.same s13
      replace ry := ry.same s13
      replace hT := hT.same s13
      replace k4 := k4.trans (Same.kx s13)
      clear s13
      walk_at "tx"
      refine rekM rf.rek (by simp) ?_
      walk_at "tx"
      refine spOp_good rf la lb (fun G14 s14 => ?_)
      replace rf := rf.same s14
      replace ry := ry.same s14
      replace hT := hT.same s14
      replace k4 := k4.trans (Same.kx s14)
      clear s14
      walk_at "tx"
      refine ⟨rfl, ?_⟩
      rw [decide_eq_true rfl]
      refine ⟨_, rfl, ?_⟩
      walk_at "tx"
      refine rekM ry.rek (by simp) ?_
      walk_at "tx"
      refine spOp_good ry la lb (fun G15 s15 => ?_)
      replace rf := rf.same s15
      replace ry := ry.same s15
      replace hT := hT.same s15
      replace k4 := k4.trans (Same.kx s15)
      clear s15
      walk_at "tx"
      refine rekM rf.rek (by simp) ?_
      walk_at "tx"
      refine spOp_good rf lb la (fun G16 s16 => ?_)
      replace rf := rf.same s16
      replace ry := ry.same s16
      replace hT := hT.same s16
      replace k4 := k4.trans (Same.kx s16)
      clear s16
      walk_at "tx"
      refine ite_eqN rfl ?_
      walk_at "tx"
      exact ⟨⟨_, _, _, rfl⟩, hT, k4, rf, ry⟩
    · rintro σ' H4 ⟨⟨v4, v5, v6, rfl⟩, hT4, k4, _⟩
      walk_at "tx"
      exact k H4 hT4 k4
end

/-! ### beside one another -/
open OQ (TabX RowX SeqAt)
open RK (Gd bes)
def spBesR (K : PySem.W.Frag) (C : Addr) : Sp := fun vs H Q _ => ∃ (h c x y S n m : Nat) (J M : Nat → Nat → Nat) (z o : Nat) (J' M' : Nat → Nat → Nat) (z' o' : Nat), vs = [.ref h, .ref x, .ref y, .ref S] ∧ HandAt H h c ∧ RekF K C H x n J M z o ∧ RekF K C H y m J' M' z' o' ∧ n * m ≤ 16 ∧ S ≠ h ∧ H S = some (.lst [.int n, .int m]) ∧ ∀ H', HandAt H' h c → Kx h H H' → Q (.bl true) H'
theorem bes_le2 {n m : Nat} {J J' M' : Nat → Nat → Nat} {z' o' a0 a1 b0 b1 : Nat} (g' : Gd m J' M' z' o') (ha0 : a0 < n) (ha1 : a1 < m) (hb1 : b1 < m) : bes m J J' (a0 * m + a1) (b0 * m + b1) = b0 * m + b1 ↔ J a0 b0 = b0 ∧ J' a1 b1 = b1 := by
  rw [bes_le g' (RK.bes_lt ha0 ha1) hb1, RK.bes_div ha1, RK.bes_mod ha1]
theorem ne_bl {p q : Prop} {i1 : Decidable p} {i2 : Decidable q} {H : Hp} {Q : VK} (h : p ↔ q) (k : Q (.bl false) H) : rNe (.bl (decide p)) (.bl (decide q)) H Q := by
  have e : decide p = decide q := decide_eq_decide.mpr h
  refine ⟨rfl, ?_⟩
  rw [e, decide_eq_true rfl]
  exact k
theorem ne_bl0 {p : Prop} {i1 : Decidable p} {H : Hp} {Q : VK} (h : ¬ p) (k : Q (.bl false) H) : rNe (.bl (decide p)) (.bl false) H Q := by
  refine ⟨rfl, ?_⟩
  rw [decide_eq_false h, decide_eq_true rfl]
  exact k
section
variable {P : Program} {w : World} {K : PySem.W.Frag} {mg : Str → Option Value} {base : Heap}
theorem ok_law_beside_right (T : Top K mg) : FnOk P w K mg base CX0 18 T.f_law_beside_right T.fd_law_beside_right ["hand", "one", "other", "sizes"] (spBesR K T.C_Reckoning) := by
  refine T.F_law_beside_right.ok sc_law_beside_right (fun vs H Q E h => ?_) (fun cdv A outer s H vs Q E hr h => ?_)
  · obtain ⟨h, c, x, y, S, n, m, J, M, z, o, J', M', z', o', rfl, _⟩ := h; rfl
  · obtain ⟨h, c, x, y, S, n, m, J, M, z, o, J', M', z', o', rfl, hT, rf, rg, nm, nS, eS, k⟩ := h
    refine ⟨_, (pss_cons (ps_set (i := 4) sc_law_beside_right.nd rfl (Or.inl rfl) (pe_call (ok_beside T) (hr.mono (by decide)) (by rfl) T.g_beside T.F_beside.kp T.b_beside .nil OQ.passN (pa_cons (pv 1) (pa_cons (pv 2) pa_nil))))
 (pss_cons (ps_set (i := 5) sc_law_beside_right.nd rfl (Or.inl rfl) (pe_ix ix_list (pv 3) pe_int (fun _ _ => rfl)))
 (pss_cons (ps_if (pt_cmpR op_ne (pe_meth0 (pv 4) T.cl_Reckoning T.m_Reckoning_greatest (ok_Reckoning_greatest T) (hr.mono (by decide)) T.b_Reckoning_greatest .nil pass0) (pe_op op_add (pe_op op_mul (pe_meth0 (pv 1) T.cl_Reckoning T.m_Reckoning_greatest (ok_Reckoning_greatest T) (hr.mono (by decide)) T.b_Reckoning_greatest .nil pass0) (pv 5)) (pe_meth0 (pv 2) T.cl_Reckoning T.m_Reckoning_greatest (ok_Reckoning_greatest T) (hr.mono (by decide)) T.b_Reckoning_greatest .nil pass0)) (nomark _))
 (pss_one (ps_ret pe_bl))
 pss_nil)
 (pss_cons (ps_for PassesOwn.never rfl (pi_range1 (by rfl) T.n_range (pa_cons pe_int pa_nil)) (pg_name (i := 6) sc_law_beside_right.nd rfl (Or.inl rfl))
 (pss_cons (ps_set (i := 7) sc_law_beside_right.nd rfl (Or.inl rfl) (pe_lst (pa_cons (pe_call (ok_law_draw T) (hr.mono (by decide)) (by rfl) T.g_law_draw T.F_law_draw.kp T.b_law_draw .nil pass0 (pa_cons (pv 0) (pa_cons (pe_ix ix_list (pv 3) pe_int (fun _ _ => rfl)) pa_nil))) (pa_cons (pe_call (ok_law_draw T) (hr.mono (by decide)) (by rfl) T.g_law_draw T.F_law_draw.kp T.b_law_draw .nil pass0 (pa_cons (pv 0) (pa_cons (pv 5) pa_nil))) pa_nil))))
 (pss_cons (ps_set (i := 8) sc_law_beside_right.nd rfl (Or.inl rfl) (pe_lst (pa_cons (pe_call (ok_law_draw T) (hr.mono (by decide)) (by rfl) T.g_law_draw T.F_law_draw.kp T.b_law_draw .nil pass0 (pa_cons (pv 0) (pa_cons (pe_ix ix_list (pv 3) pe_int (fun _ _ => rfl)) pa_nil))) (pa_cons (pe_call (ok_law_draw T) (hr.mono (by decide)) (by rfl) T.g_law_draw T.F_law_draw.kp T.b_law_draw .nil pass0 (pa_cons (pv 0) (pa_cons (pv 5) pa_nil))) pa_nil))))
 (pss_cons (ps_set (i := 9) sc_law_beside_right.nd rfl (Or.inl rfl) (pe_op op_add (pe_op op_mul (pe_ix ix_list (pv 7) pe_int (fun _ _ => rfl)) (pv 5)) (pe_ix ix_list (pv 7) pe_int (fun _ _ => rfl))))
 (pss_cons (ps_set (i := 10) sc_law_beside_right.nd rfl (Or.inl rfl) (pe_op op_add (pe_op op_mul (pe_ix ix_list (pv 8) pe_int (fun _ _ => rfl)) (pv 5)) (pe_ix ix_list (pv 8) pe_int (fun _ _ => rfl))))
 (C8.pss_cut (ps_if (pt_cmpR op_ne (pe_meth (pv 4) T.cl_Reckoning T.m_Reckoning_beneath (ok_Reckoning_beneath T) (hr.mono (by decide)) T.b_Reckoning_beneath .nil OQ.passN (pa_cons (pv 9) (pa_cons (pv 10) pa_nil))) (pe_and (pe_meth (pv 1) T.cl_Reckoning T.m_Reckoning_beneath (ok_Reckoning_beneath T) (hr.mono (by decide)) T.b_Reckoning_beneath .nil OQ.passN (pa_cons (pe_ix ix_list (pv 7) pe_int (fun _ _ => rfl)) (pa_cons (pe_ix ix_list (pv 8) pe_int (fun _ _ => rfl)) pa_nil))) (pe_one (pe_meth (pv 2) T.cl_Reckoning T.m_Reckoning_beneath (ok_Reckoning_beneath T) (hr.mono (by decide)) T.b_Reckoning_beneath .nil OQ.passN (pa_cons (pe_ix ix_list (pv 7) pe_int (fun _ _ => rfl)) (pa_cons (pe_ix ix_list (pv 8) pe_int (fun _ _ => rfl)) pa_nil))))) (nomark _))
 (pss_one (ps_ret pe_bl))
 pss_nil)
 (pss_cons (ps_if (pt_cmpR op_ne (pe_meth (pv 4) T.cl_Reckoning T.m_Reckoning_meet (ok_Reckoning_meet T) (hr.mono (by decide)) T.b_Reckoning_meet .nil OQ.passN (pa_cons (pv 9) (pa_cons (pv 10) pa_nil))) (pe_op op_add (pe_op op_mul (pe_meth (pv 1) T.cl_Reckoning T.m_Reckoning_meet (ok_Reckoning_meet T) (hr.mono (by decide)) T.b_Reckoning_meet .nil OQ.passN (pa_cons (pe_ix ix_list (pv 7) pe_int (fun _ _ => rfl)) (pa_cons (pe_ix ix_list (pv 8) pe_int (fun _ _ => rfl)) pa_nil))) (pv 5)) (pe_meth (pv 2) T.cl_Reckoning T.m_Reckoning_meet (ok_Reckoning_meet T) (hr.mono (by decide)) T.b_Reckoning_meet .nil OQ.passN (pa_cons (pe_ix ix_list (pv 7) pe_int (fun _ _ => rfl)) (pa_cons (pe_ix ix_list (pv 8) pe_int (fun _ _ => rfl)) pa_nil)))) (nomark _))
 (pss_one (ps_ret pe_bl))
 pss_nil)
 (pss_cons (ps_if (pt_cmpR op_ne (pe_meth (pv 4) T.cl_Reckoning T.m_Reckoning_left (ok_Reckoning_left T) (hr.mono (by decide)) T.b_Reckoning_left .nil OQ.passN (pa_cons (pv 9) (pa_cons (pv 10) pa_nil))) (pe_op op_add (pe_op op_mul (pe_meth (pv 1) T.cl_Reckoning T.m_Reckoning_left (ok_Reckoning_left T) (hr.mono (by decide)) T.b_Reckoning_left .nil OQ.passN (pa_cons (pe_ix ix_list (pv 7) pe_int (fun _ _ => rfl)) (pa_cons (pe_ix ix_list (pv 8) pe_int (fun _ _ => rfl)) pa_nil))) (pv 5)) (pe_meth (pv 2) T.cl_Reckoning T.m_Reckoning_left (ok_Reckoning_left T) (hr.mono (by decide)) T.b_Reckoning_left .nil OQ.passN (pa_cons (pe_ix ix_list (pv 7) pe_int (fun _ _ => rfl)) (pa_cons (pe_ix ix_list (pv 8) pe_int (fun _ _ => rfl)) pa_nil)))) (nomark _))
 (pss_one (ps_ret pe_bl))
 pss_nil)
 (pss_one (ps_if (pt_cmpR op_ne (pe_meth (pv 4) T.cl_Reckoning T.m_Reckoning_right (ok_Reckoning_right T) (hr.mono (by decide)) T.b_Reckoning_right .nil OQ.passN (pa_cons (pv 9) (pa_cons (pv 10) pa_nil))) (pe_op op_add (pe_op op_mul (pe_meth (pv 1) T.cl_Reckoning T.m_Reckoning_right (ok_Reckoning_right T) (hr.mono (by decide)) T.b_Reckoning_right .nil OQ.passN (pa_cons (pe_ix ix_list (pv 7) pe_int (fun _ _ => rfl)) (pa_cons (pe_ix ix_list (pv 8) pe_int (fun _ _ => rfl)) pa_nil))) (pv 5)) (pe_meth (pv 2) T.cl_Reckoning T.m_Reckoning_right (ok_Reckoning_right T) (hr.mono (by decide)) T.b_Reckoning_right .nil OQ.passN (pa_cons (pe_ix ix_list (pv 7) pe_int (fun _ _ => rfl)) (pa_cons (pe_ix ix_list (pv 8) pe_int (fun _ _ => rfl)) pa_nil)))) (nomark _))
 (pss_one (ps_ret pe_bl))
 pss_nil))))))))))
 (pss_one (ps_ret (pe_call (ok_law_turned_right T) (hr.mono (by decide)) (by rfl) T.g_law_turned_right T.F_law_turned_right.kp T.b_law_turned_right .nil pass0 (pa_cons (pv 0) (pa_cons (pv 4) (pa_cons (pe_op op_mul (pe_ix ix_list (pv 3) pe_int (fun _ _ => rfl)) (pv 5)) pa_nil)))))))))), ?_⟩
    obtain ⟨_, _, _, _, _, _, _, _, _, _, _, _, eR, n2, n16, zn, on, wj, wp⟩ := id rf
    obtain ⟨_, _, _, _, _, _, _, _, _, _, _, _, eR', m2, m16, zm, om, wj', wp'⟩ := id rg
    have gd := Gd.of_rest zn on wj wp eR
    have gd' := Gd.of_rest zm om wj' wp' eR'
    clear eR eR' wj wp wj' wp' zn on zm om
    walk_at "tx"
    refine ⟨_, _, rfl, .inl ⟨x, n, J, M, z, o, y, m, J', M', z', o', rfl, rfl, rf, rg, fun _ b H1 s1 rb => ?_, fun z => absurd z (by omega)⟩⟩
    replace rf := rf.same s1
    replace rg := rg.same s1
    replace hT := hT.same s1
    replace eS := s1 _ _ eS
    have k1 : Kx h H H1 := Same.kx s1
    clear s1
    walk_at "tx"
    refine rekM rb.rek (by simp) ?_
    walk_at "tx"
    refine ⟨_, _, _, _, _, _, rfl, rb, fun G2 s2 => ?_⟩
    replace rf := rf.same s2
    replace rg := rg.same s2
    replace rb := rb.same s2
    replace eS := s2 _ _ eS
    replace hT := hT.same s2
    replace k1 := k1.trans (Same.kx s2)
    clear s2
    walk_at "tx"
    refine rekM rf.rek (by simp) ?_
    walk_at "tx"
    refine ⟨_, _, _, _, _, _, rfl, rf, fun G3 s3 => ?_⟩
    replace rf := rf.same s3
    replace rg := rg.same s3
    replace rb := rb.same s3
    replace eS := s3 _ _ eS
    replace hT := hT.same s3
    replace k1 := k1.trans (Same.kx s3)
    clear s3
    walk_at "tx"
    refine rekM rg.rek (by simp) ?_
    walk_at "tx"
    refine ⟨_, _, _, _, _, _, rfl, rg, fun G4 s4 => ?_⟩
    replace rf := rf.same s4
    replace rg := rg.same s4
    replace rb := rb.same s4
    replace eS := s4 _ _ eS
    replace hT := hT.same s4
    replace k1 := k1.trans (Same.kx s4)
    clear s4
    walk_at "tx"
    refine ite_eqN (by rw [top_bes gd gd', nat_mad]) ?_
    walk_at "tx"
    refine ⟨8, rfl, by omega, by omega, ?_⟩
    refine RD.f_range (lo := 0) (n := (8 : Int).toNat) (fun i σ' H' => (∃ v6 v7 v8 v9 va : Option V, σ' = [some (.ref h), some (.ref x), some (.ref y), some (.ref S), some (.ref b), some (.int m), v6, v7, v8, v9, va]) ∧ HandAt H' h c ∧ Kx h H H' ∧ RekF K T.C_Reckoning H' x n J M z o ∧ RekF K T.C_Reckoning H' y m J' M' z' o' ∧ RekF K T.C_Reckoning H' b (n * m) (bes m J J') (bes m M M') (z * m + z') (o * m + o') ∧ H' S = some (.lst [.int n, .int m])) ⟨⟨_, _, _, _, _, rfl⟩, hT, k1, rf, rg, rb, eS⟩ ?_ ?_
    · clear rf rg rb hT k1 eS
      rintro i σ' H4 hi ⟨⟨v6, v7, v8, v9, va, rfl⟩, hT, k1, rf, rg, rb, eS⟩
      walk_at "tx"
      refine ⟨h, c, n, rfl, hT, by omega, log2_lt (by omega), fun ia0 G5 pa0 qa0 wa0 ba0 => ?_⟩
      obtain ⟨a0, rfl⟩ := Int.eq_ofNat_of_zero_le pa0
      have la0 : a0 < n := by omega
      replace rf := rf.kxh hT ba0.kx
      replace rg := rg.kxh hT ba0.kx
      replace rb := rb.kxh hT ba0.kx
      replace eS := ba0.kx _ _ nS eS
      replace k1 := k1.trans ba0.kx
      clear hT ba0 pa0 qa0
      rename HandAt _ _ _ => hT
      walk_at "tx"
      refine ⟨h, c, m, rfl, hT, by omega, log2_lt (by omega), fun ia1 G6 pa1 qa1 wa1 ba1 => ?_⟩
      obtain ⟨a1, rfl⟩ := Int.eq_ofNat_of_zero_le pa1
      have la1 : a1 < m := by omega
      replace rf := rf.kxh hT ba1.kx
      replace rg := rg.kxh hT ba1.kx
      replace rb := rb.kxh hT ba1.kx
      replace eS := ba1.kx _ _ nS eS
      replace k1 := k1.trans ba1.kx
      clear hT ba1 pa1 qa1
      rename HandAt _ _ _ => hT
      walk_at "tx"
      refine ⟨by show 2 ≤ sizeLine; decide, fun A1 hA1 => ?_⟩
      have sA1 := same_upd (o := HO.lst [V.int a0, V.int a1]) hA1
      have eA1 : upd G6 A1 (.lst [V.int a0, V.int a1]) A1 = some (.lst [V.int a0, V.int a1]) := upd_same
      have nA1 := (hT.ne hA1).1
      replace rf := rf.same sA1
      replace rg := rg.same sA1
      replace rb := rb.same sA1
      replace eS := sA1 _ _ eS
      replace hT := hT.same sA1
      replace k1 := k1.trans (Same.kx sA1)
      clear sA1 hA1
      generalize upd G6 A1 (.lst [V.int a0, V.int a1]) = G7 at *
      walk_at "tx"
      refine ⟨h, c, n, rfl, hT, by omega, log2_lt (by omega), fun ib0 G8 pb0 qb0 wb0 bb0 => ?_⟩
      obtain ⟨b0, rfl⟩ := Int.eq_ofNat_of_zero_le pb0
      have lb0 : b0 < n := by omega
      replace rf := rf.kxh hT bb0.kx
      replace rg := rg.kxh hT bb0.kx
      replace rb := rb.kxh hT bb0.kx
      replace eS := bb0.kx _ _ nS eS
      replace eA1 := bb0.kx _ _ nA1 eA1
      replace k1 := k1.trans bb0.kx
      clear hT bb0 pb0 qb0
      rename HandAt _ _ _ => hT
      walk_at "tx"
      refine ⟨h, c, m, rfl, hT, by omega, log2_lt (by omega), fun ib1 G9 pb1 qb1 wb1 bb1 => ?_⟩
      obtain ⟨b1, rfl⟩ := Int.eq_ofNat_of_zero_le pb1
      have lb1 : b1 < m := by omega
      replace rf := rf.kxh hT bb1.kx
      replace rg := rg.kxh hT bb1.kx
      replace rb := rb.kxh hT bb1.kx
      replace eS := bb1.kx _ _ nS eS
      replace eA1 := bb1.kx _ _ nA1 eA1
      replace k1 := k1.trans bb1.kx
      clear hT bb1 pb1 qb1
      rename HandAt _ _ _ => hT
      walk_at "tx"
      refine ⟨by show 2 ≤ sizeLine; decide, fun B1 hB1 => ?_⟩
      have sB1 := same_upd (o := HO.lst [V.int b0, V.int b1]) hB1
      have eB1 : upd G9 B1 (.lst [V.int b0, V.int b1]) B1 = some (.lst [V.int b0, V.int b1]) := upd_same
      have nB1 := (hT.ne hB1).1
      replace rf := rf.same sB1
      replace rg := rg.same sB1
      replace rb := rb.same sB1
      replace eS := sB1 _ _ eS
      replace eA1 := sB1 _ _ eA1
      replace hT := hT.same sB1
      replace k1 := k1.trans (Same.kx sB1)
      clear sB1 hB1
      generalize upd G9 B1 (.lst [V.int b0, V.int b1]) = G10 at *
      walk_at "tx"
      rw [nat_mad, nat_mad]
      have lX : a0 * m + a1 < n * m := RK.bes_lt la0 la1
      have lY : b0 * m + b1 < n * m := RK.bes_lt lb0 lb1
      refine RD.d_cut (fun σ' H' => σ' = [some (.ref h), some (.ref x), some (.ref y), some (.ref S), some (.ref b), some (.int m), some (.int (0 + (i : Int))), some (.ref A1), some (.ref B1), some (.int ((a0 * m + a1 : Nat) : Int)), some (.int ((b0 * m + b1 : Nat) : Int))] ∧ HandAt H' h c ∧ Kx h H H' ∧ RekF K T.C_Reckoning H' x n J M z o ∧ RekF K T.C_Reckoning H' y m J' M' z' o' ∧ RekF K T.C_Reckoning H' b (n * m) (bes m J J') (bes m M M') (z * m + z') (o * m + o') ∧ H' S = some (.lst [.int n, .int m]) ∧ H' A1 = some (.lst [.int a0, .int a1]) ∧ H' B1 = some (.lst [.int b0, .int b1])) ?_ ?_
      · walk_at "tx"
        refine rekM rb.rek (by simp) ?_
        walk_at "tx"
        refine spOp_good rb lX lY (fun G11 s11 => ?_)
        replace rf := rf.same s11
        replace rg := rg.same s11
        replace rb := rb.same s11
        replace eS := s11 _ _ eS
        replace eA1 := s11 _ _ eA1
        replace eB1 := s11 _ _ eB1
        replace hT := hT.same s11
        replace k1 := k1.trans (Same.kx s11)
        clear s11
        walk_at "tx"
        refine rekM rf.rek (by simp) ?_
        walk_at "tx"
        refine spOp_good rf la0 lb0 (fun G12 s12 => ?_)
        replace rf := rf.same s12
        replace rg := rg.same s12
        replace rb := rb.same s12
        replace eS := s12 _ _ eS
        replace eA1 := s12 _ _ eA1
        replace eB1 := s12 _ _ eB1
        replace hT := hT.same s12
        replace k1 := k1.trans (Same.kx s12)
        clear s12
        walk_at "tx"
        refine RD.iteD (fun c0 => ?_) (fun c0 => ?_)
        · walk_at "tx"
          refine rekM rg.rek (by simp) ?_
          walk_at "tx"
          refine spOp_good rg la1 lb1 (fun G13 s13 => ?_)
          replace rf := rf.same s13
          replace rg := rg.same s13
          replace rb := rb.same s13
          replace eS := s13 _ _ eS
          replace eA1 := s13 _ _ eA1
          replace eB1 := s13 _ _ eB1
          replace hT := hT.same s13
          replace k1 := k1.trans (Same.kx s13)
          clear s13
          walk_at "tx"
          refine ne_bl ((bes_le2 gd' la0 la1 lb1).trans ⟨fun h => h.2, fun h => ⟨c0, h⟩⟩) ?_
          refine ⟨_, rfl, ?_⟩
          walk_at "tx"
          exact ⟨rfl, hT, k1, rf, rg, rb, eS, eA1, eB1⟩
        · refine ne_bl0 (fun h => c0 ((bes_le2 gd' la0 la1 lb1).mp h).1) ?_
          refine ⟨_, rfl, ?_⟩
          walk_at "tx"
          exact ⟨rfl, hT, k1, rf, rg, rb, eS, eA1, eB1⟩
      · clear rf rg rb hT k1 eS eA1 eB1
        rintro σ' G14 ⟨rfl, hT, k1, rf, rg, rb, eS, eA1, eB1⟩
        walk_at "tx"
        refine rekM rb.rek (by simp) ?_
        walk_at "tx"
        refine spOp_good rb lX lY (fun G15 s15 => ?_)
        replace rf := rf.same s15
        replace rg := rg.same s15
        replace rb := rb.same s15
        replace eS := s15 _ _ eS
        replace eA1 := s15 _ _ eA1
        replace eB1 := s15 _ _ eB1
        replace hT := hT.same s15
        replace k1 := k1.trans (Same.kx s15)
        clear s15
        walk_at "tx"
        refine rekM rf.rek (by simp) ?_
        walk_at "tx"
        refine spOp_good rf la0 lb0 (fun G16 s16 => ?_)
        replace rf := rf.same s16
        replace rg := rg.same s16
        replace rb := rb.same s16
        replace eS := s16 _ _ eS
        replace eA1 := s16 _ _ eA1
        replace eB1 := s16 _ _ eB1
        replace hT := hT.same s16
        replace k1 := k1.trans (Same.kx s16)
        clear s16
        walk_at "tx"
        refine rekM rg.rek (by simp) ?_
        walk_at "tx"
        refine spOp_good rg la1 lb1 (fun G17 s17 => ?_)
        replace rf := rf.same s17
        replace rg := rg.same s17
        replace rb := rb.same s17
        replace eS := s17 _ _ eS
        replace eA1 := s17 _ _ eA1
        replace eB1 := s17 _ _ eB1
        replace hT := hT.same s17
        replace k1 := k1.trans (Same.kx s17)
        clear s17
        walk_at "tx"
        refine ite_eqN (by rw [meet_bes gd gd' la0 lb0 la1 lb1, nat_mad]) ?_
        walk_at "tx"
        refine rekM rb.rek (by simp) ?_
        walk_at "tx"
        refine spOp_good rb lX lY (fun G18 s18 => ?_)
        replace rf := rf.same s18
        replace rg := rg.same s18
        replace rb := rb.same s18
        replace eS := s18 _ _ eS
        replace eA1 := s18 _ _ eA1
        replace eB1 := s18 _ _ eB1
        replace hT := hT.same s18
        replace k1 := k1.trans (Same.kx s18)
        clear s18
        walk_at "tx"
        refine rekM rf.rek (by simp) ?_
        walk_at "tx"
        refine spOp_good rf la0 lb0 (fun G19 s19 => ?_)
        replace rf := rf.same s19
        replace rg := rg.same s19
        replace rb := rb.same s19
        replace eS := s19 _ _ eS
        replace eA1 := s19 _ _ eA1
        replace eB1 := s19 _ _ eB1
        replace hT := hT.same s19
        replace k1 := k1.trans (Same.kx s19)
        clear s19
        walk_at "tx"
        refine rekM rg.rek (by simp) ?_
        walk_at "tx"
        refine spOp_good rg la1 lb1 (fun G20 s20 => ?_)
        replace rf := rf.same s20
        replace rg := rg.same s20
        replace rb := rb.same s20
        replace eS := s20 _ _ eS
        replace eA1 := s20 _ _ eA1
        replace eB1 := s20 _ _ eB1
        replace hT := hT.same s20
        replace k1 := k1.trans (Same.kx s20)
        clear s20
        walk_at "tx"
        refine ite_eqN (by rw [left_bes gd gd' la0 lb0 la1 lb1, nat_mad]) ?_
        walk_at "tx"
        refine rekM rb.rek (by simp) ?_
        walk_at "tx"
        refine spOp_good rb lX lY (fun G21 s21 => ?_)
        replace rf := rf.same s21
        replace rg := rg.same s21
        replace rb := rb.same s21
        replace eS := s21 _ _ eS
        replace eA1 := s21 _ _ eA1
        replace eB1 := s21 _ _ eB1
        replace hT := hT.same s21
        replace k1 := k1.trans (Same.kx s21)
        clear s21
        walk_at "tx"
        refine rekM rf.rek (by simp) ?_
        walk_at "tx"
        refine spOp_good rf la0 lb0 (fun G22 s22 => ?_)
        replace rf := rf.same s22
        replace rg := rg.same s22
        replace rb := rb.same s22
        replace eS := s22 _ _ eS
        replace eA1 := s22 _ _ eA1
        replace eB1 := s22 _ _ eB1
        replace hT := hT.same s22
        replace k1 := k1.trans (Same.kx s22)
        clear s22
        walk_at "tx"
        refine rekM rg.rek (by simp) ?_
        walk_at "tx"
        refine spOp_good rg la1 lb1 (fun G23 s23 => ?_)
        replace rf := rf.same s23
        replace rg := rg.same s23
        replace rb := rb.same s23
        replace eS := s23 _ _ eS
        replace eA1 := s23 _ _ eA1
        replace eB1 := s23 _ _ eB1
        replace hT := hT.same s23
        replace k1 := k1.trans (Same.kx s23)
        clear s23
        walk_at "tx"
        refine ite_eqN (by rw [right_bes gd gd' lb0 la0 lb1 la1, nat_mad]) ?_
        walk_at "tx"
        exact ⟨⟨_, _, _, _, _, rfl⟩, hT, k1, rf, rg, rb, eS⟩
    · clear rf rg rb hT k1 eS
      rintro σ' H4 ⟨⟨v6, v7, v8, v9, va, rfl⟩, hT, k1, rf, rg, rb, eS⟩
      walk_at "tx"
      exact ⟨h, c, b, n * m, _, _, _, _, by rw [Int.natCast_mul]; rfl, hT, rb, fun H' hT' k' => k H' hT' (k1.trans k')⟩
end

/-! ### lots -/
open OQ (TabX RowX SeqAt)
open RK (Gd Mo lotP)
theorem moF_congr {n o : Nat} {P f : Nat → Nat → Nat} (e : Eqn n P f) (on : o < n) (pn : ∀ a b, a < n → b < n → f a b < n) : moF n P o = moF n f o := by
  unfold moF
  have h2 : RK.oneF n P o = RK.oneF n f o := RK.fnd_congr fun a ha => by rw [e o a on ha, e a o ha on]
  have h5 : RK.groupF "product" n P = RK.groupF "product" n f := RK.fnd_congr fun a ha => RK.fnd_congr fun b hb => RK.fnd_congr fun c hc => by
    rw [e a b ha hb, e b c hb hc, e _ c (pn a b ha hb) hc, e a _ ha (pn b c hb hc)]
  rw [h2, h5]
theorem lotF_tab {n o : Nat} {f : Nat → Nat → Nat} {dp : PyData} {ds : List PyData} (q : RK.squareB n dp = true) (e : RK.rowsOf dp = some ds) (l : ds.length = n) (ag : Eqn n (RK.tabf dp) f) (n1 : 1 ≤ n) (n4 : n ≤ 4) (on : o < n) (fn : ∀ a b, a < n → b < n → f a b < n) : lotF dp (.int o) = moF n f o := by
  have ec : RK.cellsOf dp = ds := by unfold RK.cellsOf; rw [e]; rfl
  have bo : RK.belowB n (.int o) = true := decide_eq_true (by omega)
  have eB : lotB dp (.int o) = true := by
    unfold lotB
    rw [e]
    dsimp only
    rw [l, q, bo, decide_eq_true ⟨n1, n4⟩]; rfl
  unfold lotF
  rw [if_pos eB, ec, l, show RK.natOf (.int (o : Int)) = o from by show (o : Int).toNat = o; omega]
  exact moF_congr ag on fn
theorem lotP_congr {n : Nat} {P f : Nat → Nat → Nat} (e : Eqn n P f) : lotP n P = lotP n f := by
  funext a b
  refine RK.bits_eq fun z => ?_
  rw [RK.lot_bit, RK.lot_bit]
  constructor
  · rintro ⟨x, y, h1, h2, h3, h4, h5⟩; exact ⟨x, y, h1, h2, h3, h4, by rw [← e x y h1 h2]; exact h5⟩
  · rintro ⟨x, y, h1, h2, h3, h4, h5⟩; exact ⟨x, y, h1, h2, h3, h4, by rw [e x y h1 h2]; exact h5⟩
theorem mo_none {n o : Nat} {P : Nat → Nat → Nat} (m : Mo n P o) : moF n P o = none := by
  unfold moF
  rw [Option.or_eq_none_iff]
  refine ⟨List.findSome?_eq_none_iff.mpr fun a ha => ?_, List.findSome?_eq_none_iff.mpr fun a ha => List.findSome?_eq_none_iff.mpr fun b hb => List.findSome?_eq_none_iff.mpr fun c hc => ?_⟩
  · exact if_pos (m.om a (List.mem_range.mp ha))
  · exact if_pos (m.as a b c (List.mem_range.mp ha) (List.mem_range.mp hb) (List.mem_range.mp hc))
theorem lots_good {K : PySem.W.Frag} {C CB : Addr} {H : Hp} {b n o : Nat} {P : Nat → Nat → Nat} {Q : VK} {E : XK} (tb : TabXL H b n P) (n1 : 1 ≤ n) (n4 : n ≤ 4) (mo : Mo n P o)
    (k : ∀ x H', Same H H' → RekF K C H' x (2 ^ n) (fun a b => a ||| b) (lotP n P) 0 (2 ^ o) → Q (.ref x) H') : spLots K C CB [.ref b, .int o] H Q E := by
  obtain ⟨dp, hp, qp, ag, ds, er, el⟩ := OQ.tab_dp (tb.x (K := K)) mo.pn
  have eF := lotF_tab (o := o) qp er el ag n1 n4 mo.on mo.pn
  refine ⟨_, _, dp, .int o, rfl, OQ.dqd_of hp, .int o, fun n' P1 o' e mo' n1' n4' ag1 el1 eo1 x H' s rf => ?_, fun f e => ?_⟩
  · have ec : (RK.cellsOf dp).length = n := by unfold RK.cellsOf; rw [er]; exact el
    rw [el1] at ec
    subst ec
    have : o' = o := by rw [← eo1]; show (o : Int).toNat = o; omega
    subst this
    have elot : lotP n' P1 = lotP n' P := lotP_congr fun i j hi hj => (ag1 i j hi hj).trans (ag i j hi hj)
    rw [elot] at rf
    exact k x H' s rf
  · rw [eF, mo_none mo] at e
    cases e
/-- the things z so far with which all of a comes into c -/
def Lq (n : Nat) (g : Nat → Nat → Nat) (a c i L : Nat) : Prop := ∀ z, L.testBit z = true ↔ z < i ∧ ∀ y, y < n → a.testBit y = true → c.testBit (g y z) = true
theorem Lq.zero {n : Nat} {g : Nat → Nat → Nat} {a c : Nat} : Lq n g a c 0 0 := fun z => by
  constructor
  · intro h; simp at h
  · rintro ⟨h, _⟩; omega
theorem Lq.yes {n : Nat} {g : Nat → Nat → Nat} {a c i L : Nat} (h : Lq n g a c i L) (q : ∀ y, y < n → a.testBit y = true → c.testBit (g y i) = true) : Lq n g a c (i + 1) (L ||| 2 ^ i) := fun z => by
  rw [Nat.testBit_or, Bool.or_eq_true, h z, Nat.testBit_two_pow, decide_eq_true_eq]
  constructor
  · rintro (⟨h1, h2⟩ | e)
    · exact ⟨by omega, h2⟩
    · subst e; exact ⟨by omega, q⟩
  · rintro ⟨h1, h2⟩
    by_cases e : i = z
    · exact .inr e
    · exact .inl ⟨by omega, h2⟩
theorem Lq.no {n : Nat} {g : Nat → Nat → Nat} {a c i L : Nat} (h : Lq n g a c i L) (q : ¬ ∀ y, y < n → a.testBit y = true → c.testBit (g y i) = true) : Lq n g a c (i + 1) L := fun z => by
  rw [h z]
  constructor
  · rintro ⟨h1, h2⟩; exact ⟨by omega, h2⟩
  · rintro ⟨h1, h2⟩
    by_cases e : z = i
    · subst e; exact absurd h2 q
    · exact ⟨by omega, h2⟩
theorem Lq.lt {n : Nat} {g : Nat → Nat → Nat} {a c L : Nat} (h : Lq n g a c n L) : L < 2 ^ n := Nat.lt_pow_two_of_testBit L fun i hi => by
  cases e : L.testBit i with
  | false => rfl
  | true => have := ((h i).mp e).1; omega
theorem Lq.end {n : Nat} {g : Nat → Nat → Nat} {a c L : Nat} (h : Lq n g a c n L) (x : Nat) (xn : x < n) : L.testBit x = true ↔ ∀ y, y < n → a.testBit y = true → c.testBit (g y x) = true := by
  rw [h x]
  exact ⟨fun h => h.2, fun h => ⟨xn, h⟩⟩
theorem all_bits {n : Nat} {a c : Nat} {g : Nat → Nat} : (((List.range n).map fun y => c.testBit (g y) || !a.testBit y).all id) = true ↔ ∀ y, y < n → a.testBit y = true → c.testBit (g y) = true := by
  rw [List.all_map, List.all_eq_true]
  constructor
  · intro h y hy ha
    have := h y (List.mem_range.mpr hy)
    simp only [Function.comp, ha, Bool.not_true, Bool.or_false] at this
    exact this
  · intro h y hy
    have := h y (List.mem_range.mp hy)
    simp only [Function.comp]
    cases e : a.testBit y with
    | false => simp
    | true => rw [this e]; rfl
theorem right_lots {n : Nat} {P : Nat → Nat → Nat} {z o : Nat} (m : Mo n P o) (g : Gd (2 ^ n) (fun a b => a ||| b) (lotP n P) z (2 ^ o)) {a c u : Nat} (ha : a < 2 ^ n) (hc : c < 2 ^ n) (hu : u < 2 ^ n)
    (h : ∀ x, x < n → (u.testBit x = true ↔ ∀ y, y < n → a.testBit y = true → c.testBit (P x y) = true)) : rightF (2 ^ n) (fun a b => a ||| b) (lotP n P) z c a = u := by
  have e : (fun a b => lotP n P b a) = lotP n (fun a b => P b a) := by
    funext a b
    refine RK.bits_eq fun z => ?_
    rw [RK.lot_bit, RK.lot_bit]
    constructor
    · rintro ⟨x, y, h1, h2, h3, h4, h5⟩; exact ⟨y, x, h2, h1, h4, h3, h5⟩
    · rintro ⟨x, y, h1, h2, h3, h4, h5⟩; exact ⟨y, x, h2, h1, h4, h3, h5⟩
  have gt := g.turned
  show leftF (2 ^ n) (fun a b => a ||| b) (fun a b => lotP n P b a) z a c = u
  rw [e] at gt ⊢
  exact left_lots (P := fun a b => P b a) (fun a b ha hb => m.pn b a hb ha) gt ha hc hu h
theorem band {a d : Nat} : Builtin.bitAnd (a : Int) (d : Int) = ((a &&& d : Nat) : Int) := by
  simp [Builtin.bitAnd]
theorem or_and_iff {a d : Nat} : a ||| d = d ↔ ((a &&& d : Nat) : Int) = (a : Int) := by
  rw [or_le, ← and_le]
  omega
theorem TabXL.row {H : Hp} {a : Addr} {n i : Nat} {f : Nat → Nat → Nat} (h : TabXL H a n f) (hi : i < n) : ∃ xs r, H a = some (.lst xs) ∧ atI xs (i : Int) = some (.ref r) ∧ H r = some (.lst ((List.range n).map fun j => V.int (f i j : Nat))) := by
  obtain ⟨rs, l, e, q⟩ := h
  have e2 : rs[i]? = some rs[i] := List.getElem?_eq_getElem (by omega)
  exact ⟨_, _, e, atI_nat (by rw [List.getElem?_map, e2]; rfl), q i _ e2⟩
theorem row_cell {n j : Nat} {g : Nat → Nat} (hj : j < n) : atI ((List.range n).map fun j => V.int (g j : Nat)) (j : Int) = some (.int (g j : Nat)) := atI_nat (by rw [List.getElem?_map, List.getElem?_range hj]; rfl)
theorem bl_step {H H' : Hp} {D : Addr} {y : Nat} {p : Nat → Bool} (hD : H D = none) (s : Same H H') : Same H (upd H' D (.lst (((List.range (y + 1)).map p).map V.bl))) := fun b u e => by
  rw [upd_ne (ne_of_none e hD)]
  exact s _ _ e
theorem bl_len {y : Nat} {p : Nat → Bool} (h : y ≤ 16) : (((List.range y).map p).map V.bl).length < sizeLine := by
  rw [List.length_map, List.length_map, List.length_range]
  exact Nat.lt_of_le_of_lt h (by decide)
theorem bl_app {y : Nat} {p : Nat → Bool} {b : Bool} (h : p y = b) : ((List.range y).map p).map V.bl ++ [V.bl b] = ((List.range (y + 1)).map p).map V.bl := by
  rw [List.range_succ, List.map_append, List.map_append, ← h]
  rfl
def spLotsR : Sp := fun vs H Q _ => ∃ (h c b n o : Nat) (P : Nat → Nat → Nat), vs = [.ref h, .ref b, .int o] ∧ HandAt H h c ∧ TabXL H b n P ∧ 2 ≤ n ∧ n ≤ 3 ∧ Mo n P o ∧ ∀ H', HandAt H' h c → Kx h H H' → Q (.bl true) H'
def spIn : Sp := fun vs H Q _ => ∃ l t : Nat, vs = [.int l, .int t] ∧ l < 2 ^ 16 ∧ t ≤ 16 ∧ Q (.bl (l.testBit t)) H
section
variable {P : Program} {w : World} {K : PySem.W.Frag} {mg : Str → Option Value} {base : Heap}
theorem ok_law_in (T : Top K mg) : FnOk P w K mg base CX0 1 T.f_law_in T.fd_law_in ["lot", "thing"] spIn := by
  refine T.F_law_in.ok sc_law_in (fun vs H Q E h => ?_) (fun cdv A outer s H vs Q E hr h => ?_)
  · obtain ⟨l, t, rfl, _⟩ := h; rfl
  · obtain ⟨l, t, rfl, hl, ht, k⟩ := h
    refine ⟨_, (pss_one (ps_ret (pe_cmpR op_eq (pe_op op_odd (pe_op op_shr (pv 0) (pv 1)) pe_int) pe_int (nomark _)))), ?_⟩
    walk_at "tx"
    refine ⟨_, _, rfl, rfl, by omega, ?_⟩
    walk_at "tx"
    refine ⟨l / 2 ^ t, by show V.int ((l : Int) / 2 ^ (t : Int).toNat) = _; rw [Int.toNat_natCast, Int.natCast_ediv, Int.natCast_pow]; rfl, rfl, ?_⟩
    walk_at "tx"
    rw [show decide (((l / 2 ^ t % 2 : Nat) : Int) = 1) = l.testBit t by rw [Bool.eq_iff_iff, decide_eq_true_eq]; exact bit_odd]
    exact k
theorem ok_law_lots_right (T : Top K mg) : FnOk P w K mg base CX0 18 T.f_law_lots_right T.fd_law_lots_right ["hand", "products", "one"] spLotsR := by
  refine T.F_law_lots_right.ok sc_law_lots_right (fun vs H Q E h => ?_) (fun cdv A outer s H vs Q E hr h => ?_)
  · obtain ⟨h, c, b, n, o, P, rfl, _⟩ := h; rfl
  · obtain ⟨h, c, b, n, o, P, rfl, hT, tb, n2, n3, mo, k⟩ := h
    refine ⟨_, (pss_cons (ps_set (i := 3) sc_law_lots_right.nd rfl (Or.inl rfl) (pe_callB RD.c_len (by rfl) T.n_len (by decide +kernel) (pa_cons (pv 1) pa_nil)))
 (pss_cons (ps_set (i := 4) sc_law_lots_right.nd rfl (Or.inl rfl) (pe_call (ok_lots T) (hr.mono (by decide)) (by rfl) T.g_lots T.F_lots.kp T.b_lots .nil OQ.passN (pa_cons (pv 1) (pa_cons (pv 2) pa_nil))))
 (pss_cons (ps_set (i := 5) sc_law_lots_right.nd rfl (Or.inl rfl) (pe_listRg (by rfl) (by rfl) T.n_list (prg_1 (by rfl) T.n_range (pv 3))))
 (pss_cons (ps_if (pt_cmpR op_ne (pe_meth0 (pv 4) T.cl_Reckoning T.m_Reckoning_greatest (ok_Reckoning_greatest T) (hr.mono (by decide)) T.b_Reckoning_greatest .nil pass0) (pe_op op_sub (pe_op op_shl pe_int (pv 3)) pe_int) (nomark _))
 (pss_one (ps_ret pe_bl))
 pss_nil)
 (pss_cons (ps_for PassesOwn.never rfl (pi_range1 (by rfl) T.n_range (pa_cons pe_int pa_nil)) (pg_name (i := 6) sc_law_lots_right.nd rfl (Or.inl rfl))
 (pss_cons (ps_set (i := 7) sc_law_lots_right.nd rfl (Or.inr rfl) (pe_call (ok_law_draw T) (hr.mono (by decide)) (by rfl) T.g_law_draw T.F_law_draw.kp T.b_law_draw .nil pass0 (pa_cons (pv 0) (pa_cons (pe_op op_shl pe_int (pv 3)) pa_nil))))
 (pss_cons (ps_set (i := 8) sc_law_lots_right.nd rfl (Or.inr rfl) (pe_call (ok_law_draw T) (hr.mono (by decide)) (by rfl) T.g_law_draw T.F_law_draw.kp T.b_law_draw .nil pass0 (pa_cons (pv 0) (pa_cons (pe_op op_shl pe_int (pv 3)) pa_nil))))
 (pss_cons (ps_if (PW.pt (pw_or (pt_cmpR op_ne (pe_meth (pv 4) T.cl_Reckoning T.m_Reckoning_beneath (ok_Reckoning_beneath T) (hr.mono (by decide)) T.b_Reckoning_beneath .nil OQ.passN (pa_cons (pv 7) (pa_cons (pv 8) pa_nil))) (pe_cmpR op_eq (pe_op op_and (pv 7) (pv 8)) (pv 7) (nomark _)) (nomark _)) (pw_or (pt_cmpR op_ne (pe_meth (pv 4) T.cl_Reckoning T.m_Reckoning_meet (ok_Reckoning_meet T) (hr.mono (by decide)) T.b_Reckoning_meet .nil OQ.passN (pa_cons (pv 7) (pa_cons (pv 8) pa_nil))) (pe_op op_and (pv 7) (pv 8)) (nomark _)) (pw_or1 (pt_cmpR op_ne (pe_meth (pv 4) T.cl_Reckoning T.m_Reckoning_join (ok_Reckoning_join T) (hr.mono (by decide)) T.b_Reckoning_join .nil OQ.passN (pa_cons (pv 7) (pa_cons (pv 8) pa_nil))) (pe_op op_or (pv 7) (pv 8)) (nomark _))))))
 (pss_one (ps_ret pe_bl))
 pss_nil)
 (pss_cons (ps_set (i := 9) sc_law_lots_right.nd rfl (Or.inl rfl) pe_int)
 (pss_cons (ps_set (i := 10) sc_law_lots_right.nd rfl (Or.inl rfl) pe_int)
 (pss_cons (ps_for PassesOwn.never rfl (pi_list (pv 5)) (pg_name (i := 11) sc_law_lots_right.nd rfl (Or.inr rfl))
 (C8.pss_cut (ps_if (pt_val (pe_callB (cr_all rfl) (by rfl) T.n_all (by decide +kernel) (pa_cons (pe_lc (own := [("y", 12)]) (g := (gName 12)) (tt := tYes) rfl sc_law_lots_right.nd (pi_list (pv 5)) (blkOk_by (own := [("y", 12)]) (N := ["hand", "products", "one", "many", "reckoning", "things", "turn", "a", "c", "left", "right", "x", "y"]) (sc := defScope s_law_lots_right) (by decide +kernel)) (fun _ _ _ _ _ => (pg_name (i := 12) sc_law_lots_right.nd rfl (Or.inl rfl))) (fun _ _ _ _ _ => pts_nil) (fun _ _ _ _ _ => (pe_or (pe_call (ok_law_in T) (hr.mono (by decide)) (by rfl) T.g_law_in T.F_law_in.kp T.b_law_in .nil pass0 (pa_cons (pv 8) (pa_cons (pe_ix (OQ.ixL K) (pe_ix (OQ.ixL K) (pv 1) (pv 12) (fun _ _ => rfl)) (pv 11) (fun _ _ => rfl)) pa_nil))) (pe_one (pe_not (pe_call (ok_law_in T) (hr.mono (by decide)) (by rfl) T.g_law_in T.F_law_in.kp T.b_law_in .nil pass0 (pa_cons (pv 7) (pa_cons (pv 12) pa_nil)))))))) pa_nil)))
 (pss_one (ps_set (i := 9) sc_law_lots_right.nd rfl (Or.inl rfl) (pe_op op_or (pv 9) (pe_op op_shl pe_int (pv 11)))))
 pss_nil)
 (pss_one (ps_if (pt_val (pe_callB (cr_all rfl) (by rfl) T.n_all (by decide +kernel) (pa_cons (pe_lc (own := [("y", 12)]) (g := (gName 12)) (tt := tYes) rfl sc_law_lots_right.nd (pi_list (pv 5)) (blkOk_by (own := [("y", 12)]) (N := ["hand", "products", "one", "many", "reckoning", "things", "turn", "a", "c", "left", "right", "x", "y"]) (sc := defScope s_law_lots_right) (by decide +kernel)) (fun _ _ _ _ _ => (pg_name (i := 12) sc_law_lots_right.nd rfl (Or.inl rfl))) (fun _ _ _ _ _ => pts_nil) (fun _ _ _ _ _ => (pe_or (pe_call (ok_law_in T) (hr.mono (by decide)) (by rfl) T.g_law_in T.F_law_in.kp T.b_law_in .nil pass0 (pa_cons (pv 8) (pa_cons (pe_ix (OQ.ixL K) (pe_ix (OQ.ixL K) (pv 1) (pv 11) (fun _ _ => rfl)) (pv 12) (fun _ _ => rfl)) pa_nil))) (pe_one (pe_not (pe_call (ok_law_in T) (hr.mono (by decide)) (by rfl) T.g_law_in T.F_law_in.kp T.b_law_in .nil pass0 (pa_cons (pv 7) (pa_cons (pv 12) pa_nil)))))))) pa_nil)))
 (pss_one (ps_set (i := 10) sc_law_lots_right.nd rfl (Or.inl rfl) (pe_op op_or (pv 10) (pe_op op_shl pe_int (pv 11)))))
 pss_nil))))
 (pss_one (ps_if (PW.pt (pw_or (pt_cmpR op_ne (pe_meth (pv 4) T.cl_Reckoning T.m_Reckoning_left (ok_Reckoning_left T) (hr.mono (by decide)) T.b_Reckoning_left .nil OQ.passN (pa_cons (pv 7) (pa_cons (pv 8) pa_nil))) (pv 9) (nomark _)) (pw_or1 (pt_cmpR op_ne (pe_meth (pv 4) T.cl_Reckoning T.m_Reckoning_right (ok_Reckoning_right T) (hr.mono (by decide)) T.b_Reckoning_right .nil OQ.passN (pa_cons (pv 8) (pa_cons (pv 7) pa_nil))) (pv 10) (nomark _)))))
 (pss_one (ps_ret pe_bl))
 pss_nil)))))))))
 (pss_one (ps_ret pe_bl))))))), ?_⟩
    walk_at "tx"
    refine tb.x.len ?_
    walk_at "tx"
    refine lots_good tb (by omega) (by omega) mo fun r H1 s1 rf => ?_
    replace tb := tb.same s1
    replace hT := hT.same s1
    have k1 : Kx h H H1 := Same.kx s1
    clear s1
    walk_at "tx"
    refine RD.d_lstRg ?_
    walk_at "tx"
    refine ⟨RgOk.of_le (by omega) (by omega) (by omega) (by omega), fun S hS => ?_⟩
    have sS := same_upd (o := HO.lst (rgV 0 (n : Int))) hS
    have eS : upd H1 S (.lst (rgV 0 (n : Int))) S = some (.lst ((List.range n).map fun (j : Nat) => V.int j)) := by
      rw [upd_same, rgV_nat]
    have nS := (hT.ne hS).1
    replace rf := rf.same sS
    replace tb := tb.same sS
    replace hT := hT.same sS
    replace k1 := k1.trans (Same.kx sS)
    clear sS hS
    generalize upd H1 S (.lst (rgV 0 (n : Int))) = H2 at *
    have gd := mo.lots
    have n8 : 2 ^ n ≤ 8 := Nat.pow_le_pow_right (n := 2) (by omega) n3
    have n4 : 4 ≤ 2 ^ n := Nat.pow_le_pow_right (n := 2) (i := 2) (by omega) n2
    walk_at "tx"
    refine rekM rf.rek (by simp) ?_
    walk_at "tx"
    refine ⟨_, _, _, _, _, _, rfl, rf, fun G3 s3 => ?_⟩
    replace rf := rf.same s3
    replace tb := tb.same s3
    replace eS := s3 _ _ eS
    replace hT := hT.same s3
    replace k1 := k1.trans (Same.kx s3)
    clear s3
    walk_at "tx"
    refine rI_sh (by omega) ?_
    walk_at "tx"
    refine ite_eqN (by rw [top_lots (P := P) gd]; omega) ?_
    walk_at "tx"
    refine ⟨8, rfl, by omega, by omega, ?_⟩
    refine RD.f_range (lo := 0) (n := (8 : Int).toNat) (fun i σ' H' => (∃ v6 v7 v8 v9 va vb : Option V, σ' = [some (.ref h), some (.ref b), some (.int o), some (.int n), some (.ref r), some (.ref S), v6, v7, v8, v9, va, vb, none]) ∧ HandAt H' h c ∧ Kx h H H' ∧ RekF K T.C_Reckoning H' r (2 ^ n) (fun a b => a ||| b) (lotP n P) 0 (2 ^ o) ∧ TabXL H' b n P ∧ H' S = some (.lst ((List.range n).map fun (j : Nat) => V.int j))) ⟨⟨_, _, _, _, _, _, rfl⟩, hT, k1, rf, tb, eS⟩ ?_ ?_
    · clear rf tb hT k1 eS
      rintro i0 σ' H4 hi ⟨⟨v6, v7, v8, v9, va, vb, rfl⟩, hT, k1, rf, tb, eS⟩
      walk_at "tx"
      refine rI_sh (by omega) ?_
      walk_at "tx"
      refine ⟨h, c, ((2 ^ n : Nat) : Int), rfl, hT, by omega, log2_lt (by omega), fun ia G5 pa qa wa ba => ?_⟩
      obtain ⟨a, rfl⟩ := Int.eq_ofNat_of_zero_le pa
      have la : a < 2 ^ n := by omega
      replace rf := rf.kxh hT ba.kx
      replace tb := ba.kx.tabL hT n2 tb
      replace eS := ba.kx _ _ nS eS
      replace k1 := k1.trans ba.kx
      clear hT ba pa qa
      rename HandAt _ _ _ => hT
      walk_at "tx"
      refine rI_sh (by omega) ?_
      walk_at "tx"
      refine ⟨h, c, ((2 ^ n : Nat) : Int), rfl, hT, by omega, log2_lt (by omega), fun id G6 pd qd wd bd => ?_⟩
      obtain ⟨d, rfl⟩ := Int.eq_ofNat_of_zero_le pd
      have ld : d < 2 ^ n := by omega
      replace rf := rf.kxh hT bd.kx
      replace tb := bd.kx.tabL hT n2 tb
      replace eS := bd.kx _ _ nS eS
      replace k1 := k1.trans bd.kx
      clear hT bd pd qd
      rename HandAt _ _ _ => hT
      walk_at "tx"
      refine rekM rf.rek (by simp) ?_
      walk_at "tx"
      refine spOp_good rf la ld (fun G7 s7 => ?_)
      replace rf := rf.same s7
      replace tb := tb.same s7
      replace eS := s7 _ _ eS
      replace hT := hT.same s7
      replace k1 := k1.trans (Same.kx s7)
      clear s7
      walk_at "tx"
      refine ne_bl (by rw [band]; exact or_and_iff) ?_
      refine ⟨_, rfl, ?_⟩
      rw [if_neg (by decide)]
      walk_at "tx"
      refine rekM rf.rek (by simp) ?_
      walk_at "tx"
      refine spOp_good rf la ld (fun G8 s8 => ?_)
      replace rf := rf.same s8
      replace tb := tb.same s8
      replace eS := s8 _ _ eS
      replace hT := hT.same s8
      replace k1 := k1.trans (Same.kx s8)
      clear s8
      walk_at "tx"
      refine ite_eqN (by rw [meet_lots gd la ld, band]) ?_
      walk_at "tx"
      refine rekM rf.rek (by simp) ?_
      walk_at "tx"
      refine spOp_good rf la ld (fun G9 s9 => ?_)
      replace rf := rf.same s9
      replace tb := tb.same s9
      replace eS := s9 _ _ eS
      replace hT := hT.same s9
      replace k1 := k1.trans (Same.kx s9)
      clear s9
      walk_at "tx"
      refine ite_eqN (by rw [bitOr_nn (Int.natCast_nonneg _) (Int.natCast_nonneg _), Int.toNat_natCast, Int.toNat_natCast]) ?_
      walk_at "tx"
      refine RD.f_list (K := K) (a := S) (xs := (List.range n).map fun (j : Nat) => V.int j) (fun i σ' H' => Same G9 H' ∧ ∃ (L R : Nat) (vx : Option V), σ' = [some (.ref h), some (.ref b), some (.int o), some (.int n), some (.ref r), some (.ref S), some (.int (0 + (i0 : Int))), some (.int a), some (.int d), some (.int L), some (.int R), vx, none] ∧ Lq n P a d i L ∧ Lq n (fun y z => P z y) a d i R) ⟨Same.refl _, 0, 0, _, rfl, .zero, .zero⟩ (fun i σ' H' _ z => SqL.of (z.1 _ _ eS)) ?_ ?_
      · rintro x v σ' H10 hx ⟨s10, L, R, vx, rfl, lq, rq⟩
        have xn : x < n := by
          have := (List.getElem?_eq_some_iff.mp hx).1
          rw [List.length_map, List.length_range] at this
          exact this
        rw [List.getElem?_map, List.getElem?_range xn] at hx
        cases hx
        refine RD.d_cut (fun σ' H' => Same G9 H' ∧ ∃ L', σ' = [some (.ref h), some (.ref b), some (.int o), some (.int n), some (.ref r), some (.ref S), some (.int (0 + (i0 : Int))), some (.int a), some (.int d), some (.int (L' : Nat)), some (.int R), some (.int x), none] ∧ Lq n P a d (x + 1) L') ?_ ?_
        · walk_at "tx"
          refine ⟨S, rfl, ⟨_, SqL.of (s10 _ _ eS)⟩, fun D hD => ?_⟩
          refine lc_list (K := K) (xs := (List.range n).map fun (j : Nat) => V.int j) (fun j H' => Same H10 H' ∧ H' D = some (.lst (((List.range j).map fun y => d.testBit (P y x) || !a.testBit y).map V.bl))) ⟨same_upd hD, upd_same⟩ ?_ ?_ ?_
          · rintro j H' _ ⟨s1, _⟩
            exact SqL.of (s1 _ _ (s10 _ _ eS))
          · rintro y v H' hy ⟨s1, eD⟩
            have yn : y < n := by
              have := (List.getElem?_eq_some_iff.mp hy).1
              rw [List.length_map, List.length_range] at this
              exact this
            rw [List.getElem?_map, List.getElem?_range yn] at hy
            cases hy
            have tb2 := (tb.same s10).same s1
            obtain ⟨xs, rr, eb, ea, er⟩ := tb2.row yn
            walk_at "tx"
            refine ⟨_, _, _, _, rfl, rfl, SqL.of eb, ea, ?_⟩
            walk_at "tx"
            refine ⟨_, _, _, _, rfl, rfl, SqL.of er, row_cell xn, ?_⟩
            walk_at "tx"
            have pl := mo.pn _ _ yn xn
            refine ⟨d, _, rfl, by omega, by omega, ?_⟩
            refine ⟨_, rfl, ?_⟩
            cases e1 : d.testBit (P y x) with
            | true =>
              rw [if_pos rfl]
              refine ⟨_, eD, bl_len (by omega), ?_⟩
              rw [bl_app (by show (d.testBit (P y x) || !a.testBit y) = true; rw [e1]; rfl)]
              exact ⟨bl_step hD s1, upd_same⟩
            | false =>
              rw [if_neg (by decide)]
              walk_at "tx"
              refine ⟨a, y, rfl, by omega, by omega, ?_⟩
              refine ⟨_, rfl, ?_⟩
              refine ⟨_, eD, bl_len (by omega), ?_⟩
              rw [bl_app (by show (d.testBit (P y x) || !a.testBit y) = !a.testBit y; rw [e1]; rfl)]
              exact ⟨bl_step hD s1, upd_same⟩
          · rintro H11 ⟨s11, eD⟩
            rw [List.length_map, List.length_range] at eD
            walk_at "tx"
            refine ⟨D, _, rfl, SqL.of eD, ?_⟩
            refine ⟨_, rfl, ?_⟩
            cases e1 : (((List.range n).map fun y => d.testBit (P y x) || !a.testBit y).all id) with
            | true =>
              rw [if_pos rfl]
              walk_at "tx"
              refine rI_sh (by omega) ?_
              walk_at "tx"
              rw [bitOr_nn (Int.natCast_nonneg _) (Int.natCast_nonneg _), Int.toNat_natCast, Int.toNat_natCast]
              exact ⟨s10.trans s11, _, rfl, lq.yes (g := P) (all_bits.mp e1)⟩
            | false =>
              rw [if_neg (by decide)]
              walk_at "tx"
              exact ⟨s10.trans s11, _, rfl, lq.no (g := P) fun z => by rw [all_bits.mpr z] at e1; cases e1⟩
        · clear lq s10 L
          rintro σ' H10 ⟨s10, L, rfl, lq⟩
          walk_at "tx"
          refine ⟨S, rfl, ⟨_, SqL.of (s10 _ _ eS)⟩, fun D hD => ?_⟩
          refine lc_list (K := K) (xs := (List.range n).map fun (j : Nat) => V.int j) (fun j H' => Same H10 H' ∧ H' D = some (.lst (((List.range j).map fun y => d.testBit (P x y) || !a.testBit y).map V.bl))) ⟨same_upd hD, upd_same⟩ ?_ ?_ ?_
          · rintro j H' _ ⟨s1, _⟩
            exact SqL.of (s1 _ _ (s10 _ _ eS))
          · rintro y v H' hy ⟨s1, eD⟩
            have yn : y < n := by
              have := (List.getElem?_eq_some_iff.mp hy).1
              rw [List.length_map, List.length_range] at this
              exact this
            rw [List.getElem?_map, List.getElem?_range yn] at hy
            cases hy
            have tb2 := (tb.same s10).same s1
            obtain ⟨xs, rr, eb, ea, er⟩ := tb2.row xn
            walk_at "tx"
            refine ⟨_, _, _, _, rfl, rfl, SqL.of eb, ea, ?_⟩
            walk_at "tx"
            refine ⟨_, _, _, _, rfl, rfl, SqL.of er, row_cell yn, ?_⟩
            walk_at "tx"
            have pl := mo.pn _ _ xn yn
            refine ⟨d, _, rfl, by omega, by omega, ?_⟩
            refine ⟨_, rfl, ?_⟩
            cases e1 : d.testBit (P x y) with
            | true =>
              rw [if_pos rfl]
              refine ⟨_, eD, bl_len (by omega), ?_⟩
              rw [bl_app (by show (d.testBit (P x y) || !a.testBit y) = true; rw [e1]; rfl)]
              exact ⟨bl_step hD s1, upd_same⟩
            | false =>
              rw [if_neg (by decide)]
              walk_at "tx"
              refine ⟨a, y, rfl, by omega, by omega, ?_⟩
              refine ⟨_, rfl, ?_⟩
              refine ⟨_, eD, bl_len (by omega), ?_⟩
              rw [bl_app (by show (d.testBit (P x y) || !a.testBit y) = !a.testBit y; rw [e1]; rfl)]
              exact ⟨bl_step hD s1, upd_same⟩
          · rintro H11 ⟨s11, eD⟩
            rw [List.length_map, List.length_range] at eD
            walk_at "tx"
            refine ⟨D, _, rfl, SqL.of eD, ?_⟩
            refine ⟨_, rfl, ?_⟩
            cases e1 : (((List.range n).map fun y => d.testBit (P x y) || !a.testBit y).all id) with
            | true =>
              rw [if_pos rfl]
              walk_at "tx"
              refine rI_sh (by omega) ?_
              walk_at "tx"
              rw [bitOr_nn (Int.natCast_nonneg _) (Int.natCast_nonneg _), Int.toNat_natCast, Int.toNat_natCast]
              exact ⟨s10.trans s11, L, _, _, rfl, lq, rq.yes (g := (fun y z => P z y)) (all_bits.mp e1)⟩
            | false =>
              rw [if_neg (by decide)]
              walk_at "tx"
              exact ⟨s10.trans s11, L, _, _, rfl, lq, rq.no (g := (fun y z => P z y)) fun z => by rw [all_bits.mpr z] at e1; cases e1⟩
      · rintro σ' H10 ⟨s10, L, R, vx, rfl, lq, rq⟩
        rw [List.length_map, List.length_range] at lq rq
        replace rf := rf.same s10
        replace tb := tb.same s10
        replace eS := s10 _ _ eS
        replace hT := hT.same s10
        replace k1 := k1.trans (Same.kx s10)
        clear s10
        walk_at "tx"
        refine rekM rf.rek (by simp) ?_
        walk_at "tx"
        refine spOp_good rf la ld (fun G11 s11 => ?_)
        replace rf := rf.same s11
        replace tb := tb.same s11
        replace eS := s11 _ _ eS
        replace hT := hT.same s11
        replace k1 := k1.trans (Same.kx s11)
        clear s11
        walk_at "tx"
        refine ite_eqN (by rw [left_lots mo.pn gd la ld lq.lt fun x xn => lq.end x xn]) ?_
        walk_at "tx"
        refine rekM rf.rek (by simp) ?_
        walk_at "tx"
        refine spOp_good rf ld la (fun G12 s12 => ?_)
        replace rf := rf.same s12
        replace tb := tb.same s12
        replace eS := s12 _ _ eS
        replace hT := hT.same s12
        replace k1 := k1.trans (Same.kx s12)
        clear s12
        walk_at "tx"
        refine ite_eqN (by rw [right_lots mo gd la ld rq.lt fun x xn => rq.end x xn]) ?_
        walk_at "tx"
        exact ⟨⟨_, _, _, _, _, _, rfl⟩, hT, k1, rf, tb, eS⟩
    · rintro σ' H4 ⟨⟨v6, v7, v8, v9, va, vb, rfl⟩, hT4, k4, _⟩
      walk_at "tx"
      exact k H4 hT4 k4
end

/-! ### the law -/
open OQ (TabX RowX SeqAt)
open RK (Gd Mo lotP)
def spLaw (K : PySem.W.Frag) : Sp := fun vs H Q _ => ∃ (a : Addr) (ns : List Int), vs = [.ref a] ∧ SqL K H a (ns.map V.int) ∧ ns.length ≤ 63 ∧ ∀ H', Q (.bl true) H'
section
variable {P : Program} {w : World} {K : PySem.W.Frag} {mg : Str → Option Value} {base : Heap}
theorem ok_law (T : Top K mg) : FnOk P w K mg base CX0 20 T.f_law T.fd_law ["script"] (spLaw K) := by
  refine T.F_law.ok sc_law (fun vs H Q E h => ?_) (fun cdv A outer s H vs Q E hr h => ?_)
  · obtain ⟨a, ns, rfl, _⟩ := h; rfl
  · obtain ⟨ad, ns, rfl, hq, hl, k⟩ := h
    refine ⟨_, (pss_cons (ps_set (i := 1) sc_law.nd rfl (Or.inl rfl) (pe_call (ok_law_hand T) (hr.mono (by decide)) (by rfl) T.g_law_hand T.F_law_hand.kp T.b_law_hand .nil pass0 (pa_cons (pv 0) pa_nil)))
 (pss_cons (ps_asg (pe_call (ok_law_monoid T) (hr.mono (by decide)) (by rfl) T.g_law_monoid T.F_law_monoid.kp T.b_law_monoid .nil pass0 (pa_cons (pv 1) pa_nil)) (pg_tup (by rfl) (pgs_cons (pg_name (i := 2) sc_law.nd rfl (Or.inl rfl)) (pgs_cons (pg_name (i := 3) sc_law.nd rfl (Or.inl rfl)) pgs_nil))))
 (pss_cons (ps_if (pt_not (pt_val (pe_call (ok_law_lots_right T) (hr.mono (by decide)) (by rfl) T.g_law_lots_right T.F_law_lots_right.kp T.b_law_lots_right .nil pass0 (pa_cons (pv 1) (pa_cons (pv 2) (pa_cons (pv 3) pa_nil))))))
 (pss_one (ps_ret pe_bl))
 pss_nil)
 (pss_cons (ps_set (i := 4) sc_law.nd rfl (Or.inl rfl) (pe_call (ok_law_times T) (hr.mono (by decide)) (by rfl) T.g_law_times T.F_law_times.kp T.b_law_times .nil pass0 (pa_cons (pv 1) pa_nil)))
 (pss_cons (ps_set (i := 5) sc_law.nd rfl (Or.inl rfl) (pe_call (ok_law_times T) (hr.mono (by decide)) (by rfl) T.g_law_times T.F_law_times.kp T.b_law_times .nil pass0 (pa_cons (pv 1) pa_nil)))
 (pss_cons (ps_set (i := 6) sc_law.nd rfl (Or.inl rfl) (pe_call (ok_lots T) (hr.mono (by decide)) (by rfl) T.g_lots T.F_lots.kp T.b_lots .nil OQ.passN (pa_cons (pv 2) (pa_cons (pv 3) pa_nil))))
 (pss_cons (ps_if (pt_not (pt_val (pe_call (ok_law_turned_right T) (hr.mono (by decide)) (by rfl) T.g_law_turned_right T.F_law_turned_right.kp T.b_law_turned_right .nil pass0 (pa_cons (pv 1) (pa_cons (pv 6) (pa_cons (pe_op op_shl pe_int (pe_callB RD.c_len (by rfl) T.n_len (by decide +kernel) (pa_cons (pv 2) pa_nil))) pa_nil))))))
 (pss_one (ps_ret pe_bl))
 pss_nil)
 (pss_cons (ps_set (i := 7) sc_law.nd rfl (Or.inl rfl) (pe_call (ok_chain T) (hr.mono (by decide)) (by rfl) T.g_chain T.F_chain.kp T.b_chain .nil OQ.passN (pa_cons (pe_lst (pa_cons (pe_lst (pa_cons pe_int (pa_cons pe_int pa_nil))) (pa_cons (pe_lst (pa_cons pe_int (pa_cons pe_int pa_nil))) pa_nil))) pa_nil)))
 (C8.pss_cut (ps_if (pt_cmpR op_le (pe_op op_mul (pe_callB RD.c_len (by rfl) T.n_len (by decide +kernel) (pa_cons (pv 4) pa_nil)) (pe_callB RD.c_len (by rfl) T.n_len (by decide +kernel) (pa_cons (pv 5) pa_nil))) pe_int (nomark _))
 (pss_one (ps_if (pt_not (pt_val (pe_call (ok_law_beside_right T) (hr.mono (by decide)) (by rfl) T.g_law_beside_right T.F_law_beside_right.kp T.b_law_beside_right .nil pass0 (pa_cons (pv 1) (pa_cons (pe_call (ok_chain T) (hr.mono (by decide)) (by rfl) T.g_chain T.F_chain.kp T.b_chain .nil OQ.passN (pa_cons (pv 4) pa_nil)) (pa_cons (pe_call (ok_chain T) (hr.mono (by decide)) (by rfl) T.g_chain T.F_chain.kp T.b_chain .nil OQ.passN (pa_cons (pv 5) pa_nil)) (pa_cons (pe_lst (pa_cons (pe_callB RD.c_len (by rfl) T.n_len (by decide +kernel) (pa_cons (pv 4) pa_nil)) (pa_cons (pe_callB RD.c_len (by rfl) T.n_len (by decide +kernel) (pa_cons (pv 5) pa_nil)) pa_nil))) pa_nil)))))))
 (pss_one (ps_ret pe_bl))
 pss_nil))
 pss_nil)
 (pss_one (ps_ret (pe_call (ok_law_beside_right T) (hr.mono (by decide)) (by rfl) T.g_law_beside_right T.F_law_beside_right.kp T.b_law_beside_right .nil pass0 (pa_cons (pv 1) (pa_cons (pv 7) (pa_cons (pv 6) (pa_cons (pe_lst (pa_cons pe_int (pa_cons (pe_op op_shl pe_int (pe_callB RD.c_len (by rfl) T.n_len (by decide +kernel) (pa_cons (pv 2) pa_nil))) pa_nil))) pa_nil)))))))))))))))), ?_⟩
    walk_at "tx"
    refine ⟨ad, ns, rfl, hq, hl, fun h c H1 hT s1 _ => ?_⟩
    clear hq s1
    walk_at "tx"
    refine ⟨h, c, rfl, hT, fun t n P0 o H2 hT2 k2 mt n2 n3 mo => ?_⟩
    clear k2 hT
    obtain ⟨b, et, tb⟩ := mt
    refine ⟨t, [.ref b, .int o], rfl, SqT.of et, rfl, .ref b, [.int o], rfl, .int o, [], rfl, rfl, ?_⟩
    clear et
    walk_at "tx"
    refine ⟨h, c, b, n, o, P0, rfl, hT2, tb, n2, n3, mo, fun H3 hT3 k3 => ?_⟩
    replace tb := k3.tabL hT2 n2 tb
    clear hT2 k3
    walk_at "tx"
    refine ⟨h, c, rfl, hT3, fun p1 m1 M1 H4 hT4 k4 t1 q1 q2 g1 => ?_⟩
    replace tb := k4.tabL hT3 n2 tb
    clear hT3 k4
    walk_at "tx"
    refine ⟨h, c, rfl, hT4, fun p2 m2 M2 H5 hT5 k5 t2 q3 q4 g2 => ?_⟩
    replace tb := k5.tabL hT4 n2 tb
    replace t1 := k5.tabL hT4 q1 t1
    clear hT4 k5
    walk_at "tx"
    refine lots_good tb (by omega) (by omega) mo fun r H6 s6 rf => ?_
    replace tb := tb.same s6
    replace t1 := t1.same s6
    replace t2 := t2.same s6
    replace hT5 := hT5.same s6
    clear s6
    have n8 : 2 ^ n ≤ 8 := Nat.pow_le_pow_right (n := 2) (by omega) n3
    walk_at "tx"
    refine tb.x.len ?_
    refine rI_sh (by omega) ?_
    walk_at "tx"
    refine ⟨h, c, r, 2 ^ n, _, _, _, _, rfl, hT5, rf, fun H7 hT7 k7 => ?_⟩
    replace rf := rf.kxh hT5 k7
    replace tb := k7.tabL hT5 n2 tb
    replace t1 := k7.tabL hT5 q1 t1
    replace t2 := k7.tabL hT5 q3 t2
    clear k7 hT5
    walk_at "tx"
    refine ⟨by show 2 ≤ sizeLine; decide, fun u1 hu1 => ?_⟩
    walk_at "tx"
    refine ⟨by show 2 ≤ sizeLine; decide, fun u2 hu2 => ?_⟩
    walk_at "tx"
    refine ⟨by show 2 ≤ sizeLine; decide, fun y hy => ?_⟩
    have sA := same_upd (o := HO.lst [V.int 0, V.int 0]) hu1
    have sB := same_upd (o := HO.lst [V.int 0, V.int 1]) hu2
    have sC := same_upd (o := HO.lst [V.ref u1, V.ref u2]) hy
    have ty : TabXL (upd (upd (upd H7 u1 (.lst [.int 0, .int 0])) u2 (.lst [.int 0, .int 1])) y (.lst [.ref u1, .ref u2])) y 2 min := ⟨[u1, u2], rfl, upd_same, fun i r e => sC _ _ (by
      match i, e with
      | 0, e => cases e; exact sB _ _ (by rw [upd_same]; rfl)
      | 1, e => cases e; rw [upd_same]; rfl)⟩
    have s8 := (sA.trans sB).trans sC
    clear sA sB sC
    generalize upd (upd (upd H7 u1 (.lst [.int 0, .int 0])) u2 (.lst [.int 0, .int 1])) y (.lst [.ref u1, .ref u2]) = H8 at *
    clear hu1 hu2 hy
    replace tb := tb.same s8
    replace t1 := t1.same s8
    replace t2 := t2.same s8
    replace rf := rf.same s8
    replace hT7 := hT7.same s8
    clear s8
    walk_at "tx"
    refine ⟨y, 2, min, rfl, ty.x, by omega, by omega, RK.gd_min (by omega), fun ys H9 s9 ry => ?_⟩
    replace tb := tb.same s9
    replace t1 := t1.same s9
    replace t2 := t2.same s9
    replace rf := rf.same s9
    replace hT7 := hT7.same s9
    clear s9 ty
    walk_at "tx"
    refine RD.d_cut (fun σ' H' => σ' = [some (.ref ad), some (.ref h), some (.ref b), some (.int o), some (.ref p1), some (.ref p2), some (.ref r), some (.ref ys)] ∧ HandAt H' h c ∧ TabXL H' b n P0 ∧ RekF K T.C_Reckoning H' r (2 ^ n) (fun a b => a ||| b) (lotP n P0) 0 (2 ^ o) ∧ RekF K T.C_Reckoning H' ys 2 max min 0 (2 - 1)) ?_ ?_
    · walk_at "tx"
      refine t1.x.len ?_
      walk_at "tx"
      refine t2.x.len ?_
      walk_at "tx"
      refine RD.iteD (fun c16 => ?_) (fun c16 => ?_)
      · walk_at "tx"
        refine ⟨p1, m1, M1, rfl, t1.x, q1, by omega, g1, fun x1 G1 s1 r1 => ?_⟩
        replace tb := tb.same s1
        replace t1 := t1.same s1
        replace t2 := t2.same s1
        replace rf := rf.same s1
        replace ry := ry.same s1
        replace hT7 := hT7.same s1
        clear s1
        walk_at "tx"
        refine ⟨p2, m2, M2, rfl, t2.x, q3, by omega, g2, fun x2 G2 s2 r2 => ?_⟩
        replace tb := tb.same s2
        replace t1 := t1.same s2
        replace t2 := t2.same s2
        replace rf := rf.same s2
        replace ry := ry.same s2
        replace r1 := r1.same s2
        replace hT7 := hT7.same s2
        clear s2
        walk_at "tx"
        refine t1.x.len ?_
        walk_at "tx"
        refine t2.x.len ?_
        walk_at "tx"
        refine ⟨by show 2 ≤ sizeLine; decide, fun S hS => ?_⟩
        have sS := same_upd (o := HO.lst [V.int m1, V.int m2]) hS
        have eS : upd G2 S (.lst [V.int m1, V.int m2]) S = some (.lst [V.int m1, V.int m2]) := upd_same
        have nS := (hT7.ne hS).1
        replace tb := tb.same sS
        replace rf := rf.same sS
        replace ry := ry.same sS
        replace r1 := r1.same sS
        replace r2 := r2.same sS
        replace hT7 := hT7.same sS
        clear sS hS
        generalize upd G2 S (.lst [V.int m1, V.int m2]) = G3 at *
        walk_at "tx"
        refine ⟨h, c, x1, x2, S, m1, m2, _, _, _, _, _, _, _, _, rfl, hT7, r1, r2, by omega, nS, eS, fun G4 hT4 k4 => ?_⟩
        replace tb := k4.tabL hT7 n2 tb
        replace rf := rf.kxh hT7 k4
        replace ry := ry.kxh hT7 k4
        clear k4
        walk_at "tx"
        exact ⟨rfl, hT4, tb, rf, ry⟩
      · walk_at "tx"
        exact ⟨rfl, hT7, tb, rf, ry⟩
    · rintro σ' H10 ⟨rfl, hT, tb, rf, ry⟩
      walk_at "tx"
      refine tb.x.len ?_
      refine rI_sh (by omega) ?_
      walk_at "tx"
      refine ⟨by show 2 ≤ sizeLine; decide, fun S hS => ?_⟩
      have sS := same_upd (o := HO.lst [V.int 2, V.int ((2 ^ n : Nat) : Int)]) hS
      have eS : upd H10 S (.lst [V.int 2, V.int ((2 ^ n : Nat) : Int)]) S = some (.lst [V.int 2, V.int ((2 ^ n : Nat) : Int)]) := upd_same
      have nS := (hT.ne hS).1
      replace rf := rf.same sS
      replace ry := ry.same sS
      replace hT := hT.same sS
      clear sS hS
      generalize upd H10 S (.lst [V.int 2, V.int ((2 ^ n : Nat) : Int)]) = G3 at *
      walk_at "tx"
      refine ⟨h, c, ys, r, S, 2, 2 ^ n, _, _, _, _, _, _, _, _, rfl, hT, ry, rf, by omega, nS, eS, fun G4 hT4 k4 => ?_⟩
      exact k G4
end

theorem nf_self {K : PySem.W.Frag} {C : Addr} : PySem.W.notFirst K C (.ref C) = true := by unfold PySem.W.notFirst; simp
theorem vaH {r : Option PySem.W.CFound} {f : Addr} (h : (match r with | some (.val v) => decide (v = Value.ref f) | _ => false) = true) : r = some (.val (.ref f)) := by
  split at h
  · rw [of_decide_eq_true h]
  · cases h
theorem facts {P : Program} {w : World} {K : PySem.W.Frag} {h : Heap} {mg : Str → Option Value} {f : Addr} (X : K.In h) (G : h.Ns mainGlobals mg) (hfa : mg ("law" : Str) = some (.ref f)) (c : He.SaysD faH fnH K) (x : exH K = true) :
    ∃ fd : FuncData, (∀ (s : Shared) (v : Value), BindsTo s fd ⟨[v], []⟩ [("script", v)]) ∧ ∀ base : Heap, K.In base → base.Ns mainGlobals mg → FnOk P w K mg base CX0 20 f fd ["script"] (spLaw K) := by
  obtain ⟨fdWayError__init, DWayError__init⟩ := c.def_ 0 (d := dH_WayError__init) rfl
  have FWayError__init : Fun K _ _ s_WayError__init _ fdWayError__init := OQ.fun_of DWayError__init
  have bWayError__init := FWayError__init.binds (ps := ["self", "value"]) fun _ _ _ _ _ _ us hl => match us, hl with | [_, _], _ => rfl
  obtain ⟨fdTooMany__init, DTooMany__init⟩ := c.def_ 1 (d := dH_TooMany__init) rfl
  have FTooMany__init : Fun K _ _ s_TooMany__init _ fdTooMany__init := OQ.fun_of DTooMany__init
  have bTooMany__init := FTooMany__init.binds (ps := ["self"]) fun _ _ _ _ _ _ us hl => match us, hl with | [_], _ => rfl
  obtain ⟨fdis_integer, Dis_integer⟩ := c.def_ 2 (d := dH_is_integer) rfl
  have Fis_integer : Fun K _ _ s_is_integer _ fdis_integer := OQ.fun_of Dis_integer
  have bis_integer := Fis_integer.binds (ps := ["thing"]) fun _ _ _ _ _ _ us hl => match us, hl with | [_], _ => rfl
  obtain ⟨fdis_row, Dis_row⟩ := c.def_ 3 (d := dH_is_row) rfl
  have Fis_row : Fun K _ _ s_is_row _ fdis_row := OQ.fun_of Dis_row
  have bis_row := Fis_row.binds (ps := ["thing"]) fun _ _ _ _ _ _ us hl => match us, hl with | [_], _ => rfl
  obtain ⟨fdfirst_fault, Dfirst_fault⟩ := c.def_ 4 (d := dH_first_fault) rfl
  have Ffirst_fault : Fun K _ _ s_first_fault _ fdfirst_fault := OQ.fun_of Dfirst_fault
  have bfirst_fault := Ffirst_fault.binds (ps := ["joins", "products", "none", "one"]) fun _ _ _ _ _ _ us hl => match us, hl with | [_, _, _, _], _ => rfl
  obtain ⟨fdsize_fault, Dsize_fault⟩ := c.def_ 5 (d := dH_size_fault) rfl
  have Fsize_fault : Fun K _ _ s_size_fault _ fdsize_fault := OQ.fun_of Dsize_fault
  have bsize_fault := Fsize_fault.binds (ps := ["joins", "products", "none", "one"]) fun _ _ _ _ _ _ us hl => match us, hl with | [_, _, _, _], _ => rfl
  obtain ⟨fdis_square, Dis_square⟩ := c.def_ 6 (d := dH_is_square) rfl
  have Fis_square : Fun K _ _ s_is_square _ fdis_square := OQ.fun_of Dis_square
  have bis_square := Fis_square.binds (ps := ["many", "thing"]) fun _ _ _ _ _ _ us hl => match us, hl with | [_, _], _ => rfl
  obtain ⟨fdis_side, Dis_side⟩ := c.def_ 7 (d := dH_is_side) rfl
  have Fis_side : Fun K _ _ s_is_side _ fdis_side := OQ.fun_of Dis_side
  have bis_side := Fis_side.binds (ps := ["many", "thing"]) fun _ _ _ _ _ _ us hl => match us, hl with | [_, _], _ => rfl
  obtain ⟨fdis_below, Dis_below⟩ := c.def_ 8 (d := dH_is_below) rfl
  have Fis_below : Fun K _ _ s_is_below _ fdis_below := OQ.fun_of Dis_below
  have bis_below := Fis_below.binds (ps := ["many", "thing"]) fun _ _ _ _ _ _ us hl => match us, hl with | [_, _], _ => rfl
  obtain ⟨fdnone_fault, Dnone_fault⟩ := c.def_ 9 (d := dH_none_fault) rfl
  have Fnone_fault : Fun K _ _ s_none_fault _ fdnone_fault := OQ.fun_of Dnone_fault
  have bnone_fault := Fnone_fault.binds (ps := ["joins", "products", "none"]) fun _ _ _ _ _ _ us hl => match us, hl with | [_, _, _], _ => rfl
  obtain ⟨fdone_fault, Done_fault⟩ := c.def_ 10 (d := dH_one_fault) rfl
  have Fone_fault : Fun K _ _ s_one_fault _ fdone_fault := OQ.fun_of Done_fault
  have bone_fault := Fone_fault.binds (ps := ["products", "one"]) fun _ _ _ _ _ _ us hl => match us, hl with | [_, _], _ => rfl
  obtain ⟨fdidle_fault, Didle_fault⟩ := c.def_ 11 (d := dH_idle_fault) rfl
  have Fidle_fault : Fun K _ _ s_idle_fault _ fdidle_fault := OQ.fun_of Didle_fault
  have bidle_fault := Fidle_fault.binds (ps := ["joins"]) fun _ _ _ _ _ _ us hl => match us, hl with | [_], _ => rfl
  obtain ⟨fdswap_fault, Dswap_fault⟩ := c.def_ 12 (d := dH_swap_fault) rfl
  have Fswap_fault : Fun K _ _ s_swap_fault _ fdswap_fault := OQ.fun_of Dswap_fault
  have bswap_fault := Fswap_fault.binds (ps := ["joins"]) fun _ _ _ _ _ _ us hl => match us, hl with | [_], _ => rfl
  obtain ⟨fdgrouping_fault, Dgrouping_fault⟩ := c.def_ 13 (d := dH_grouping_fault) rfl
  have Fgrouping_fault : Fun K _ _ s_grouping_fault _ fdgrouping_fault := OQ.fun_of Dgrouping_fault
  have bgrouping_fault := Fgrouping_fault.binds (ps := ["word", "table"]) fun _ _ _ _ _ _ us hl => match us, hl with | [_, _], _ => rfl
  obtain ⟨fdover_fault, Dover_fault⟩ := c.def_ 14 (d := dH_over_fault) rfl
  have Fover_fault : Fun K _ _ s_over_fault _ fdover_fault := OQ.fun_of Dover_fault
  have bover_fault := Fover_fault.binds (ps := ["joins", "products"]) fun _ _ _ _ _ _ us hl => match us, hl with | [_, _], _ => rfl
  obtain ⟨fdsame_fault, Dsame_fault⟩ := c.def_ 15 (d := dH_same_fault) rfl
  have Fsame_fault : Fun K _ _ s_same_fault _ fdsame_fault := OQ.fun_of Dsame_fault
  have bsame_fault := Fsame_fault.binds (ps := ["none", "one"]) fun _ _ _ _ _ _ us hl => match us, hl with | [_, _], _ => rfl
  obtain ⟨fdcheck_worths, Dcheck_worths⟩ := c.def_ 16 (d := dH_check_worths) rfl
  have Fcheck_worths : Fun K _ _ s_check_worths _ fdcheck_worths := OQ.fun_of Dcheck_worths
  have bcheck_worths := Fcheck_worths.binds (ps := ["reckoning", "first", "second"]) fun _ _ _ _ _ _ us hl => match us, hl with | [_, _, _], _ => rfl
  obtain ⟨fdReckoning__init, DReckoning__init⟩ := c.def_ 17 (d := dH_Reckoning__init) rfl
  have FReckoning__init : Fun K _ _ s_Reckoning__init _ fdReckoning__init := OQ.fun_of DReckoning__init
  have bReckoning__init := FReckoning__init.binds (ps := ["self", "joins", "products", "none", "one"]) fun _ _ _ _ _ _ us hl => match us, hl with | [_, _, _, _, _], _ => rfl
  obtain ⟨fdReckoning_is_worth, DReckoning_is_worth⟩ := c.def_ 18 (d := dH_Reckoning_is_worth) rfl
  have FReckoning_is_worth : Fun K _ _ s_Reckoning_is_worth _ fdReckoning_is_worth := OQ.fun_of DReckoning_is_worth
  have bReckoning_is_worth := FReckoning_is_worth.binds (ps := ["self", "thing"]) fun _ _ _ _ _ _ us hl => match us, hl with | [_, _], _ => rfl
  obtain ⟨fdReckoning_beneath, DReckoning_beneath⟩ := c.def_ 19 (d := dH_Reckoning_beneath) rfl
  have FReckoning_beneath : Fun K _ _ s_Reckoning_beneath _ fdReckoning_beneath := OQ.fun_of DReckoning_beneath
  have bReckoning_beneath := FReckoning_beneath.binds (ps := ["self", "a", "b"]) fun _ _ _ _ _ _ us hl => match us, hl with | [_, _, _], _ => rfl
  obtain ⟨fdReckoning_join, DReckoning_join⟩ := c.def_ 20 (d := dH_Reckoning_join) rfl
  have FReckoning_join : Fun K _ _ s_Reckoning_join _ fdReckoning_join := OQ.fun_of DReckoning_join
  have bReckoning_join := FReckoning_join.binds (ps := ["self", "a", "b"]) fun _ _ _ _ _ _ us hl => match us, hl with | [_, _, _], _ => rfl
  obtain ⟨fdReckoning_times, DReckoning_times⟩ := c.def_ 21 (d := dH_Reckoning_times) rfl
  have FReckoning_times : Fun K _ _ s_Reckoning_times _ fdReckoning_times := OQ.fun_of DReckoning_times
  have bReckoning_times := FReckoning_times.binds (ps := ["self", "a", "b"]) fun _ _ _ _ _ _ us hl => match us, hl with | [_, _, _], _ => rfl
  obtain ⟨fdReckoning_meet, DReckoning_meet⟩ := c.def_ 22 (d := dH_Reckoning_meet) rfl
  have FReckoning_meet : Fun K _ _ s_Reckoning_meet _ fdReckoning_meet := OQ.fun_of DReckoning_meet
  have bReckoning_meet := FReckoning_meet.binds (ps := ["self", "a", "b"]) fun _ _ _ _ _ _ us hl => match us, hl with | [_, _, _], _ => rfl
  obtain ⟨fdReckoning_greatest, DReckoning_greatest⟩ := c.def_ 23 (d := dH_Reckoning_greatest) rfl
  have FReckoning_greatest : Fun K _ _ s_Reckoning_greatest _ fdReckoning_greatest := OQ.fun_of DReckoning_greatest
  have bReckoning_greatest := FReckoning_greatest.binds (ps := ["self"]) fun _ _ _ _ _ _ us hl => match us, hl with | [_], _ => rfl
  obtain ⟨fdReckoning_left, DReckoning_left⟩ := c.def_ 24 (d := dH_Reckoning_left) rfl
  have FReckoning_left : Fun K _ _ s_Reckoning_left _ fdReckoning_left := OQ.fun_of DReckoning_left
  have bReckoning_left := FReckoning_left.binds (ps := ["self", "a", "c"]) fun _ _ _ _ _ _ us hl => match us, hl with | [_, _, _], _ => rfl
  obtain ⟨fdReckoning_right, DReckoning_right⟩ := c.def_ 25 (d := dH_Reckoning_right) rfl
  have FReckoning_right : Fun K _ _ s_Reckoning_right _ fdReckoning_right := OQ.fun_of DReckoning_right
  have bReckoning_right := FReckoning_right.binds (ps := ["self", "c", "a"]) fun _ _ _ _ _ _ us hl => match us, hl with | [_, _, _], _ => rfl
  obtain ⟨fdReckoning_Ujoined, DReckoning_Ujoined⟩ := c.def_ 26 (d := dH_Reckoning_Ujoined) rfl
  have FReckoning_Ujoined : Fun K _ _ s_Reckoning_Ujoined _ fdReckoning_Ujoined := OQ.fun_of DReckoning_Ujoined
  have bReckoning_Ujoined := FReckoning_Ujoined.binds (ps := ["self", "worths"]) fun _ _ _ _ _ _ us hl => match us, hl with | [_, _], _ => rfl
  obtain ⟨fdReckoning_Umeet, DReckoning_Umeet⟩ := c.def_ 27 (d := dH_Reckoning_Umeet) rfl
  have FReckoning_Umeet : Fun K _ _ s_Reckoning_Umeet _ fdReckoning_Umeet := OQ.fun_of DReckoning_Umeet
  have bReckoning_Umeet := FReckoning_Umeet.binds (ps := ["self", "a", "b"]) fun _ _ _ _ _ _ us hl => match us, hl with | [_, _, _], _ => rfl
  obtain ⟨fdReckoning_Uleft, DReckoning_Uleft⟩ := c.def_ 28 (d := dH_Reckoning_Uleft) rfl
  have FReckoning_Uleft : Fun K _ _ s_Reckoning_Uleft _ fdReckoning_Uleft := OQ.fun_of DReckoning_Uleft
  have bReckoning_Uleft := FReckoning_Uleft.binds (ps := ["self", "a", "c"]) fun _ _ _ _ _ _ us hl => match us, hl with | [_, _, _], _ => rfl
  obtain ⟨fdReckoning_Uright, DReckoning_Uright⟩ := c.def_ 29 (d := dH_Reckoning_Uright) rfl
  have FReckoning_Uright : Fun K _ _ s_Reckoning_Uright _ fdReckoning_Uright := OQ.fun_of DReckoning_Uright
  have bReckoning_Uright := FReckoning_Uright.binds (ps := ["self", "c", "a"]) fun _ _ _ _ _ _ us hl => match us, hl with | [_, _, _], _ => rfl
  obtain ⟨fdcheck_told, Dcheck_told⟩ := c.def_ 30 (d := dH_check_told) rfl
  have Fcheck_told : Fun K _ _ s_check_told _ fdcheck_told := OQ.fun_of Dcheck_told
  have bcheck_told := Fcheck_told.binds (ps := ["reckoning"]) fun _ _ _ _ _ _ us hl => match us, hl with | [_], _ => rfl
  obtain ⟨fdturned, Dturned⟩ := c.def_ 31 (d := dH_turned) rfl
  have Fturned : Fun K _ _ s_turned _ fdturned := OQ.fun_of Dturned
  have bturned := Fturned.binds (ps := ["reckoning"]) fun _ _ _ _ _ _ us hl => match us, hl with | [_], _ => rfl
  obtain ⟨fdbeside, Dbeside⟩ := c.def_ 32 (d := dH_beside) rfl
  have Fbeside : Fun K _ _ s_beside _ fdbeside := OQ.fun_of Dbeside
  have bbeside := Fbeside.binds (ps := ["one", "other"]) fun _ _ _ _ _ _ us hl => match us, hl with | [_, _], _ => rfl
  obtain ⟨fdlots, Dlots⟩ := c.def_ 33 (d := dH_lots) rfl
  have Flots : Fun K _ _ s_lots _ fdlots := OQ.fun_of Dlots
  have blots := Flots.binds (ps := ["products", "one"]) fun _ _ _ _ _ _ us hl => match us, hl with | [_, _], _ => rfl
  obtain ⟨fdchain, Dchain⟩ := c.def_ 34 (d := dH_chain) rfl
  have Fchain : Fun K _ _ s_chain _ fdchain := OQ.fun_of Dchain
  have bchain := Fchain.binds (ps := ["times"]) fun _ _ _ _ _ _ us hl => match us, hl with | [_], _ => rfl
  obtain ⟨fdgreater_ones, Dgreater_ones⟩ := c.def_ 35 (d := dH_greater_ones) rfl
  have Fgreater_ones : Fun K _ _ s_greater_ones _ fdgreater_ones := OQ.fun_of Dgreater_ones
  have bgreater_ones := Fgreater_ones.binds (ps := ["size"]) fun _ _ _ _ _ _ us hl => match us, hl with | [_], _ => rfl
  obtain ⟨fdside_by_side, Dside_by_side⟩ := c.def_ 36 (d := dH_side_by_side) rfl
  have Fside_by_side : Fun K _ _ s_side_by_side _ fdside_by_side := OQ.fun_of Dside_by_side
  have bside_by_side := Fside_by_side.binds (ps := ["one", "other"]) fun _ _ _ _ _ _ us hl => match us, hl with | [_, _], _ => rfl
  obtain ⟨fdlots_fault, Dlots_fault⟩ := c.def_ 37 (d := dH_lots_fault) rfl
  have Flots_fault : Fun K _ _ s_lots_fault _ fdlots_fault := OQ.fun_of Dlots_fault
  have blots_fault := Flots_fault.binds (ps := ["products", "one"]) fun _ _ _ _ _ _ us hl => match us, hl with | [_, _], _ => rfl
  obtain ⟨fdproduct_of_lots, Dproduct_of_lots⟩ := c.def_ 38 (d := dH_product_of_lots) rfl
  have Fproduct_of_lots : Fun K _ _ s_product_of_lots _ fdproduct_of_lots := OQ.fun_of Dproduct_of_lots
  have bproduct_of_lots := Fproduct_of_lots.binds (ps := ["products", "a", "b"]) fun _ _ _ _ _ _ us hl => match us, hl with | [_, _, _], _ => rfl
  obtain ⟨fdlaw_hand, Dlaw_hand⟩ := c.def_ 39 (d := dH_law_hand) rfl
  have Flaw_hand : Fun K _ _ s_law_hand _ fdlaw_hand := OQ.fun_of Dlaw_hand
  have blaw_hand := Flaw_hand.binds (ps := ["script"]) fun _ _ _ _ _ _ us hl => match us, hl with | [_], _ => rfl
  obtain ⟨fdlaw_draw, Dlaw_draw⟩ := c.def_ 40 (d := dH_law_draw) rfl
  have Flaw_draw : Fun K _ _ s_law_draw _ fdlaw_draw := OQ.fun_of Dlaw_draw
  have blaw_draw := Flaw_draw.binds (ps := ["hand", "many"]) fun _ _ _ _ _ _ us hl => match us, hl with | [_, _], _ => rfl
  obtain ⟨fdlaw_times, Dlaw_times⟩ := c.def_ 41 (d := dH_law_times) rfl
  have Flaw_times : Fun K _ _ s_law_times _ fdlaw_times := OQ.fun_of Dlaw_times
  have blaw_times := Flaw_times.binds (ps := ["hand"]) fun _ _ _ _ _ _ us hl => match us, hl with | [_], _ => rfl
  obtain ⟨fdlaw_monoid, Dlaw_monoid⟩ := c.def_ 42 (d := dH_law_monoid) rfl
  have Flaw_monoid : Fun K _ _ s_law_monoid _ fdlaw_monoid := OQ.fun_of Dlaw_monoid
  have blaw_monoid := Flaw_monoid.binds (ps := ["hand"]) fun _ _ _ _ _ _ us hl => match us, hl with | [_], _ => rfl
  obtain ⟨fdlaw_in, Dlaw_in⟩ := c.def_ 43 (d := dH_law_in) rfl
  have Flaw_in : Fun K _ _ s_law_in _ fdlaw_in := OQ.fun_of Dlaw_in
  have blaw_in := Flaw_in.binds (ps := ["lot", "thing"]) fun _ _ _ _ _ _ us hl => match us, hl with | [_, _], _ => rfl
  obtain ⟨fdlaw_lots_right, Dlaw_lots_right⟩ := c.def_ 44 (d := dH_law_lots_right) rfl
  have Flaw_lots_right : Fun K _ _ s_law_lots_right _ fdlaw_lots_right := OQ.fun_of Dlaw_lots_right
  have blaw_lots_right := Flaw_lots_right.binds (ps := ["hand", "products", "one"]) fun _ _ _ _ _ _ us hl => match us, hl with | [_, _, _], _ => rfl
  obtain ⟨fdlaw_beside_right, Dlaw_beside_right⟩ := c.def_ 45 (d := dH_law_beside_right) rfl
  have Flaw_beside_right : Fun K _ _ s_law_beside_right _ fdlaw_beside_right := OQ.fun_of Dlaw_beside_right
  have blaw_beside_right := Flaw_beside_right.binds (ps := ["hand", "one", "other", "sizes"]) fun _ _ _ _ _ _ us hl => match us, hl with | [_, _, _, _], _ => rfl
  obtain ⟨fdlaw_turned_right, Dlaw_turned_right⟩ := c.def_ 46 (d := dH_law_turned_right) rfl
  have Flaw_turned_right : Fun K _ _ s_law_turned_right _ fdlaw_turned_right := OQ.fun_of Dlaw_turned_right
  have blaw_turned_right := Flaw_turned_right.binds (ps := ["hand", "reckoning", "size"]) fun _ _ _ _ _ _ us hl => match us, hl with | [_, _, _], _ => rfl
  obtain ⟨fdlaw, Dlaw⟩ := c.def_ 47 (d := dH_law) rfl
  have Flaw : Fun K _ _ s_law _ fdlaw := OQ.fun_of Dlaw
  have blaw := Flaw.binds (ps := ["script"]) fun _ _ _ _ _ _ us hl => match us, hl with | [_], _ => rfl
  have gWayError : mg "WayError" = some (.ref (He.ga K "WayError")) := He.glo_ok X G (c.fact 0 rfl)
  have gBadReckoning : mg "BadReckoning" = some (.ref (He.ga K "BadReckoning")) := He.glo_ok X G (c.fact 1 rfl)
  have gBadWorth : mg "BadWorth" = some (.ref (He.ga K "BadWorth")) := He.glo_ok X G (c.fact 2 rfl)
  have gTooMany : mg "TooMany" = some (.ref (He.ga K "TooMany")) := He.glo_ok X G (c.fact 3 rfl)
  have gReckoning : mg "Reckoning" = some (.ref (He.ga K "Reckoning")) := He.glo_ok X G (c.fact 4 rfl)
  have gis_integer : mg "is_integer" = some (.ref (He.ga K "is_integer")) := He.glo_ok X G (c.fact 5 rfl)
  have gis_row : mg "is_row" = some (.ref (He.ga K "is_row")) := He.glo_ok X G (c.fact 6 rfl)
  have gfirst_fault : mg "first_fault" = some (.ref (He.ga K "first_fault")) := He.glo_ok X G (c.fact 7 rfl)
  have gsize_fault : mg "size_fault" = some (.ref (He.ga K "size_fault")) := He.glo_ok X G (c.fact 8 rfl)
  have gis_square : mg "is_square" = some (.ref (He.ga K "is_square")) := He.glo_ok X G (c.fact 9 rfl)
  have gis_side : mg "is_side" = some (.ref (He.ga K "is_side")) := He.glo_ok X G (c.fact 10 rfl)
  have gis_below : mg "is_below" = some (.ref (He.ga K "is_below")) := He.glo_ok X G (c.fact 11 rfl)
  have gnone_fault : mg "none_fault" = some (.ref (He.ga K "none_fault")) := He.glo_ok X G (c.fact 12 rfl)
  have gone_fault : mg "one_fault" = some (.ref (He.ga K "one_fault")) := He.glo_ok X G (c.fact 13 rfl)
  have gidle_fault : mg "idle_fault" = some (.ref (He.ga K "idle_fault")) := He.glo_ok X G (c.fact 14 rfl)
  have gswap_fault : mg "swap_fault" = some (.ref (He.ga K "swap_fault")) := He.glo_ok X G (c.fact 15 rfl)
  have ggrouping_fault : mg "grouping_fault" = some (.ref (He.ga K "grouping_fault")) := He.glo_ok X G (c.fact 16 rfl)
  have gover_fault : mg "over_fault" = some (.ref (He.ga K "over_fault")) := He.glo_ok X G (c.fact 17 rfl)
  have gsame_fault : mg "same_fault" = some (.ref (He.ga K "same_fault")) := He.glo_ok X G (c.fact 18 rfl)
  have gcheck_worths : mg "check_worths" = some (.ref (He.ga K "check_worths")) := He.glo_ok X G (c.fact 19 rfl)
  have gcheck_told : mg "check_told" = some (.ref (He.ga K "check_told")) := He.glo_ok X G (c.fact 20 rfl)
  have gturned : mg "turned" = some (.ref (He.ga K "turned")) := He.glo_ok X G (c.fact 21 rfl)
  have gbeside : mg "beside" = some (.ref (He.ga K "beside")) := He.glo_ok X G (c.fact 22 rfl)
  have glots : mg "lots" = some (.ref (He.ga K "lots")) := He.glo_ok X G (c.fact 23 rfl)
  have gchain : mg "chain" = some (.ref (He.ga K "chain")) := He.glo_ok X G (c.fact 24 rfl)
  have ggreater_ones : mg "greater_ones" = some (.ref (He.ga K "greater_ones")) := He.glo_ok X G (c.fact 25 rfl)
  have gside_by_side : mg "side_by_side" = some (.ref (He.ga K "side_by_side")) := He.glo_ok X G (c.fact 26 rfl)
  have glots_fault : mg "lots_fault" = some (.ref (He.ga K "lots_fault")) := He.glo_ok X G (c.fact 27 rfl)
  have gproduct_of_lots : mg "product_of_lots" = some (.ref (He.ga K "product_of_lots")) := He.glo_ok X G (c.fact 28 rfl)
  have g_law_hand : mg "_law_hand" = some (.ref (He.ga K "_law_hand")) := He.glo_ok X G (c.fact 29 rfl)
  have g_law_draw : mg "_law_draw" = some (.ref (He.ga K "_law_draw")) := He.glo_ok X G (c.fact 30 rfl)
  have g_law_times : mg "_law_times" = some (.ref (He.ga K "_law_times")) := He.glo_ok X G (c.fact 31 rfl)
  have g_law_monoid : mg "_law_monoid" = some (.ref (He.ga K "_law_monoid")) := He.glo_ok X G (c.fact 32 rfl)
  have g_law_in : mg "_law_in" = some (.ref (He.ga K "_law_in")) := He.glo_ok X G (c.fact 33 rfl)
  have g_law_lots_right : mg "_law_lots_right" = some (.ref (He.ga K "_law_lots_right")) := He.glo_ok X G (c.fact 34 rfl)
  have g_law_beside_right : mg "_law_beside_right" = some (.ref (He.ga K "_law_beside_right")) := He.glo_ok X G (c.fact 35 rfl)
  have g_law_turned_right : mg "_law_turned_right" = some (.ref (He.ga K "_law_turned_right")) := He.glo_ok X G (c.fact 36 rfl)
  have glaw : mg "law" = some (.ref (He.ga K "law")) := He.glo_ok X G (c.fact 37 rfl)
  have zabs : mg "abs" = none := He.free_ok X G (c.fact 38 rfl)
  have zall : mg "all" = none := He.free_ok X G (c.fact 39 rfl)
  have zbool : mg "bool" = none := He.free_ok X G (c.fact 40 rfl)
  have zint : mg "int" = none := He.free_ok X G (c.fact 41 rfl)
  have zisinstance : mg "isinstance" = none := He.free_ok X G (c.fact 42 rfl)
  have zlen : mg "len" = none := He.free_ok X G (c.fact 43 rfl)
  have zlist : mg "list" = none := He.free_ok X G (c.fact 44 rfl)
  have zmax : mg "max" = none := He.free_ok X G (c.fact 45 rfl)
  have zmin : mg "min" = none := He.free_ok X G (c.fact 46 rfl)
  have zrange : mg "range" = none := He.free_ok X G (c.fact 47 rfl)
  have ztuple : mg "tuple" = none := He.free_ok X G (c.fact 48 rfl)
  have zzip : mg "zip" = none := He.free_ok X G (c.fact 49 rfl)
  obtain ⟨tkFEWEST_WORTHS, gFEWEST_WORTHS⟩ := He.int_ok X G (c.fact 50 (f := .int "FEWEST_WORTHS" 2) rfl)
  obtain ⟨tkMOST_WORTHS, gMOST_WORTHS⟩ := He.int_ok X G (c.fact 51 (f := .int "MOST_WORTHS" 16) rfl)
  obtain ⟨tkMOST_THINGS, gMOST_THINGS⟩ := He.int_ok X G (c.fact 52 (f := .int "MOST_THINGS" 4) rfl)
  have r0 := x
  obtain ⟨qhnO, r1⟩ := OQ.two r0
  obtain ⟨qhtO, r2⟩ := OQ.two r1
  obtain ⟨qhaReckoning, r3⟩ := OQ.two r2
  obtain ⟨qhmReckoning, r4⟩ := OQ.two r3
  obtain ⟨qtI, r5⟩ := OQ.two r4
  obtain ⟨qkintRe, r6⟩ := OQ.two r5
  obtain ⟨qkboolRe, r7⟩ := OQ.two r6
  obtain ⟨qicWE, r8⟩ := OQ.two r7
  obtain ⟨qtyWE, r9⟩ := OQ.two r8
  obtain ⟨qexWE, r10⟩ := OQ.two r9
  obtain ⟨qneRe, r11⟩ := OQ.two r10
  obtain ⟨qeBadReckoning, r12⟩ := OQ.two r11
  obtain ⟨qeBadWorth, r13⟩ := OQ.two r12
  obtain ⟨qeTooMany, r14⟩ := OQ.two r13
  obtain ⟨qtI2, r15⟩ := OQ.two r14
  obtain ⟨qrdWE, r16⟩ := OQ.two r15
  obtain ⟨qgaWE, r17⟩ := OQ.two r16
  have qvaWE := r17
  have hnO := OQ.isB_ok qhnO
  have htO := of_decide_eq_true qhtO
  have eBadReckoning := OQ.erB_ok hnO htO qeBadReckoning
  have eBadWorth := OQ.erB_ok hnO htO qeBadWorth
  have eTooMany := OQ.erB_ok hnO htO qeTooMany
  have e := hfa.symm.trans glaw
  cases e
  let T : Top K mg := { C_Reckoning := _, cl_Reckoning := He.cls_ok (c.fact 53 (f := .cls "Reckoning") rfl), g_Reckoning := gReckoning, na_Reckoning_joins := He.noat_ok (c.fact 54 (f := .noat "Reckoning" "joins") rfl), na_Reckoning_products := He.noat_ok (c.fact 55 (f := .noat "Reckoning" "products") rfl), na_Reckoning_none := He.noat_ok (c.fact 56 (f := .noat "Reckoning" "none") rfl), na_Reckoning_one := He.noat_ok (c.fact 57 (f := .noat "Reckoning" "one") rfl), na_Reckoning__meets := He.noat_ok (c.fact 58 (f := .noat "Reckoning" "_meets") rfl), na_Reckoning__lefts := He.noat_ok (c.fact 59 (f := .noat "Reckoning" "_lefts") rfl), na_Reckoning__rights := He.noat_ok (c.fact 60 (f := .noat "Reckoning" "_rights") rfl), f_WayError__init := _, fd_WayError__init := fdWayError__init, F_WayError__init := FWayError__init, b_WayError__init := bWayError__init, f_TooMany__init := _, fd_TooMany__init := fdTooMany__init, F_TooMany__init := FTooMany__init, b_TooMany__init := bTooMany__init, f_is_integer := _, fd_is_integer := fdis_integer, F_is_integer := Fis_integer, b_is_integer := bis_integer, g_is_integer := gis_integer, f_is_row := _, fd_is_row := fdis_row, F_is_row := Fis_row, b_is_row := bis_row, g_is_row := gis_row, f_first_fault := _, fd_first_fault := fdfirst_fault, F_first_fault := Ffirst_fault, b_first_fault := bfirst_fault, g_first_fault := gfirst_fault, f_size_fault := _, fd_size_fault := fdsize_fault, F_size_fault := Fsize_fault, b_size_fault := bsize_fault, g_size_fault := gsize_fault, f_is_square := _, fd_is_square := fdis_square, F_is_square := Fis_square, b_is_square := bis_square, g_is_square := gis_square, f_is_side := _, fd_is_side := fdis_side, F_is_side := Fis_side, b_is_side := bis_side, g_is_side := gis_side, f_is_below := _, fd_is_below := fdis_below, F_is_below := Fis_below, b_is_below := bis_below, g_is_below := gis_below, f_none_fault := _, fd_none_fault := fdnone_fault, F_none_fault := Fnone_fault, b_none_fault := bnone_fault, g_none_fault := gnone_fault, f_one_fault := _, fd_one_fault := fdone_fault, F_one_fault := Fone_fault, b_one_fault := bone_fault, g_one_fault := gone_fault, f_idle_fault := _, fd_idle_fault := fdidle_fault, F_idle_fault := Fidle_fault, b_idle_fault := bidle_fault, g_idle_fault := gidle_fault, f_swap_fault := _, fd_swap_fault := fdswap_fault, F_swap_fault := Fswap_fault, b_swap_fault := bswap_fault, g_swap_fault := gswap_fault, f_grouping_fault := _, fd_grouping_fault := fdgrouping_fault, F_grouping_fault := Fgrouping_fault, b_grouping_fault := bgrouping_fault, g_grouping_fault := ggrouping_fault, f_over_fault := _, fd_over_fault := fdover_fault, F_over_fault := Fover_fault, b_over_fault := bover_fault, g_over_fault := gover_fault, f_same_fault := _, fd_same_fault := fdsame_fault, F_same_fault := Fsame_fault, b_same_fault := bsame_fault, g_same_fault := gsame_fault, f_check_worths := _, fd_check_worths := fdcheck_worths, F_check_worths := Fcheck_worths, b_check_worths := bcheck_worths, g_check_worths := gcheck_worths, f_Reckoning__init := _, fd_Reckoning__init := fdReckoning__init, F_Reckoning__init := FReckoning__init, b_Reckoning__init := bReckoning__init, M_Reckoning := He.mkr_ok (c.fact 73 (f := .mkr "Reckoning") rfl), f_Reckoning_is_worth := _, fd_Reckoning_is_worth := fdReckoning_is_worth, F_Reckoning_is_worth := FReckoning_is_worth, b_Reckoning_is_worth := bReckoning_is_worth, m_Reckoning_is_worth := He.meth_ok (c.fact 61 (f := .meth "Reckoning" "is_worth") rfl), f_Reckoning_beneath := _, fd_Reckoning_beneath := fdReckoning_beneath, F_Reckoning_beneath := FReckoning_beneath, b_Reckoning_beneath := bReckoning_beneath, m_Reckoning_beneath := He.meth_ok (c.fact 62 (f := .meth "Reckoning" "beneath") rfl), f_Reckoning_join := _, fd_Reckoning_join := fdReckoning_join, F_Reckoning_join := FReckoning_join, b_Reckoning_join := bReckoning_join, m_Reckoning_join := He.meth_ok (c.fact 63 (f := .meth "Reckoning" "join") rfl), f_Reckoning_times := _, fd_Reckoning_times := fdReckoning_times, F_Reckoning_times := FReckoning_times, b_Reckoning_times := bReckoning_times, m_Reckoning_times := He.meth_ok (c.fact 64 (f := .meth "Reckoning" "times") rfl), f_Reckoning_meet := _, fd_Reckoning_meet := fdReckoning_meet, F_Reckoning_meet := FReckoning_meet, b_Reckoning_meet := bReckoning_meet, m_Reckoning_meet := He.meth_ok (c.fact 65 (f := .meth "Reckoning" "meet") rfl), f_Reckoning_greatest := _, fd_Reckoning_greatest := fdReckoning_greatest, F_Reckoning_greatest := FReckoning_greatest, b_Reckoning_greatest := bReckoning_greatest, m_Reckoning_greatest := He.meth_ok (c.fact 66 (f := .meth "Reckoning" "greatest") rfl), f_Reckoning_left := _, fd_Reckoning_left := fdReckoning_left, F_Reckoning_left := FReckoning_left, b_Reckoning_left := bReckoning_left, m_Reckoning_left := He.meth_ok (c.fact 67 (f := .meth "Reckoning" "left") rfl), f_Reckoning_right := _, fd_Reckoning_right := fdReckoning_right, F_Reckoning_right := FReckoning_right, b_Reckoning_right := bReckoning_right, m_Reckoning_right := He.meth_ok (c.fact 68 (f := .meth "Reckoning" "right") rfl), f_Reckoning_Ujoined := _, fd_Reckoning_Ujoined := fdReckoning_Ujoined, F_Reckoning_Ujoined := FReckoning_Ujoined, b_Reckoning_Ujoined := bReckoning_Ujoined, m_Reckoning_Ujoined := He.meth_ok (c.fact 69 (f := .meth "Reckoning" "_joined") rfl), f_Reckoning_Umeet := _, fd_Reckoning_Umeet := fdReckoning_Umeet, F_Reckoning_Umeet := FReckoning_Umeet, b_Reckoning_Umeet := bReckoning_Umeet, m_Reckoning_Umeet := He.meth_ok (c.fact 70 (f := .meth "Reckoning" "_meet") rfl), f_Reckoning_Uleft := _, fd_Reckoning_Uleft := fdReckoning_Uleft, F_Reckoning_Uleft := FReckoning_Uleft, b_Reckoning_Uleft := bReckoning_Uleft, m_Reckoning_Uleft := He.meth_ok (c.fact 71 (f := .meth "Reckoning" "_left") rfl), f_Reckoning_Uright := _, fd_Reckoning_Uright := fdReckoning_Uright, F_Reckoning_Uright := FReckoning_Uright, b_Reckoning_Uright := bReckoning_Uright, m_Reckoning_Uright := He.meth_ok (c.fact 72 (f := .meth "Reckoning" "_right") rfl), f_check_told := _, fd_check_told := fdcheck_told, F_check_told := Fcheck_told, b_check_told := bcheck_told, g_check_told := gcheck_told, f_turned := _, fd_turned := fdturned, F_turned := Fturned, b_turned := bturned, g_turned := gturned, f_beside := _, fd_beside := fdbeside, F_beside := Fbeside, b_beside := bbeside, g_beside := gbeside, f_lots := _, fd_lots := fdlots, F_lots := Flots, b_lots := blots, g_lots := glots, f_chain := _, fd_chain := fdchain, F_chain := Fchain, b_chain := bchain, g_chain := gchain, f_greater_ones := _, fd_greater_ones := fdgreater_ones, F_greater_ones := Fgreater_ones, b_greater_ones := bgreater_ones, g_greater_ones := ggreater_ones, f_side_by_side := _, fd_side_by_side := fdside_by_side, F_side_by_side := Fside_by_side, b_side_by_side := bside_by_side, g_side_by_side := gside_by_side, f_lots_fault := _, fd_lots_fault := fdlots_fault, F_lots_fault := Flots_fault, b_lots_fault := blots_fault, g_lots_fault := glots_fault, f_product_of_lots := _, fd_product_of_lots := fdproduct_of_lots, F_product_of_lots := Fproduct_of_lots, b_product_of_lots := bproduct_of_lots, g_product_of_lots := gproduct_of_lots, f_law_hand := _, fd_law_hand := fdlaw_hand, F_law_hand := Flaw_hand, b_law_hand := blaw_hand, g_law_hand := g_law_hand, f_law_draw := _, fd_law_draw := fdlaw_draw, F_law_draw := Flaw_draw, b_law_draw := blaw_draw, g_law_draw := g_law_draw, f_law_times := _, fd_law_times := fdlaw_times, F_law_times := Flaw_times, b_law_times := blaw_times, g_law_times := g_law_times, f_law_monoid := _, fd_law_monoid := fdlaw_monoid, F_law_monoid := Flaw_monoid, b_law_monoid := blaw_monoid, g_law_monoid := g_law_monoid, f_law_in := _, fd_law_in := fdlaw_in, F_law_in := Flaw_in, b_law_in := blaw_in, g_law_in := g_law_in, f_law_lots_right := _, fd_law_lots_right := fdlaw_lots_right, F_law_lots_right := Flaw_lots_right, b_law_lots_right := blaw_lots_right, g_law_lots_right := g_law_lots_right, f_law_beside_right := _, fd_law_beside_right := fdlaw_beside_right, F_law_beside_right := Flaw_beside_right, b_law_beside_right := blaw_beside_right, g_law_beside_right := g_law_beside_right, f_law_turned_right := _, fd_law_turned_right := fdlaw_turned_right, F_law_turned_right := Flaw_turned_right, b_law_turned_right := blaw_turned_right, g_law_turned_right := g_law_turned_right, f_law := _, fd_law := fdlaw, F_law := Flaw, b_law := blaw, g_law := glaw, n_abs := zabs, n_all := zall, n_bool := zbool, n_int := zint, n_isinstance := zisinstance, n_len := zlen, n_list := zlist, n_max := zmax, n_min := zmin, n_range := zrange, n_tuple := ztuple, n_zip := zzip, hnO := hnO, htO := htO, k_FEWEST_WORTHS := tkFEWEST_WORTHS, g_FEWEST_WORTHS := gFEWEST_WORTHS, k_MOST_WORTHS := tkMOST_WORTHS, g_MOST_WORTHS := gMOST_WORTHS, k_MOST_THINGS := tkMOST_THINGS, g_MOST_THINGS := gMOST_THINGS, ha_Reckoning := OQ.isB_ok qhaReckoning, hm_Reckoning := of_decide_eq_true qhmReckoning, kRR := kit_selfR, kE_BadReckoning := kit_selfR, kE_BadWorth := kit_selfR, kE_TooMany := kit_selfR, tI := of_decide_eq_true qtI, kI_Reckoning := of_decide_eq_true qkintRe, kB_Reckoning := of_decide_eq_true qkboolRe, ne_Reckoning := OQ.isB_ok qneRe, tI_TooMany := of_decide_eq_true qtI2, c_WE := ⟨qrdWE, OQ.isB_ok qgaWE, vaH qvaWE, FWayError__init.kp⟩, C_WayError := _, g_WayError := gWayError, nfR := nf_self, C_BadReckoning := _, g_BadReckoning := gBadReckoning, oex_BadReckoning := eBadReckoning.oex, i_BadReckoning := eBadReckoning.ini, v_BadReckoning := eBadReckoning.va, xf_BadReckoning := eBadReckoning.xf, exI_BadReckoning := eBadReckoning.exi, exm_BadReckoning := OQ.exm_is eBadReckoning.oex.exC eBadReckoning.cls eBadReckoning.oex.tyC (OQ.mro_has eBadReckoning (by simp)), C_BadWorth := _, g_BadWorth := gBadWorth, oex_BadWorth := eBadWorth.oex, i_BadWorth := eBadWorth.ini, v_BadWorth := eBadWorth.va, xf_BadWorth := eBadWorth.xf, exI_BadWorth := eBadWorth.exi, exm_BadWorth := OQ.exm_is eBadWorth.oex.exC eBadWorth.cls eBadWorth.oex.tyC (OQ.mro_has eBadWorth (by simp)), C_TooMany := _, g_TooMany := gTooMany, oex_TooMany := eTooMany.oex, i_TooMany := eTooMany.ini, v_TooMany := eTooMany.va, xf_TooMany := eTooMany.xf, exI_TooMany := eTooMany.exi, exm_TooMany := OQ.exm_is eTooMany.oex.exC eTooMany.cls eTooMany.oex.tyC (OQ.mro_has eTooMany (by simp)), exW_BadReckoning := OQ.exm_eW eBadReckoning (of_decide_eq_true qexWE) qicWE (of_decide_eq_true qtyWE), exW_BadWorth := OQ.exm_eW eBadWorth (of_decide_eq_true qexWE) qicWE (of_decide_eq_true qtyWE), exW_TooMany := OQ.exm_eW eTooMany (of_decide_eq_true qexWE) qicWE (of_decide_eq_true qtyWE) }
  exact ⟨fdlaw, fun s v => FunD.bindsA (ps := ["script"]) Dlaw (fun _ _ _ _ _ _ us hl => match us, hl with | [_], _ => rfl) s [v] rfl, fun base _ _ => ok_law T⟩

end Toy
open PySem PySem.W PySem.Calls PyProof.Rows
set_option maxRecDepth 100000 in
set_option maxHeartbeats 0 in
theorem PySem.Challenge.cw_watchedways_k35_whole_leavings_of_made_o_holds : PySem.Challenge.rw_watchedways_k35_whole_leavings_of_made_o.Holds := by
  w_on; o_law
  refine HG.head_run (r := OpenLaw.row PySem.Challenge.rw_watchedways_k35_whole_leavings_of_made_o) (q := view (OpenLaw.row PySem.Challenge.rw_watchedways_k35_whole_leavings_of_made_o).prog [47]) (H := Toy.hk) (ob := Toy.ob) (N := 30000) (M := Toy.HX.MT) (x0 := fun w => Toy.HX.X0 w Toy.HX.os0) (x1 := fun w => Toy.HX.X4 w Toy.HX.os0) (loose := Toy.looseH) (d := HandSHeadRun.topDef (OpenLaw.row PySem.Challenge.rw_watchedways_k35_whole_leavings_of_made_o).prog 47) (kwd := []) (OQ.obB_eq 5 Toy.faH Toy.fnH Toy.exH)
    Toy.HX.boot Toy.HX.size Toy.HX.run (by kernel_rfl) Toy.HX.looks Toy.HX.seen_ Toy.HX.obs_ (by kernel_rfl) (by kernel_rfl) (by kernel_rfl) (by rfl) (by first | assumption | decide +kernel) (by decide +kernel) ⟨rfl, rfl, rfl, rfl, rfl, by decide +kernel⟩ ?hw ?hc
  case hw => w_witness2
  case hc =>
    refine L2.walk_ofE (l := PySem.Challenge.rw_watchedways_k35_whole_leavings_of_made_o) (n := 63) (k := 20) (x := "script") (CX := L2.CX0) rfl (by decide) (by kernel_rfl) ⟨rfl, by decide, by decide⟩ ?F (fun _ _ _ _ z => z)
    intro w mg fa h Y G hmg0
    obtain ⟨K, KX, c, x⟩ := Y
    have hmg : mg ("law" : PySem.Str) = some (.ref fa) := by
      have e : (HandSHeadRun.topDef (OpenLaw.row PySem.Challenge.rw_watchedways_k35_whole_leavings_of_made_o).prog 47).name = ("law" : PySem.Str) := by kernel_rfl
      rw [← e]
      exact hmg0
    obtain ⟨fd, hb, hF⟩ := Toy.facts (P := (PySem.Challenge.rw_watchedways_k35_whole_leavings_of_made_o).prog) (w := w) KX G hmg c x
    exact ⟨K, fd, Toy.spLaw K, KX, hb, fun H a ns hl _ hS => ⟨a, ns, rfl, hS, hl, fun _ => rfl⟩, hF⟩

