/- Sessions, codes and families: as texts, and as values. Written by wip/gen/gopen13.py. -/
import Derived.Test.YtefnkkjmcfpiaaaDoorTextsPure
import Derived.Test.YtefnkkjmcfpiaaaDoorTexts
namespace Go.Proofs.YtefnkkjmcfpiaaaDoor
set_option linter.unusedVariables false

/-- api.Session -/
structure Sess where
  fCookie : List UInt8
  fClient : List UInt8
  fRedirect : List UInt8
  fState : List UInt8
  fNonce : List UInt8
  fScope : List UInt8
  fChallenge : List UInt8
  fStage : Int
  fConn : List UInt8
  fUpState : List UInt8
  fUpNonce : List UInt8
  fEnds : Int
def Sess.texts (x : Sess) : List (List UInt8) := [x.fCookie, x.fClient, x.fRedirect, x.fState, x.fNonce, x.fScope, x.fChallenge, decI x.fStage, x.fConn, x.fUpState, x.fUpNonce, decI x.fEnds]
def Sess.val (x : Sess) : Value := .agg #[tv x.fCookie, tv x.fClient, tv x.fRedirect, tv x.fState, tv x.fNonce, tv x.fScope, tv x.fChallenge, .int .i64 x.fStage, tv x.fConn, tv x.fUpState, tv x.fUpNonce, .int .i64 x.fEnds]
def Sess.ok (x : Sess) : Prop := (-9223372036854775808 ≤ x.fStage ∧ x.fStage ≤ 9223372036854775807) ∧ (-9223372036854775808 ≤ x.fEnds ∧ x.fEnds ≤ 9223372036854775807)
theorem Sess.inj {x y : Sess} (h : textsL x.texts = textsL y.texts) : x = y := by
  obtain ⟨a0, a1, a2, a3, a4, a5, a6, a7, a8, a9, a10, a11⟩ := x
  obtain ⟨b0, b1, b2, b3, b4, b5, b6, b7, b8, b9, b10, b11⟩ := y
  have h := textsL_inj h
  simp only [Sess.texts, List.cons.injEq, and_true] at h
  obtain ⟨h0, h1, h2, h3, h4, h5, h6, h7, h8, h9, h10, h11⟩ := h
  have h7 := decI_inj h7
  have h11 := decI_inj h11
  rw [h0, h1, h2, h3, h4, h5, h6, h7, h8, h9, h10, h11]
/-- api.Code -/
structure Cod where
  fCode : List UInt8
  fClient : List UInt8
  fRedirect : List UInt8
  fChallenge : List UInt8
  fNonce : List UInt8
  fScope : List UInt8
  fUser : List UInt8
  fConn : List UInt8
  fSub : List UInt8
  fClaims : List UInt8
  fRefresh : List UInt8
  fEnds : Int
  fFamily : List UInt8
def Cod.texts (x : Cod) : List (List UInt8) := [x.fCode, x.fClient, x.fRedirect, x.fChallenge, x.fNonce, x.fScope, x.fUser, x.fConn, x.fSub, x.fClaims, x.fRefresh, decI x.fEnds, x.fFamily]
def Cod.val (x : Cod) : Value := .agg #[tv x.fCode, tv x.fClient, tv x.fRedirect, tv x.fChallenge, tv x.fNonce, tv x.fScope, tv x.fUser, tv x.fConn, tv x.fSub, tv x.fClaims, tv x.fRefresh, .int .i64 x.fEnds, tv x.fFamily]
def Cod.ok (x : Cod) : Prop := (-9223372036854775808 ≤ x.fEnds ∧ x.fEnds ≤ 9223372036854775807)
theorem Cod.inj {x y : Cod} (h : textsL x.texts = textsL y.texts) : x = y := by
  obtain ⟨a0, a1, a2, a3, a4, a5, a6, a7, a8, a9, a10, a11, a12⟩ := x
  obtain ⟨b0, b1, b2, b3, b4, b5, b6, b7, b8, b9, b10, b11, b12⟩ := y
  have h := textsL_inj h
  simp only [Cod.texts, List.cons.injEq, and_true] at h
  obtain ⟨h0, h1, h2, h3, h4, h5, h6, h7, h8, h9, h10, h11, h12⟩ := h
  have h11 := decI_inj h11
  rw [h0, h1, h2, h3, h4, h5, h6, h7, h8, h9, h10, h11, h12]
/-- api.Family -/
structure Fam where
  fID : List UInt8
  fClient : List UInt8
  fUser : List UInt8
  fConn : List UInt8
  fSub : List UInt8
  fNonce : List UInt8
  fScope : List UInt8
  fClaims : List UInt8
  fRefresh : List UInt8
  fUp : List UInt8
  fOld : List (List UInt8)
  fRevoked : Bool
def Fam.texts (x : Fam) : List (List UInt8) := [x.fID, x.fClient, x.fUser, x.fConn, x.fSub, x.fNonce, x.fScope, x.fClaims, x.fRefresh, x.fUp, if x.fRevoked = true then [49] else [48]] ++ x.fOld
def Fam.val (x : Fam) (v : Value) : Value := .agg #[tv x.fID, tv x.fClient, tv x.fUser, tv x.fConn, tv x.fSub, tv x.fNonce, tv x.fScope, tv x.fClaims, tv x.fRefresh, tv x.fUp, v, .bool x.fRevoked]
theorem Fam.inj {x y : Fam} (h : textsL x.texts = textsL y.texts) : x = y := by
  obtain ⟨a0, a1, a2, a3, a4, a5, a6, a7, a8, a9, a10, a11⟩ := x
  obtain ⟨b0, b1, b2, b3, b4, b5, b6, b7, b8, b9, b10, b11⟩ := y
  have h := textsL_inj h
  simp only [Fam.texts, List.cons_append, List.nil_append, List.cons.injEq] at h
  obtain ⟨h0, h1, h2, h3, h4, h5, h6, h7, h8, h9, hr, ho⟩ := h
  have hr2 : a11 = b11 := by
    cases a11 <;> cases b11 <;> simp at hr <;> rfl
  rw [h0, h1, h2, h3, h4, h5, h6, h7, h8, h9, hr2, ho]
end Go.Proofs.YtefnkkjmcfpiaaaDoor
