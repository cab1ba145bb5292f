package check

import (
	"fmt"
	"testing"

	"carrel/api"
)

func TestTypes(t *testing.T) { // P12.1: type nodes, and where each stands in the row
	for _, x := range []struct{ source, want string }{
		{"TYPE T = INTEGER; U = T; VAR u: U;", "M | vars u:1"},
		{"TYPE T = ARRAY 2, 3 OF CHAR; VAR t: T;", "M | types array 3 of 3; array 2 of 8 | vars t:9"},
		{"CONST n = 4; TYPE T = ARRAY n * n OF ARRAY n OF SET;", "M | consts n:1=4 | types array 4 of 5; array 16 of 8"},
		{"TYPE T = ARRAY 1 OF CHAR; U = ARRAY 16384 OF CHAR;", "M | types array 1 of 3; array 16384 of 3"},
		{"TYPE R = RECORD END; S = RECORD (R) END;", "M | types record(0); record(8)"},
		{"TYPE R = RECORD a, b: CHAR; c: INTEGER END; S = RECORD (R) d: R; e: ARRAY 2 OF CHAR END;",
			"M | types record(0) a:3@0 b:3@1 c:1@4; array 2 of 3; record(8) d:8@8 e:9@16"},
		{"TYPE R = RECORD END; A = R; S = RECORD (A) x: A END;", "M | types record(0); record(8) x:8@0"},
		{"TYPE R = RECORD a: RECORD b: RECORD c: CHAR END END END;", "M | types record(0) c:3@0; record(0) b:8@0; record(0) a:9@0"},
		{"TYPE P = POINTER TO R; R = RECORD END; Q = POINTER TO R;", "M | types pointer to 9; record(0); pointer to 9"},
		{"TYPE R = RECORD p: POINTER TO R; q: POINTER TO S END; S = RECORD (R) END;",
			"M | types pointer to 10; pointer to 11; record(0) p:8@0 q:9@4; record(10)"},
		{"TYPE A = ARRAY 3 OF POINTER TO R; B = A; R = RECORD a: A END;", "M | types pointer to 10; array 3 of 8; record(0) a:9@0"},
		{"TYPE P = POINTER TO Q; S = RECORD END; Q = S;", "M | types pointer to 9; record(0)"},
		{"TYPE R = RECORD R, S: CHAR END; VAR R0: R; S: CHAR;", "M | types record(0) R:3@0 S:3@1 | vars R0:8 S:3"},
	} {
		if got := tell(right(t, "MODULE M; "+x.source+" END M.")); got != x.want {
			t.Errorf("%s: %s", x.source, got)
		}
	}
}

func TestWrongTypes(t *testing.T) { // P12.1: type nodes
	for _, x := range []struct {
		source string
		e      api.Errno
	}{
		{"TYPE T = @U;", api.ErrCheckName},
		{"TYPE T = @T;", api.ErrCheckName},
		{"TYPE T = @U; U = CHAR;", api.ErrCheckName},
		{"TYPE T = @c;", api.ErrCheckName},
		{"TYPE T = @ABS;", api.ErrCheckName},
		{"TYPE T = @L;", api.ErrCheckName},
		{"TYPE T = CHAR; @T = SET;", api.ErrCheckTwice},
		{"TYPE @c = SET;", api.ErrCheckTwice},
		{"TYPE @L = SET;", api.ErrCheckTwice},
		{"TYPE T = @ARRAY 0 OF CHAR;", api.ErrCheckConst},
		{"TYPE T = @ARRAY 16385 OF CHAR;", api.ErrCheckConst},
		{"TYPE T = @ARRAY -1 OF CHAR;", api.ErrCheckConst},
		{"TYPE T = @ARRAY TRUE OF CHAR;", api.ErrCheckConst},
		{"TYPE T = @ARRAY 5X OF CHAR;", api.ErrCheckConst},
		{"TYPE T = @ARRAY {1} OF CHAR;", api.ErrCheckConst},
		{`TYPE T = @ARRAY "1" OF CHAR;`, api.ErrCheckConst},
		{"TYPE T = @ARRAY L.i OF CHAR;", api.ErrCheckConst},
		{"TYPE T = @ARRAY NIL OF CHAR;", api.ErrCheckConst},
		{"TYPE T = @ARRAY 0 OF X;", api.ErrCheckConst},
		{"TYPE T = ARRAY @x OF CHAR;", api.ErrCheckName},
		{"TYPE T = ARRAY 2 OF @X;", api.ErrCheckName},
		{"TYPE T = @ARRAY 2, 0 OF CHAR;", api.ErrCheckConst},
		{"TYPE T = @ARRAY 128, 129 OF CHAR;", api.ErrCheckMany},
		{"TYPE T = @ARRAY 4097 OF INTEGER;", api.ErrCheckMany},
		{"TYPE T = ARRAY 2 OF @ARRAY 4097 OF INTEGER;", api.ErrCheckMany},
		{"TYPE T = @RECORD a: ARRAY 16384 OF CHAR; b: CHAR END;", api.ErrCheckMany},
		{"TYPE T = @RECORD (T) END;", api.ErrCheckName},
		{"TYPE T = @RECORD (c) END;", api.ErrCheckName},
		{"TYPE T = @RECORD (CHAR) END;", api.ErrCheckType},
		{"TYPE R = RECORD END; P = POINTER TO R; T = @RECORD (P) END;", api.ErrCheckType},
		{"TYPE T = @RECORD (U) x: Y END;", api.ErrCheckName},
		{"TYPE T = @RECORD (SET) x: Y END;", api.ErrCheckType},
		{"TYPE T = RECORD a: CHAR; b, @a: SET END;", api.ErrCheckTwice},
		{"TYPE T = RECORD a, @a: SET END;", api.ErrCheckTwice},
		{"TYPE T = RECORD a: CHAR; a: @X END;", api.ErrCheckName},
		{"TYPE T = RECORD a, @a: SET; b: X END;", api.ErrCheckTwice},
		{"TYPE R = RECORD a: CHAR END; S = RECORD (R) b: CHAR END; T = RECORD (S) c, @a: CHAR END;", api.ErrCheckTwice},
		{"TYPE R = RECORD a: CHAR END; S = RECORD (R) b: CHAR END; T = RECORD (S) @b: CHAR END;", api.ErrCheckTwice},
		{"TYPE R = RECORD END; S = RECORD (R) END; T = RECORD (S) END; U = RECORD (T) END; V = @RECORD (U) END;", api.ErrCheckMany},
		{"TYPE T = POINTER TO @INTEGER;", api.ErrCheckType},
		{"TYPE T = POINTER TO @c;", api.ErrCheckName},
		{"TYPE T = POINTER TO @L;", api.ErrCheckName},
		{"TYPE T = POINTER TO @LEN;", api.ErrCheckName},
		{"TYPE A = ARRAY 2 OF CHAR; T = POINTER TO @A;", api.ErrCheckType},
		{"TYPE T = POINTER TO @A; A = ARRAY 2 OF CHAR;", api.ErrCheckType},
		{"TYPE T = POINTER TO @T;", api.ErrCheckType},
		{"TYPE T = POINTER TO @X; R = RECORD p: POINTER TO Y END;", api.ErrCheckName},
		{"TYPE T = POINTER TO R; R = RECORD p: POINTER TO @Y; q: POINTER TO Z END;", api.ErrCheckName},
		{"TYPE T = POINTER TO @A; R = RECORD p: POINTER TO Y END; A = CHAR;", api.ErrCheckType},
		{"TYPE T = POINTER TO X; @T = CHAR;", api.ErrCheckTwice},
		{"TYPE T = POINTER TO @X; VAR X: RECORD END;", api.ErrCheckName},
	} {
		wrong(t, "MODULE M; IMPORT L; CONST c = 1; "+x.source+" END M.", x.e)
	}
}

func TestManyTypes(t *testing.T) { // P12.1: at most 200 types, 200 fields
	ones := func(n int) string {
		return "MODULE M; TYPE " + many(n, func(i int) string { return fmt.Sprint("T", i, " = ARRAY 1 OF CHAR; ") })
	}
	if m := right(t, ones(192)+"U = CHAR; R = T0; END M."); len(m.Types) != 200 {
		t.Error("200 types")
	}
	for source, e := range map[string]api.Errno{
		"U = @ARRAY 1 OF CHAR; END M.":                        api.ErrCheckMany,
		"U = @RECORD END; END M.":                             api.ErrCheckMany,
		"U = @POINTER TO R; R = CHAR; END M.":                 api.ErrCheckMany,
		"U = @RECORD a: CHAR; b: T0 END; END M.":              api.ErrCheckMany,
		"U = RECORD a: CHAR; b: @ARRAY 1 OF CHAR END; END M.": api.ErrCheckMany,
		"U = @ARRAY 0 OF CHAR; END M.":                        api.ErrCheckConst,
		"VAR v: @ARRAY 1 OF CHAR; END M.":                     api.ErrCheckMany,
		"PROCEDURE P(a: @ARRAY OF CHAR); END P; END M.":       api.ErrCheckMany,
		"PROCEDURE P; VAR a: @ARRAY 1 OF CHAR; END P; END M.": api.ErrCheckMany,
		"PROCEDURE P(a: ARRAY OF @X); END P; END M.":          api.ErrCheckName,
	} {
		wrong(t, ones(192)+source, e)
	}
	right(t, ones(190)+"P = POINTER TO T; T = RECORD END; END M.")
	wrong(t, ones(191)+"P = POINTER TO T; T = @RECORD END; END M.", api.ErrCheckMany)
	fields := func(n int) string { return many(n, func(i int) string { return fmt.Sprint("f", i, ": CHAR; ") }) }
	right(t, "MODULE M; TYPE T = RECORD "+fields(199)+"f: CHAR END; U = RECORD (T) a: CHAR END; END M.")
	wrong(t, "MODULE M; TYPE T = @RECORD "+fields(200)+"f: CHAR END; END M.", api.ErrCheckMany)
	wrong(t, "MODULE M; TYPE T = RECORD "+fields(200)+"@f0: CHAR END; END M.", api.ErrCheckTwice)
}
