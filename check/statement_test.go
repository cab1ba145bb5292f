package check

import (
	"testing"

	"carrel/api"
)

func TestStatements(t *testing.T) { // P12.1: what each statement gives
	for _, x := range []struct{ statements, want string }{
		{"", ""},
		{"; ;", ""},
		{"i := 1; j := i", "assign(g-1.0:1 #1:1); assign(g-1.1:1 g-1.0:1)"},
		{"y := i; i := y; y := 999", "assign(g-1.4:4 g-1.0:1); assign(g-1.0:1 g-1.4:4); assign(g-1.4:4 #999:1)"},
		{`c := "x"; c := kc; c := one; c := CHR(1)`, "assign(g-1.3:3 #120:3); assign(g-1.3:3 #65:3); assign(g-1.3:3 #121:3); assign(g-1.3:3 #1:3)"},
		{`s := "x"; s := ""; s := "abcde"; s := L.s; p.s := str; p.next.s := one`,
			"string(g-1.7:12 $0:7); string(g-1.7:12 $1:7); string(g-1.7:12 $2:7); string(g-1.7:12 $3:7); string(field28:12(deref:14(g-1.8:13)) $4:7); string(field28:12(deref:14(field24:13(deref:14(g-1.8:13)))) $5:7)"},
		{"v := v; r := r; s := s; w[0] := v; rr.v := p.v", "assign(g-1.6:11 g-1.6:11); assign(g-1.11:14 g-1.11:14); assign(g-1.7:12 g-1.7:12); assign(index:11(g-1.13:19 #0:1) g-1.6:11); assign(field8:11(g-1.12:16) field8:11(deref:14(g-1.8:13)))"},
		{"p := NIL; p := q; o := o", "assign(g-1.8:13 #0:6); assign(g-1.8:13 g-1.9:15); assign(g-1.10:17 g-1.10:17)"},
		{"IF b THEN END", "if(g-1.2:2){}"},
		{"IF b THEN N ELSE END", "if(g-1.2:2){do(call-1.0:0)}{}"},
		{"IF b THEN i := 1 ELSIF i = 1 THEN i := 2; N ELSIF TRUE THEN ELSE i := 3 END",
			"if(g-1.2:2 eq:2(g-1.0:1 #1:1) #1:2){assign(g-1.0:1 #1:1)}{assign(g-1.0:1 #2:1); do(call-1.0:0)}{}{assign(g-1.0:1 #3:1)}"},
		{"WHILE i < 3 DO INC(i) END", "while(lt:2(g-1.0:1 #3:1)){do(INC:0(g-1.0:1))}"},
		{"WHILE b DO N ELSIF ~b DO END", "while(g-1.2:2 not:2(g-1.2:2)){do(call-1.0:0)}{}"},
		{"REPEAT UNTIL b", "repeat(g-1.2:2){}"},
		{"REPEAT N; REPEAT N UNTIL TRUE UNTIL i = 0", "repeat(eq:2(g-1.0:1 #0:1)){do(call-1.0:0); repeat(#1:2){do(call-1.0:0)}}"},
		{"FOR i := 1 TO 3 DO N END", "for1(g-1.0:1 #1:1 #3:1){do(call-1.0:0)}"},
		{"FOR i := y TO j BY -k DO END", "for-5(g-1.0:1 g-1.4:4 g-1.1:1){}"},
		{"FOR i := j TO 0 BY 80000000H DO END", "for-2147483648(g-1.0:1 g-1.1:1 #0:1){}"},
		{"FOR i := 0 TO i BY LEN(v) DO FOR j := i TO i DO END END", "for4(g-1.0:1 #0:1 g-1.0:1){for1(g-1.1:1 g-1.0:1 g-1.0:1){}}"},
	} {
		gives(t, x.statements, x.want)
	}
}

func TestWrongStatements(t *testing.T) { // P12.1: what is looked at, in order
	for _, x := range []struct {
		statements string
		e          api.Errno
	}{
		{"@x := z", api.ErrCheckName},
		{"@F := z", api.ErrCheckName},
		{"@P := z", api.ErrCheckName},
		{"L@.F := z", api.ErrCheckName},
		{"@k := z", api.ErrCheckVar},
		{"@str := z", api.ErrCheckVar},
		{"@L.n := z", api.ErrCheckVar},
		{"@L.i := z", api.ErrCheckVar},
		{"@L.a := z", api.ErrCheckVar},
		{"@L.a[0] := z", api.ErrCheckVar},
		{"@F(1) := z", api.ErrCheckVar},
		{"F@() := z", api.ErrCheckArgs},
		{"N@() := z", api.ErrCheckType},
		{"@G() := z", api.ErrCheckVar},
		{"v@[4] := z", api.ErrCheckConst},
		{"i := @z", api.ErrCheckName},
		{"@i := b", api.ErrCheckType},
		{"@i := c", api.ErrCheckType},
		{"@b := i", api.ErrCheckType},
		{"@y := c", api.ErrCheckType},
		{"@c := y", api.ErrCheckType},
		{"@e := i", api.ErrCheckType},
		{"@i := NIL", api.ErrCheckType},
		{"@q := p", api.ErrCheckType},
		{"@o := p", api.ErrCheckType},
		{"@r := rr", api.ErrCheckType},
		{"@rr := r", api.ErrCheckType},
		{"@p := r", api.ErrCheckType},
		{"@v := w", api.ErrCheckType},
		{"@v := L.a", api.ErrCheckType},
		{"@r.x := b", api.ErrCheckType},
		{"@p.next := o", api.ErrCheckType},
		{`@c := "xy"`, api.ErrCheckType},
		{`@c := ""`, api.ErrCheckType},
		{`@i := "x"`, api.ErrCheckType},
		{`@s := "abcdef"`, api.ErrCheckType},
		{`@v := "a"`, api.ErrCheckType},
		{"@s := c", api.ErrCheckType},
		{"@s := kc", api.ErrCheckType},
		{"IF @i THEN x END", api.ErrCheckType},
		{"IF @x THEN END", api.ErrCheckName},
		{`IF @"x" THEN END`, api.ErrCheckType},
		{"IF i @+ 1 THEN END", api.ErrCheckType},
		{"IF b THEN @x ELSIF i THEN END", api.ErrCheckName},
		{"IF b THEN ELSIF @i THEN x END", api.ErrCheckType},
		{"IF b THEN ELSIF b THEN ELSE @x END", api.ErrCheckName},
		{"WHILE @1 DO x END", api.ErrCheckType},
		{"WHILE b DO @x ELSIF 1 DO END", api.ErrCheckName},
		{"WHILE b DO ELSIF @c DO x END", api.ErrCheckType},
		{"REPEAT @x UNTIL 1", api.ErrCheckName},
		{"REPEAT UNTIL @1", api.ErrCheckType},
		{"REPEAT UNTIL @x", api.ErrCheckName},
		{"REPEAT UNTIL @NIL", api.ErrCheckType},
		{"@FOR x := z TO z BY z DO z END", api.ErrCheckName},
		{"@FOR k := z TO z BY z DO z END", api.ErrCheckName},
		{"@FOR L := z TO z DO END", api.ErrCheckName},
		{"@FOR N := z TO z DO END", api.ErrCheckName},
		{"@FOR P := z TO z DO END", api.ErrCheckName},
		{"@FOR ABS := z TO z DO END", api.ErrCheckName},
		{"@FOR INTEGER := z TO z DO END", api.ErrCheckName},
		{"@FOR b := z TO z BY z DO z END", api.ErrCheckType},
		{"@FOR y := z TO z BY z DO z END", api.ErrCheckType},
		{"@FOR v := z TO z BY z DO z END", api.ErrCheckType},
		{"FOR i := @z TO b BY z DO z END", api.ErrCheckName},
		{"FOR i := @b TO z BY z DO z END", api.ErrCheckType},
		{"FOR i := 0 TO @z BY 0 DO z END", api.ErrCheckName},
		{"FOR i := 0 TO @c BY z DO z END", api.ErrCheckType},
		{"FOR i := 0 TO 1 BY @z DO z END", api.ErrCheckName},
		{"@FOR i := 0 TO 1 BY j DO z END", api.ErrCheckConst},
		{"@FOR i := 0 TO 1 BY 0 DO z END", api.ErrCheckConst},
		{"@FOR i := 0 TO 1 BY k - 5 DO z END", api.ErrCheckConst},
		{"@FOR i := 0 TO 1 BY TRUE DO z END", api.ErrCheckConst},
		{"@FOR i := 0 TO 1 BY 1X DO z END", api.ErrCheckConst},
		{`@FOR i := 0 TO 1 BY "1" DO z END`, api.ErrCheckConst},
		{"@FOR i := 0 TO 1 BY {1} DO z END", api.ErrCheckConst},
		{"@FOR i := 0 TO 1 BY NIL DO z END", api.ErrCheckConst},
		{"FOR i := 0 TO 1 BY 1 @DIV 0 DO z END", api.ErrCheckConst},
		{"FOR i := 0 TO 1 BY 1 DO @z END", api.ErrCheckName},
		{"i := 1; @z; x", api.ErrCheckName},
	} {
		wrong(t, source(x.statements), x.e)
	}
}
