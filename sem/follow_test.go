package sem

import (
	"math/rand"
	"strings"
	"testing"

	"carrel/api"
)

func TestFuelFollows(t *testing.T) { // what follows: each run ends; less fuel, more fuel
	r := rand.New(rand.NewSource(141))
	short := 0
	for s, mods := range chanceMods(t, r, 400) {
		input := chanceInput(r)
		const given = 20000
		got := run3(mods, input, given)
		if got.e != api.OK || got.left < 0 || got.left > given || got.end.At != 0 || got.end.Steps != 0 || got.end.Trap != 0 && got.end.Kind != api.EndTrap {
			t.Fatalf("%s: %v", s, got)
		}
		if got.end.Kind == api.EndBudget {
			short++
			if got.left != 0 {
				t.Fatalf("%s: %v", s, got)
			}
		}
		used := given - got.left
		for _, fuel := range []int64{0, r.Int63n(used + 1), r.Int63n(used + 1), used - 1, used, used + 1, given + r.Int63n(given), api.MaxFuel} {
			other := run3(mods, input, max(fuel, 0))
			less, more := got, other
			if fuel < used {
				less, more = other, got
			}
			if !strings.HasPrefix(more.out, less.out) {
				t.Fatalf("%s: %d: %q, but with %d %q", s, given, got.out, fuel, other.out)
			}
			want := got
			want.left = fuel - used
			if got.end.Kind != api.EndBudget && fuel >= used && other != want {
				t.Fatalf("%s: %d: %v; with %d %v", s, given, got, fuel, other)
			}
			if fuel < used && (other.end != api.End{Kind: api.EndBudget} || other.left != 0 || other.e != api.OK) {
				t.Fatalf("%s: %d used; with %d %v", s, used, fuel, other)
			}
		}
	}
	if short < 3 {
		t.Errorf("chance is one-sided: %d", short)
	}
}

func TestInputFollows(t *testing.T) { // what follows: input behind what is taken
	r := rand.New(rand.NewSource(142))
	const reads = "VAR c: CHAR; n, i: INTEGER; BEGIN EMIT(\"<\"); TAKE(c); n := ORD(c) MOD 5; FOR i := 1 TO n DO TAKE(c); EMIT(c); ASSERT(c # \"!\") END; EMIT(\">\")"
	rows := [][]api.Mod{}
	for range 200 {
		rows = append(rows, alone(t, reads))
	}
	for _, mods := range chanceMods(t, r, 600) {
		rows = append(rows, mods)
	}
	waits, goes := 0, 0
	for _, mods := range rows {
		input := chanceInput(r)
		fuel := []int64{300, 3000, 30000}[r.Intn(3)]
		got := run3(mods, input, fuel)
		for range 4 {
			more := run3(mods, input+chanceInput(r), fuel)
			if got.end.Kind != api.EndWait {
				goes++
				if more != got {
					t.Fatalf("%v; with more input %v", got, more)
				}
				continue
			}
			waits++
			if !strings.HasPrefix(more.out, got.out) || more.left > got.left || more.e != api.OK {
				t.Fatalf("%v; with more input %v", got, more)
			}
		}
		for n := range input { // the least beginning that does not wait is all that is taken
			less := run3(mods, input[:n], fuel)
			if less.end.Kind == api.EndWait {
				continue
			}
			if other := run3(mods, input[:n]+chanceInput(r), fuel); other != less || got != less {
				t.Fatalf("%v; with other input behind %v", less, other)
			}
		}
	}
	if waits < 100 || goes < 100 {
		t.Errorf("chance is one-sided: %d, %d", waits, goes)
	}
}

func TestTheSameAgain(t *testing.T) { // R4: nothing is kept from run to run
	r := rand.New(rand.NewSource(143))
	var all [][]api.Mod
	var first []answer
	for _, mods := range chanceMods(t, r, 60) {
		all = append(all, mods)
		first = append(first, run3(mods, "abc", 5000))
	}
	for i, mods := range all {
		if again := run3(mods, "abc", 5000); again != first[i] {
			t.Errorf("%v, then %v", first[i], again)
		}
	}
}
