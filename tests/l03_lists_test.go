package tests

import (
	"fmt"
	"strings"
	"testing"

	"loop.example/g03221/impl"
)

func TestP13TypesFrom(t *testing.T) {
	expect(t, textsOf(impl.TypesFrom(impl.Man, 1)), strings.Fields("m:F m:M m:B m:Z m:S m:D m:W"), "from a man")
	expect(t, textsOf(impl.TypesFrom(impl.Woman, 1)), strings.Fields("w:F w:M w:B w:Z w:S w:D w:H"), "from a woman")
	for n, want := range map[int]int{1: 7, 2: 56, 3: 399} {
		for _, ego := range []int{impl.Man, impl.Woman} {
			types := impl.TypesFrom(ego, n)
			expect(t, len(types), want, "TypesFrom %d %d: how many", ego, n)
			expect(t, types, wantTypesFrom(ego, n), "TypesFrom %d %d", ego, n)
		}
	}
	for _, ego := range []int{-1, 0, 3, lowest, highest} {
		for n := -1; n < 5; n++ {
			expect(t, len(impl.TypesFrom(ego, n)), 0, "TypesFrom %d %d", ego, n)
		}
	}
	for _, n := range []int{0, -1, 4, 8, lowest, highest} {
		expect(t, len(impl.TypesFrom(impl.Man, n))+len(impl.TypesFrom(impl.Woman, n)), 0, "TypesFrom with %d steps", n)
	}
}

func TestP13TypesBetween(t *testing.T) {
	f := parse(t, house)
	cases := []struct {
		a, b, n int
		want    string
	}{
		{cain, ada, 1, "m:Z m:W"},
		{cain, ada, 2, "m:Z m:W m:FD m:MD m:BZ m:SM"},
		{ada, cain, 1, "w:B w:H"},
		{ada, cain, 2, "w:B w:H w:FS w:MS w:BB w:SF"},
		{tubal, adam, 2, "m:FF m:MF"},
		{tubal, adam, 1, ""},
		{tubal, adam, 3, "m:FF m:MF m:FMH m:FBF m:FZF m:FWF m:MMH m:MBF m:MHF"},
		{zilla, tubal, 2, ""},
		{zilla, tubal, 3, "w:FSS w:FDS"},
		{adam, adam, 1, ""},
		{adam, adam, 2, "m:SF m:DF m:WH"},
		{enos, enos, 1, ""},
		{enos, enos, 2, "m:MS"},
		{stranger, enos, 1, ""},
		{stranger, enos, 2, "m:WS"},
		{enos, tubal, 3, ""},
	}
	for _, c := range cases {
		got := impl.TypesBetween(f, c.a, c.b, c.n)
		expect(t, textsOf(got), strings.Fields(c.want), "TypesBetween %d %d %d", c.a, c.b, c.n)
	}
	for _, n := range []int{0, -1, 4, lowest, highest} {
		expect(t, len(impl.TypesBetween(f, cain, ada, n)), 0, "TypesBetween with %d steps", n)
	}
}

func TestP13TypesBetweenByChance(t *testing.T) {
	r := newChance(48)
	listed := 0
	for range 24 {
		f := kinFamily(r, 1+r.IntN(10))
		tables := map[string]table{}
		for _, ego := range []int{impl.Man, impl.Woman} {
			for _, k := range wantTypesFrom(ego, 3) {
				tables[wantTypeText(k)] = wantTable(f, k)
			}
		}
		for a := range f.People {
			for b := range f.People {
				n := 1 + r.IntN(3)
				want := []impl.KinType{}
				for _, k := range wantTypesFrom(f.People[a].Sex, n) {
					if tables[wantTypeText(k)][a][b] {
						want = append(want, k)
					}
				}
				listed += len(want)
				expect(t, impl.TypesBetween(f, a, b, n), want, "TypesBetween %d %d %d of %v", a, b, n, f)
			}
		}
	}
	if listed < 1000 {
		t.Errorf("%d types are listed", listed)
	}
}

func TestP13ShortestType(t *testing.T) {
	f := parse(t, house)
	cases := []struct {
		a, b int
		want string
	}{
		{adam, adam, "m:."}, {eva, eva, "w:."}, {cain, ada, "m:Z"}, {ada, cain, "w:B"}, {adam, eva, "m:W"}, {eva, adam, "w:H"},
		{tubal, adam, "m:FF"}, {adam, tubal, "m:SS"}, {seth, cain, "m:FS"}, {seth, enos, "m:MS"}, {cain, zilla, "m:FD"}, {tubal, abel, "m:FB"},
		{stranger, enos, "m:WS"}, {enos, stranger, "m:MH"}, {enos, tubal, "m:MHSS"}, {tubal, enos, "m:FFWS"}, {zilla, stranger, "w:FWH"}, {eva, stranger, "w:HWH"},
	}
	for _, c := range cases {
		k, ok := impl.ShortestType(f, c.a, c.b)
		checkTypeText(t, k, ok, c.want, "ShortestType %d %d", c.a, c.b)
	}
	apart := parse(t, "man a - - 0 -\nman b - - 0 -\nwoman c a - 5 -\n")
	for _, pair := range [][2]int{{0, 1}, {1, 0}, {1, 2}, {2, 1}} {
		k, ok := impl.ShortestType(apart, pair[0], pair[1])
		checkTypeText(t, k, ok, "", "ShortestType %v of persons who are not kin", pair)
	}
}

// TestP13ShortestTypeOfBrothers: of several persons at the same number of steps, it is not the first who leads on best.
func TestP13ShortestTypeOfBrothers(t *testing.T) {
	f := parse(t, "man a - - 0 -\nman x a - 20 -\nman y a - 21 -\nwoman z y - 40 -\nunion x z 60 -\n")
	k, ok := impl.ShortestType(f, 0, 3)
	checkTypeText(t, k, ok, "m:SD", "ShortestType of a son's wife who is another son's daughter")
	// The son comes before the wife, but the way on over him is longer.
	g := parse(t, "man a - - 0 -\nwoman b - - 0 -\nman c a - 20 -\nman d - b 21 -\nman e c - 50 -\nman h e - 80 -\nunion a b 10 -\nunion d b 50 -\n")
	k, ok = impl.ShortestType(g, 0, 3)
	checkTypeText(t, k, ok, "m:WS", "ShortestType of a wife's son and husband")
	k, ok = impl.ShortestType(g, 5, 3)
	checkTypeText(t, k, ok, "m:FFFWS", "ShortestType over a step that comes last")
}

// generations has n men, each but the first a son of the one before.
func generations(n int) string {
	text := ""
	for i := range n {
		father := "-"
		if i > 0 {
			father = string(rune('a' + i - 1))
		}
		text += fmt.Sprintln("man", string(rune('a'+i)), father, "-", 20*i, "-")
	}
	return text
}

func TestP13ShortestTypeOfManySteps(t *testing.T) {
	f := parse(t, generations(11))
	for a := range 11 {
		for b := range 11 {
			up := strings.Repeat("F", max(0, a-b)) + strings.Repeat("S", max(0, b-a))
			want := "m:" + up
			if a == b {
				want = "m:."
			}
			if len(up) > impl.MaxSteps {
				want = ""
			}
			k, ok := impl.ShortestType(f, a, b)
			checkTypeText(t, k, ok, want, "ShortestType %d %d of generations", a, b)
		}
	}
	// Men and women in turn, each but the first united with the one before.
	text := ""
	for i := range 12 {
		text += fmt.Sprintln([]string{"man", "woman"}[i%2], string(rune('a'+i)), "- - 0 -")
	}
	for i := range 11 {
		text += fmt.Sprintln("union", string(rune('a'+i+i%2)), string(rune('a'+i+1-i%2)), "5 -")
	}
	g := parse(t, text)
	for b := range 12 {
		want := "m:" + strings.Repeat("WH", 6)[:b]
		if b == 0 {
			want = "m:."
		}
		if b > impl.MaxSteps {
			want = ""
		}
		k, ok := impl.ShortestType(g, 0, b)
		checkTypeText(t, k, ok, want, "ShortestType 0 %d of unions", b)
	}
}

func TestP13ShortestTypeByChance(t *testing.T) {
	r := newChance(49)
	long, apart := 0, 0
	for round := range 40 {
		f := kinFamily(r, 1+r.IntN(40))
		if round%4 == 0 {
			f = chanceFamily(r)
		}
		tables := kindTables(f)
		for a := range f.People {
			for b, want := range wantShortest(f, tables, a) {
				k, ok := impl.ShortestType(f, a, b)
				checkTypeText(t, k, ok, want, "ShortestType %d %d of %v", a, b, f)
				if len(want) > 6 {
					long++
				}
				if want == "" {
					apart++
				}
			}
			if t.Failed() {
				return
			}
		}
	}
	if long < 1000 || apart < 1000 {
		t.Errorf("%d types are long, and %d persons are not kin", long, apart)
	}
}
