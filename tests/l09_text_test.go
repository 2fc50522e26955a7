package tests

import (
	"fmt"
	"strings"
	"testing"

	"loop.example/g03221/impl"
)

func TestP13IsLaw(t *testing.T) {
	for i, x := range numbersOf(&impl.Law{}) {
		values := []int{x.least - 1, x.least, x.least + 1, x.most - 1, x.most, x.most + 1, -1, 0, 10, 11, 20, 21, 99, 100, lowest, highest, 1 << 32, 256}
		for _, value := range values {
			law := free
			*numbersOf(&law)[i].value = value
			valid := value >= x.least && value <= x.most
			expect(t, impl.IsLaw(law), valid, "IsLaw %s", looseLawText(law))
			expect(t, impl.FormatLaw(law) != "", valid, "FormatLaw %s", looseLawText(law))
		}
	}
	least, most := impl.Law{Wives: 1, Husbands: 1}, impl.Law{Degree: 20, Canon: 10, Affinity: 20, Age: 99, Wives: 9, Husbands: 9, Patriline: true, Matriline: true}
	expect(t, impl.IsLaw(least) && impl.IsLaw(most), true, "the least and the greatest numbers")
	expect(t, impl.IsLaw(impl.Law{}), false, "the zero value")
	for _, law := range notLaws() {
		expect(t, impl.IsLaw(law), false, "IsLaw %s", looseLawText(law))
	}
}

func TestP2LawText(t *testing.T) {
	cases := map[string]impl.Law{
		"degree 4 canon 0 affinity 0 age 16 wives 1 husbands 1 patriline no matriline no":      {Degree: 4, Age: 16, Wives: 1, Husbands: 1},
		"degree 0 canon 0 affinity 0 age 0 wives 1 husbands 1 patriline no matriline no":       {Wives: 1, Husbands: 1},
		"degree 20 canon 10 affinity 20 age 99 wives 9 husbands 9 patriline yes matriline yes": {Degree: 20, Canon: 10, Affinity: 20, Age: 99, Wives: 9, Husbands: 9, Patriline: true, Matriline: true},
		"degree 1 canon 2 affinity 3 age 4 wives 5 husbands 6 patriline yes matriline no":      {Degree: 1, Canon: 2, Affinity: 3, Age: 4, Wives: 5, Husbands: 6, Patriline: true},
		"degree 6 canon 5 affinity 4 age 30 wives 2 husbands 1 patriline no matriline yes":     {Degree: 6, Canon: 5, Affinity: 4, Age: 30, Wives: 2, Husbands: 1, Matriline: true},
	}
	for text, law := range cases {
		expect(t, impl.FormatLaw(law), text, "FormatLaw")
		got, ok := impl.ParseLaw(text)
		expect(t, got == law && ok, true, "ParseLaw %q", text)
	}
}

func TestP2LawsAreReadBack(t *testing.T) {
	r := newChance(174)
	for range 2000 {
		law := chanceLaw(r)
		text := impl.FormatLaw(law)
		expect(t, text, wantLawText(law), "FormatLaw")
		got, ok := impl.ParseLaw(text)
		expect(t, got == law && ok, true, "ParseLaw %q", text)
	}
	for _, law := range notLaws() {
		expect(t, impl.FormatLaw(law), "", "FormatLaw %s", looseLawText(law))
		checkNoLaw(t, looseLawText(law))
	}
}

func checkNoLaw(t *testing.T, text string) {
	t.Helper()
	law, ok := impl.ParseLaw(text)
	expect(t, ok || law != impl.Law{}, false, "ParseLaw %.200q is %v, %v", text, law, ok)
}

func TestP2OtherLawTexts(t *testing.T) {
	const text = "degree 4 canon 0 affinity 0 age 16 wives 1 husbands 1 patriline no matriline no"
	texts := []string{
		"", " ", "\n", "degree", "degree 4", "no", text + " ", " " + text, text + "\n", "\n" + text, text + " no", text + " " + text, text + "\x00",
		strings.ReplaceAll(text, " ", "  "), strings.ReplaceAll(text, " ", "\t"), strings.ReplaceAll(text, " ", ""), strings.ToUpper(text),
		"canon 0 degree 4 affinity 0 age 16 wives 1 husbands 1 patriline no matriline no",
		"degree 4 canon 0 affinity 0 age 16 wives 1 husbands 1 matriline no patriline no",
		"4 degree 0 canon 0 affinity 16 age 1 wives 1 husbands no patriline no matriline",
		"degree 4 canon 0 affinity 0 age 16 wives 1 husbands 1 patriline no",
		"degree 4 canon 0 affinity 0 age 16 wives 1 husbands 1",
		"degree 4 canon 0 affinity 0 age 16 husbands 1 patriline no matriline no",
		strings.Repeat(" ", 15), strings.Repeat("degree 1 ", 7) + "degree 1", strings.Repeat("a ", 1000000), strings.Repeat(" ", 1000000),
		strings.Replace(text, "16", strings.Repeat("0", 1000000)+"16", 1), strings.Replace(text, "16", strings.Repeat("9", 1000000), 1),
	}
	for _, word := range []string{"degree 4", "canon 0", "age 16", "wives 1"} {
		name, number, _ := strings.Cut(word, " ")
		for _, other := range []string{"", "-", "+" + number, "-" + number, "0" + number, "00", number + ".0", number + "e0", "0x1", "1_0", "٣", "-0", "-1", "100", "18446744073709551617", "4294967300", "yes", "no", number + "\xff", "a", ":", "/"} {
			texts = append(texts, strings.Replace(text, word, name+" "+other, 1))
		}
	}
	for _, other := range []string{"", "-", "No", "NO", "n", "noo", "yess", "Yes", "YES", "y", "true", "false", "0", "1", "no\n", "yes\x00"} {
		texts = append(texts, text[:len(text)-2]+other, strings.Replace(text, "patriline no", "patriline "+other, 1))
	}
	for _, word := range []string{"degree", "canon", "affinity", "age", "wives", "husbands", "patriline", "matriline"} {
		for _, other := range []string{"", "x", word + "s", word[1:], strings.ToUpper(word), "degre", "law"} {
			texts = append(texts, strings.Replace(text, word, other, 1))
		}
	}
	for _, s := range texts {
		checkNoLaw(t, s)
	}
}

// TestP2ChangedLawTexts changes, removes and adds each byte of texts: what is still read is the text of what is read.
func TestP2ChangedLawTexts(t *testing.T) {
	read := 0
	for _, text := range []string{
		"degree 4 canon 1 affinity 0 age 16 wives 1 husbands 9 patriline no matriline yes",
		"degree 20 canon 10 affinity 2 age 99 wives 5 husbands 1 patriline yes matriline no",
	} {
		eachChange(text, func(s string) {
			law, ok := impl.ParseLaw(s)
			if ok && (wantLawText(law) != s || impl.FormatLaw(law) != s) || !ok && law != (impl.Law{}) {
				t.Errorf("ParseLaw %q is %v, %v", s, law, ok)
			}
			if ok {
				read++
			}
		})
	}
	if read < 100 {
		t.Errorf("%d changed texts are read", read)
	}
}

// TestP2AllNumbersOfLaws reads each number in each place.
func TestP2AllNumbersOfLaws(t *testing.T) {
	for i, x := range numbersOf(&impl.Law{}) {
		for value := -3; value < 130; value++ {
			law := impl.Law{Degree: 7, Canon: 7, Affinity: 7, Age: 7, Wives: 7, Husbands: 7, Patriline: true}
			*numbersOf(&law)[i].value = value
			got, ok := impl.ParseLaw(looseLawText(law))
			valid := value >= x.least && value <= x.most
			expect(t, ok, valid, "ParseLaw %s", looseLawText(law))
			expect(t, fmt.Sprint(got == law), fmt.Sprint(valid), "ParseLaw %s is %v", looseLawText(law), got)
		}
	}
}
