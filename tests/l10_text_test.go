package tests

import (
	"fmt"
	"strings"
	"testing"

	"loop.example/g03221/impl"
)

func TestP13CustomConstants(t *testing.T) {
	got := []int{impl.PreferAny, impl.PreferMen, impl.PreferWomen, impl.OnlyMen, impl.OnlyWomen}
	expect(t, got, []int{0, 1, 2, 3, 4}, "the constants")
	const women, none = impl.OnlyWomen << 60 >> 60, impl.PreferAny
	expect(t, fmt.Sprintf("%T %T", women, none), "int int", "the types of constants")
}

func TestP13IsCustom(t *testing.T) {
	for _, x := range allCustoms() {
		expect(t, impl.IsCustom(x), true, "IsCustom %v", x)
	}
	expect(t, impl.IsCustom(impl.Custom{}), true, "the zero value")
	for _, x := range notCustoms() {
		expect(t, impl.IsCustom(x), false, "IsCustom %v", x)
		expect(t, impl.FormatCustom(x), "", "FormatCustom %v", x)
	}
	for prefer := -300; prefer <= 300; prefer++ {
		x := impl.Custom{Prefer: prefer}
		expect(t, impl.IsCustom(x), prefer >= 0 && prefer <= 4, "IsCustom %v", x)
		expect(t, impl.FormatCustom(x), wantCustomText(x), "FormatCustom %v", x)
	}
}

func TestP2CustomText(t *testing.T) {
	cases := map[string]impl.Custom{
		"any":                           {},
		"men":                           {Prefer: impl.PreferMen},
		"women":                         {Prefer: impl.PreferWomen},
		"only men":                      {Prefer: impl.OnlyMen},
		"only women":                    {Prefer: impl.OnlyWomen},
		"any youngest":                  {Youngest: true},
		"any represent":                 {Represent: true},
		"any youngest represent":        {Youngest: true, Represent: true},
		"men represent":                 {Prefer: impl.PreferMen, Represent: true},
		"women youngest":                {Prefer: impl.PreferWomen, Youngest: true},
		"only men represent":            {Prefer: impl.OnlyMen, Represent: true},
		"only women youngest represent": {Prefer: impl.OnlyWomen, Youngest: true, Represent: true},
	}
	for text, x := range cases {
		expect(t, impl.FormatCustom(x), text, "FormatCustom")
		got, ok := impl.ParseCustom(text)
		expect(t, got == x && ok, true, "ParseCustom %q", text)
	}
}

func TestP2CustomsAreReadBack(t *testing.T) {
	seen := map[string]bool{}
	for _, x := range allCustoms() {
		text := impl.FormatCustom(x)
		expect(t, text, wantCustomText(x), "FormatCustom %v", x)
		got, ok := impl.ParseCustom(text)
		expect(t, got == x && ok, true, "ParseCustom %q", text)
		seen[text] = true
	}
	expect(t, len(seen), 20, "different texts")
}

func checkNoCustom(t *testing.T, text string) {
	t.Helper()
	x, ok := impl.ParseCustom(text)
	expect(t, ok || x != impl.Custom{}, false, "ParseCustom %.200q is %v, %v", text, x, ok)
}

func TestP2OtherCustomTexts(t *testing.T) {
	texts := []string{
		"", " ", "\n", "only", "only ", "only any", "only only men", "men only", "any men", "men women", "men only women",
		"youngest", "represent", " youngest", " represent", " youngest represent", "youngest represent", "only youngest", "only represent",
		"any represent youngest", "any youngest youngest", "any represent represent", "any youngest represent represent", "any youngest represent youngest",
		"any eldest", "any young", "any youngest,represent", "anyyoungest", "anyrepresent", "any youngestrepresent", "man", "woman", "mens", "1", "0", "-1",
		"only  men", "only\tmen", "onlymen", "only_men", "Only men", "only Men", "ANY", "any\xff", "any\x00", "\u0430ny",
		strings.Repeat(" youngest", 100000), "any" + strings.Repeat(" represent", 100000), strings.Repeat("any", 100000), strings.Repeat(" ", 1000000),
	}
	for _, x := range allCustoms() {
		text := wantCustomText(x)
		texts = append(texts, text+" ", " "+text, text+"\n", "\n"+text, text+"\x00", "only "+text+" ", text+" "+text, strings.ToUpper(text), text[1:], text[:len(text)-1], text+"s")
		if strings.Contains(text, " ") {
			texts = append(texts, strings.ReplaceAll(text, " ", "  "), strings.ReplaceAll(text, " ", "\t"), strings.ReplaceAll(text, " ", ""))
		}
	}
	for _, s := range texts {
		checkNoCustom(t, s)
	}
}

// TestP2ChangedCustomTexts changes, removes and adds each byte of texts: what is still read is the text of what is read.
func TestP2ChangedCustomTexts(t *testing.T) {
	read := 0
	for _, x := range allCustoms() {
		eachChange(wantCustomText(x), func(s string) {
			got, ok := impl.ParseCustom(s)
			if ok && (wantCustomText(got) != s || impl.FormatCustom(got) != s) || !ok && got != (impl.Custom{}) {
				t.Errorf("ParseCustom %q is %v, %v", s, got, ok)
			}
			if ok {
				read++
			}
		})
	}
	if read < 100 {
		t.Errorf("%d changed texts are read", read)
	}
}

// TestP2AllCustomTexts: of all texts of up to four words, those of the customs are read.
func TestP2AllCustomTexts(t *testing.T) {
	words := []string{"any", "men", "women", "only", "youngest", "represent", ""}
	texts := []string{""}
	read := map[string]bool{}
	for n := range 4 {
		longer := []string{}
		for _, text := range texts {
			for _, word := range words {
				if n > 0 {
					word = text + " " + word
				}
				longer = append(longer, word)
				if x, ok := impl.ParseCustom(word); ok {
					read[word] = true
					expect(t, wantCustomText(x), word, "ParseCustom %q", word)
				}
			}
		}
		texts = longer
	}
	expect(t, len(read), 20, "texts that are read: %v", read)
}
