package syntax

import (
	"slices"
	"strings"
	"testing"

	"bramble/api"
	"bramble/ranges"
)

const classLetters = "dwsDWS"

// stored is the variable of a letter.
func stored(letter rune) []api.Range {
	return [][]api.Range{digits, words, spaces, notDigits, notWords, notSpaces}[strings.IndexRune(classLetters, letter)]
}

func TestClassesThatStandAreTheOnesMadeAnew(t *testing.T) {
	for _, letter := range classLetters {
		given, ok := Class(letter)
		made, okMade := classOf(letter)
		if !ok || !okMade || len(made) == 0 || !slices.Equal(made, stored(letter)) || !slices.Equal(made, given) {
			t.Errorf("%c: stored %v, given %v (%v), made %v (%v)", letter, stored(letter), given, ok, made, okMade)
		}
		if !slices.Equal(made, ranges.Form(made)) {
			t.Errorf("%c: made %v is not the one form", letter, made)
		}
	}
}

func TestOtherLettersHaveNoClass(t *testing.T) {
	for letter := end; letter < 0x300; letter++ {
		if strings.ContainsRune(classLetters, letter) {
			continue
		}
		given, ok := Class(letter)
		made, okMade := classOf(letter)
		if given != nil || ok || made != nil || okMade {
			t.Errorf("%q: given %v (%v), made %v (%v)", letter, given, ok, made, okMade)
		}
	}
}

func TestClassesHaveTheirRunes(t *testing.T) {
	const numerals = "0123456789"
	for letters, list := range map[string]string{
		"dD": numerals,
		"wW": numerals + "ABCDEFGHIJKLMNOPQRSTUVWXYZ_abcdefghijklmnopqrstuvwxyz",
		"sS": "\t\n\r ",
	} {
		in, _ := classOf(rune(letters[0]))
		out, _ := classOf(rune(letters[1]))
		for r := range rune(api.MaxRune + 1) {
			if !ranges.IsRune(int(r)) {
				continue
			}
			if want := strings.ContainsRune(list, r); ranges.Has(in, int(r)) != want || ranges.Has(out, int(r)) == want {
				t.Errorf("%s: %q: want %v in the first one", letters, r, want)
			}
		}
	}
}

func TestClassIsACopy(t *testing.T) {
	for _, letter := range classLetters {
		given, _ := Class(letter)
		made, _ := classOf(letter)
		clear(given[:cap(given)])
		if !slices.Equal(stored(letter), made) {
			t.Errorf("%c: written over: %v", letter, stored(letter))
		}
		clear(made[:cap(made)])
		if again, _ := classOf(letter); !slices.Equal(again, stored(letter)) {
			t.Errorf("%c: made once more: %v", letter, again)
		}
	}
}
