package milestone

import (
	"strings"

	"scorebook/api"
	"scorebook/text"
)

// names has the word of each kind of milestone, from the first one on.
var names = [...]string{"BATTER", "BOWLER", "TEAM", "STAND", "HATTRICK"}

// Text returns the text of a mark.
func Text(m api.Mark) (string, api.Errno) {
	if m.Kind < BatterRuns || m.Kind > HatTrick {
		return "", api.ErrType
	}
	words := names[m.Kind-BatterRuns]
	for _, n := range []int{m.Player, m.Value, m.Event} {
		if !isNumber(n) {
			return "", api.ErrRange
		}
		words += " " + text.Decimal(int64(n))
	}
	return words, api.OK
}

func isNumber(n int) bool { return n >= 0 && n <= MaxNumber }

// Parse returns the mark with a text.
func Parse(s string) (api.Mark, api.Errno) {
	words := strings.Split(s, " ")
	kind := kindOf(words[0])
	if len(words) != 4 || kind == 0 {
		return api.Mark{}, api.ErrForm
	}
	var n [3]int
	for i, word := range words[1:] {
		number, e := text.Number(word, 0, MaxNumber)
		if e != api.OK {
			return api.Mark{}, api.ErrForm
		}
		n[i] = int(number)
	}
	return api.Mark{Kind: kind, Player: n[0], Value: n[1], Event: n[2]}, api.OK
}

// kindOf returns the kind of milestone with a word, 0 if there is none.
func kindOf(word string) int {
	for i, name := range names {
		if name == word {
			return BatterRuns + i
		}
	}
	return 0
}
