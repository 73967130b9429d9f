package disposal

import (
	"iter"
	"strconv"
	"strings"

	"draghead/api"
)

// The words with which the lines begin.
const (
	pitWord     = "pit"
	bulkingWord = "bulking"
	depositWord = "deposit"
)

// How many words the lines have, that of a pit without its classes.
const (
	pitWords     = 6
	bulkingWords = 5
	depositWords = 4
)

const (
	mostBytes = 20000
	mostSize  = 999999999999999 // the greatest number with 15 digits
)

// Print returns the text of a yard (P9.8).
func Print(s api.Yard) (string, api.Errno) {
	if e := Check(s); e != api.OK {
		return "", e
	}
	var out strings.Builder
	for _, p := range s.Pits {
		numbers := append([]int{p.Area, p.Base, p.Top, p.Price}, p.Classes...)
		out.WriteString(textOf(pitWord+" "+p.Name, numbers...))
	}
	for k, f := range s.Bulking {
		out.WriteString(textOf(bulkingWord+" "+f.Soil, f.Factor.Num, f.Factor.Den, s.Carry[k]))
	}
	for _, d := range s.Deposits {
		out.WriteString(textOf(depositWord+" "+strconv.Itoa(d.Batch)+" "+d.Pit, d.Volume))
	}
	return out.String(), api.OK
}

// Parse returns the yard whose text it is, or the line that is wrong and the error.
func Parse(text string) (api.Yard, int, api.Errno) {
	if len(text) > mostBytes {
		return api.Yard{}, 0, api.ErrLarge
	}
	s, wrong := read(text)
	if wrong > 0 {
		return api.Yard{}, wrong, api.ErrSyntax
	}
	if e := Check(s); e != api.OK {
		return api.Yard{}, 0, e
	}
	return s, 0, api.OK
}

// textOf writes a line: how it begins, and its numbers.
func textOf(head string, numbers ...int) string {
	for _, n := range numbers {
		head += " " + strconv.Itoa(n)
	}
	return head + "\n"
}

// lines yields the lines of a text, and whether they have a line feed at their end.
func lines(text string) iter.Seq2[string, bool] {
	return func(yield func(string, bool) bool) {
		for rest := text; rest != ""; {
			line, behind, isEnded := strings.Cut(rest, "\n")
			if !yield(line, isEnded) {
				return
			}
			rest = behind
		}
	}
}

// read returns a yard, which may have errors, and the number of the first line that has not the required form, or 0.
func read(text string) (api.Yard, int) {
	var s api.Yard
	count := 0
	for line, isEnded := range lines(text) {
		count++
		if !isEnded || !readLine(&s, strings.Split(line, " ")) {
			return api.Yard{}, count
		}
	}
	return s, 0
}

// readLine takes the words of a line up into a yard; false if they are not what may stand there.
func readLine(s *api.Yard, words []string) bool {
	switch words[0] {
	case pitWord:
		return len(s.Bulking) == 0 && len(s.Deposits) == 0 && readPit(s, words)
	case bulkingWord:
		return len(s.Deposits) == 0 && readBulking(s, words)
	case depositWord:
		return readDeposit(s, words)
	}
	return false
}

func readPit(s *api.Yard, words []string) bool {
	if len(words) < pitWords || words[1] == "" {
		return false
	}
	v, ok := readNumbers(words[2:])
	if !ok {
		return false
	}
	s.Pits = append(s.Pits, api.Pit{Name: words[1], Area: v[0], Base: v[1], Top: v[2], Price: v[3], Classes: v[4:]})
	return true
}

func readBulking(s *api.Yard, words []string) bool {
	if len(words) != bulkingWords || words[1] == "" {
		return false
	}
	v, ok := readNumbers(words[2:])
	if !ok {
		return false
	}
	s.Bulking = append(s.Bulking, api.Bulking{Soil: words[1], Factor: api.Frac{Num: v[0], Den: v[1]}})
	s.Carry = append(s.Carry, v[2])
	return true
}

func readDeposit(s *api.Yard, words []string) bool {
	if len(words) != depositWords || words[2] == "" {
		return false
	}
	v, ok := readNumbers([]string{words[1], words[3]})
	if !ok {
		return false
	}
	s.Deposits = append(s.Deposits, api.Deposit{Batch: v[0], Pit: words[2], Volume: v[1]})
	return true
}

func readNumbers(words []string) ([]int, bool) {
	var out []int
	for _, word := range words {
		n, err := strconv.Atoi(word)
		// A text that is not written back as it was has leading zeros, a plus sign or "-0".
		if err != nil || !within(n, -mostSize, mostSize) || strconv.Itoa(n) != word {
			return nil, false
		}
		out = append(out, n)
	}
	return out, true
}
