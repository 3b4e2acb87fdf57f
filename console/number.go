package console

import (
	"strconv"
	"strings"
)

const maxDigits = 10

// number that a word is, if it is one: each number has one word only, so no 0 stands ahead, and no - ahead of 0.
func number(word string) (int, error) {
	digits := strings.TrimPrefix(word, "-")
	if !isDigits(digits) || len(digits) > maxDigits || digits[0] == '0' && word != "0" {
		return 0, errBad
	}
	n, err := strconv.Atoi(word)
	if err != nil {
		return 0, errBad
	}
	return n, nil
}

// isDigits: at least one, and nothing else.
func isDigits(s string) bool { return s != "" && strings.Trim(s, "0123456789") == "" }

// numbers that words are, if all of them are.
func numbers(words ...string) ([]int, error) {
	var l []int
	for _, w := range words {
		n, err := number(w)
		if err != nil {
			return nil, err
		}
		l = append(l, n)
	}
	return l, nil
}

// tellNumbers with a blank between.
func tellNumbers(l ...int) string {
	var words []string
	for _, n := range l {
		words = append(words, strconv.Itoa(n))
	}
	return strings.Join(words, " ")
}
