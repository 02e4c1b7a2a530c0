package run

import (
	"errors"
	"strconv"
	"strings"

	"sextant/api"
)

// maxDigits is how many digits a number of a line may have.
const maxDigits = 9

// leading gives the numbers that a text begins with, as many as are wanted, and what is left behind them; false, if they are not there.
func leading(text string, wanted int) ([]int, string, bool) {
	var numbers []int
	for range wanted {
		digits, left, _ := strings.Cut(text, " ")
		n, ok := number(digits)
		if !ok {
			return nil, "", false
		}
		numbers = append(numbers, n)
		text = left
	}
	return numbers, text, true
}

// number is the number that digits make; false, if they make none.
func number(digits string) (int, bool) {
	if digits == "" || len(digits) > maxDigits || len(digits) > 1 && digits[0] == '0' {
		return 0, false
	}
	n := 0
	for _, c := range digits {
		if c < '0' || c > '9' {
			return 0, false
		}
		n = 10*n + int(c-'0')
	}
	return n, true
}

// filled is a form with a number in the place of each of its #.
func filled(form string, numbers ...int) string {
	for _, n := range numbers {
		form = strings.Replace(form, "#", strconv.Itoa(n), 1)
	}
	return form
}

// line ends a line.
func line(text string) string {
	return text + "\n"
}

// refusal is what is told of an error that has no place.
func refusal(err error) string {
	var told api.Errno
	errors.As(err, &told) // all errors of the program are such numbers, or wrap one (P3)
	return "error " + told.Error()
}

// fault is what is told of a fault, and where it is.
func fault(at int, err error) string {
	return refusal(err) + filled(" at #", at)
}

// holding tells whether something holds.
func holding(so bool) string {
	if so {
		return "holds"
	}
	return "fails"
}

// agreed tells whether something is so.
func agreed(so bool) string {
	if so {
		return "yes"
	}
	return "no"
}
