package lex

import (
	"strings"

	"winnower/api"
)

const (
	letters = "ABCDEFGHIJKLMNOPQRSTUVWXYZabcdefghijklmnopqrstuvwxyz_"
	digits  = "0123456789"
	blanks  = " \t\r\n"
)

// mostDigits is how many digits a number may have: no number of so few is above MaxInt.
const mostDigits = 3

var keywords = [...]string{
	"class", "extends", "implements", "interface", "field", "static", "method", "init", "main", "var", "new",
	"null", "input", "throw", "try", "catch", "if", "else", "while", "return", "int", "void",
}

var signs = [...]string{"{", "}", "(", ")", "[", "]", ";", ",", "=", ".", "<", "+", "-", "::"}

// octets tells which octets are meant.
type octets func(octet byte) bool

// among are the octets of a set.
func among(set string) octets {
	return func(octet byte) bool { return strings.IndexByte(set, octet) >= 0 }
}

// but are all octets that others are not.
func but(others octets) octets {
	return func(octet byte) bool { return !others(octet) }
}

// measure tells how many octets at a text's start belong together; 0: something else stands there.
type measure func(text string) int

// run measures one octet and all that may stand behind it.
func run(first, behind octets) measure {
	return func(text string) int {
		if text == "" || !first(text[0]) {
			return 0
		}
		size := 1
		for size < len(text) && behind(text[size]) {
			size++
		}
		return size
	}
}

// word measures a word, however long.
func word() measure {
	return run(among(letters), among(letters+digits))
}

// number measures a number, however long.
func number() measure {
	return run(among(digits), among(digits))
}

// sign measures the longest sign.
func sign() measure {
	return func(text string) int {
		size := 0
		for _, s := range signs {
			if strings.HasPrefix(text, s) {
				size = max(size, len(s))
			}
		}
		return size
	}
}

// gap measures blanks, or a remark: of several in a row the first one.
func gap() measure {
	blank, remark := run(among(blanks), among(blanks)), run(among("#"), but(among("\n")))
	return func(text string) int { return max(blank(text), remark(text)) }
}

// shape is what tokens of a kind look like, and how many octets they may have.
type shape struct {
	kind int
	size measure
	most int
}

// shapes are those of all kinds of tokens: no octet begins two of them.
func shapes() []shape {
	return []shape{
		{api.TokWord, word(), api.MaxWord},
		{api.TokNum, number(), mostDigits},
		{api.TokSign, sign(), len("::")},
	}
}
