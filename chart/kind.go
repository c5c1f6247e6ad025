package chart

import "variorum/api"

// kindNumber is what an account has as its Kind, whether there is such a kind or not.
type kindNumber int

func (k kindNumber) isAsset() bool     { return k == api.Asset }
func (k kindNumber) isLiability() bool { return k == api.Liability }
func (k kindNumber) isEquity() bool    { return k == api.Equity }
func (k kindNumber) isIncome() bool    { return k == api.Income }
func (k kindNumber) isExpense() bool   { return k == api.Expense }

// question is what a kind is asked.
type question func(kindNumber) bool

// questions has one for each kind that there is, to which it alone says yes.
func questions() []question {
	return []question{
		kindNumber.isAsset,
		kindNumber.isLiability,
		kindNumber.isEquity,
		kindNumber.isIncome,
		kindNumber.isExpense,
	}
}

// saysYes tells whether a kind says yes to one of the questions.
func saysYes(kind int, l ...question) bool {
	for _, ask := range l {
		if ask(kindNumber(kind)) {
			return true
		}
	}
	return false
}

// known tells whether there is such a kind.
func known(kind int) bool {
	return saysYes(kind, questions()...)
}

// questionsOf tells the questions to which one of the kinds says yes, each once, however often a kind is named.
func questionsOf(kinds []int) []question {
	var asked []question
	for _, ask := range questions() {
		for _, kind := range kinds {
			if ask(kindNumber(kind)) {
				asked = append(asked, ask)
				break
			}
		}
	}
	return asked
}

// Debit tells whether a kind's balances are debits.
func Debit(kind int) bool {
	return saysYes(kind, kindNumber.isAsset, kindNumber.isExpense)
}
