"""Deeds and lines for the tests, and for each deed and refusal that a line can bring about a desk's lines.

The refusals are those of point 16 but for BadName: a name that is none makes no written deed.
"""

# All signs of texts, and some that look like signs of texts.
SIGNS = [chr(code) for code in range(32, 127) if chr(code) != chr(37)] + ["\n"]
OTHERS = ["\t", "\r", "\x00", "\x0b", "\x0c", "\x1c", "\x85", "\xa0", "\u2028", "\xb2", "\u0663", "\uff11", "\xe9"]
STRANGE = SIGNS + OTHERS
# One deed for each word and for each way in which a part is bound or free.
FORMS = [
    ("house", "anna", 5), ("in", "anna", 5), ("out", "anna", 5), ("fail", "anna"), ("mend", "anna"), ("days", 5),
    ("draw", "anna", "bert", "carl", 5, 6, True), ("draw", "anna", "bert", "carl", 5, 6, False), ("accept", 5, 6),
    ("sign", 5, 6, "anna", True), ("sign", 5, 6, "anna", False), ("blank", 5, 6, "anna", True),
    ("blank", 5, 6, "anna", False), ("hand", 5, 6, "anna"), ("lose", 5), ("present", 5, 6), ("protest", 5, 6),
    ("ask", 5, 6, 7), ("honour", 5, 6, "anna", 7), ("fair", ()), ("fair", ("anna",)), ("fair", ("anna", "bert")),
]
# The lines of stories.DEEDS, with a desk's answers.
ANSWERS = [
    ("house anna 100", "done"),
    ("house bert 50", "done"),
    ("house carl 0", "done"),
    ("house dora 20", "done"),
    ("in carl 30", "done"),
    ("out bert 5", "done"),
    ("draw bert anna carl 10 2 bound", "bill 1"),
    ("draw bert anna carl 20 2 free", "bill 2"),
    ("draw carl dora bert 5 2 bound", "bill 3"),
    ("draw carl dora bert 6 2 bound", "bill 4"),
    ("accept 1 1", "done"),
    ("accept 2 1", "done"),
    ("accept 4 1", "done"),
    ("sign 1 1 dora bound", "done"),
    ("blank 2 1 dora free", "done"),
    ("hand 2 1 bert", "done"),
    ("lose 2", "copy 2"),
    ("days 2", "done"),
    ("present 1 1", "paid"),
    ("fail anna", "done"),
    ("present 2 2", "unpaid"),
    ("present 3 1", "unpaid"),
    ("mend anna", "done"),
    ("protest 2 2", "done"),
    ("protest 3 1", "done"),
    ("honour 2 2 dora 0", "done"),
    ("ask 3 1 1", "carl pays"),
    ("ask 2 2 0", "anna pays"),
    ("fair dora bert", "paid 4"),
    ("fair", "paid"),
]

HOUSES = ["house anna 100", "house bert 100", "house carl 100", "house dora 100", "house emil 100"]
NINE = HOUSES + ["house f 0", "house g 0", "house h 0", "house i 0"]
DRAWN = HOUSES + ["draw bert anna carl 10 0 bound"]
ACCEPTED = DRAWN + ["accept 1 1"]
PAID = ACCEPTED + ["present 1 1"]
# Not accepted and not signed on: unpaid it has no open place, protested it has place 1.
UNPAID = DRAWN + ["present 1 1"]
PROTESTED = UNPAID + ["protest 1 1"]
# Signed on by carl; dora holds it.
SIGNED = ACCEPTED + ["sign 1 1 dora bound"]
BACK = SIGNED + ["fail anna", "present 1 1", "mend anna"]
CHAIN = BACK + ["protest 1 1"]
FORTY = HOUSES + ["draw bert anna carl 10 0 bound"] * 40
SIX = ACCEPTED + ["sign 1 1 dora bound", "sign 1 1 carl bound"] * 3
TOP = 10 ** 12
MOST = "9" * 30

# The word, the class of the refusal, the lines ahead, the line that is refused so.
REFUSED = [
    ("house", "Taken", HOUSES, "house anna 1"),
    ("house", "BadCoins", HOUSES, f"house fred {TOP + 1}"),
    ("house", "BadCoins", HOUSES, f"house fred {MOST}"),
    ("house", "Full", NINE, "house fred 1"),
    ("in", "NoHouse", HOUSES, "in fred 1"),
    ("in", "BadCoins", HOUSES, "in anna 0"),
    ("in", "BadCoins", HOUSES, f"in anna {TOP + 1}"),
    ("out", "NoHouse", HOUSES, "out fred 1"),
    ("out", "BadCoins", HOUSES, "out anna 0"),
    ("out", "BadCoins", HOUSES, f"out anna {TOP + 1}"),
    ("out", "NoCoins", HOUSES, "out anna 101"),
    ("fail", "NoHouse", HOUSES, "fail fred"),
    ("fail", "Failed", HOUSES + ["fail anna"], "fail anna"),
    ("mend", "NoHouse", HOUSES, "mend fred"),
    ("mend", "Standing", HOUSES, "mend anna"),
    ("days", "BadCount", HOUSES, "days 0"),
    ("days", "BadCount", HOUSES, "days 1001"),
    ("draw", "NoHouse", HOUSES, "draw fred anna carl 10 0 bound"),
    ("draw", "NoHouse", HOUSES, "draw bert fred carl 10 0 bound"),
    ("draw", "NoHouse", HOUSES, "draw bert anna fred 10 0 free"),
    ("draw", "Failed", HOUSES + ["fail bert"], "draw bert anna carl 10 0 bound"),
    ("draw", "BadCoins", HOUSES, "draw bert anna carl 0 0 bound"),
    ("draw", "BadCoins", HOUSES, f"draw bert anna carl {TOP + 1} 0 bound"),
    ("draw", "BadDay", HOUSES, "draw bert anna carl 10 1001 bound"),
    ("draw", "BadDay", HOUSES + ["days 5"], "draw bert anna carl 10 4 bound"),
    ("draw", "Full", FORTY, "draw bert anna carl 10 0 bound"),
    ("accept", "NoBill", DRAWN, "accept 0 1"),
    ("accept", "NoBill", DRAWN, "accept 2 1"),
    ("accept", "Void", DRAWN, "accept 1 2"),
    ("accept", "Void", DRAWN + ["lose 1"], "accept 1 1"),
    ("accept", "Failed", DRAWN + ["fail anna"], "accept 1 1"),
    ("accept", "Closed", UNPAID, "accept 1 1"),
    ("accept", "Accepted", ACCEPTED, "accept 1 1"),
    ("lose", "NoBill", DRAWN, "lose 2"),
    ("lose", "Closed", PAID, "lose 1"),
    ("lose", "Full", DRAWN + ["lose 1", "lose 1"], "lose 1"),
    ("hand", "NoBill", ACCEPTED, "hand 2 1 dora"),
    ("hand", "Void", ACCEPTED, "hand 1 0 dora"),
    ("hand", "NoHouse", ACCEPTED, "hand 1 1 fred"),
    ("hand", "Closed", PAID, "hand 1 1 dora"),
    ("hand", "NotBlank", SIGNED, "hand 1 1 emil"),
    ("hand", "Same", ACCEPTED + ["blank 1 1 dora free"], "hand 1 1 dora"),
    ("present", "NoBill", ACCEPTED, "present 2 1"),
    ("present", "Void", ACCEPTED, "present 1 2"),
    ("present", "Closed", PAID, "present 1 1"),
    ("present", "Closed", UNPAID, "present 1 1"),
    ("present", "NotYet", HOUSES + ["draw bert anna carl 10 1 bound"], "present 1 1"),
    ("protest", "NoBill", UNPAID, "protest 2 1"),
    ("protest", "Void", UNPAID, "protest 1 2"),
    ("protest", "Closed", PAID, "protest 1 1"),
    ("protest", "NotPresented", ACCEPTED, "protest 1 1"),
    ("protest", "Protested", PROTESTED, "protest 1 1"),
    ("protest", "TooLate", UNPAID + ["days 4"], "protest 1 1"),
    ("ask", "NoBill", CHAIN, "ask 0 1 1"),
    ("ask", "Void", CHAIN, "ask 1 2 1"),
    ("ask", "Closed", PAID, "ask 1 1 0"),
    ("ask", "NotPresented", ACCEPTED, "ask 1 1 0"),
    ("ask", "NotBound", CHAIN, "ask 1 1 3"),
    ("ask", "NotBound", BACK, "ask 1 1 1"),
    ("ask", "NotBound", PROTESTED, "ask 1 1 0"),
    ("ask", "NotBound", CHAIN, f"ask 1 1 {MOST}"),
    ("ask", "CantPay", CHAIN + ["out carl 91"], "ask 1 1 2"),
    ("ask", "CantPay", CHAIN + ["fail carl"], "ask 1 1 2"),
    ("honour", "NoBill", CHAIN, "honour 2 1 emil 2"),
    ("honour", "Void", CHAIN, "honour 1 3 emil 2"),
    ("honour", "NoHouse", CHAIN, "honour 1 1 fred 2"),
    ("honour", "Closed", PAID, "honour 1 1 emil 0"),
    ("honour", "NotPresented", ACCEPTED, "honour 1 1 emil 0"),
    ("honour", "NotProtested", BACK, "honour 1 1 emil 0"),
    ("honour", "NotBound", CHAIN, "honour 1 1 emil 3"),
    ("honour", "Same", CHAIN, "honour 1 1 dora 2"),
    ("honour", "IsBound", CHAIN, "honour 1 1 carl 0"),
    ("honour", "CantPay", CHAIN + ["fail emil"], "honour 1 1 emil 0"),
    ("fair", "NoHouse", HOUSES, "fair anna fred"),
    ("fair", "Twice", HOUSES, "fair anna bert anna"),
]
for word in ("sign", "blank"):
    REFUSED += [
        (word, "NoBill", ACCEPTED, f"{word} 2 1 dora bound"),
        (word, "Void", ACCEPTED, f"{word} 1 2 dora bound"),
        (word, "NoHouse", ACCEPTED, f"{word} 1 1 fred free"),
        (word, "Failed", ACCEPTED + ["fail carl"], f"{word} 1 1 dora bound"),
        (word, "Closed", PAID, f"{word} 1 1 dora bound"),
        (word, "Same", ACCEPTED, f"{word} 1 1 carl bound"),
        (word, "Full", SIX, f"{word} 1 1 dora bound"),
    ]
